import PyProof.Rows.All
import Wide.All
import OpenK.AllK
import Wide.FinOn
import HandS.ForMost
import HandS.Exc
import HandS.WordsExc
import HandS.Walk
import HandS.Wide
import HandS.Style
import HandS.TupAny
import HandS.Zip
import HandS.IsInst
import HandS.Gcd
import HandS.Property
import HandS.Defaults
import HandS.DictComp
import HandS.ReCall
import HandS.Strs
import HandS.SortKw
import HandS.NamedTupSort
import HandS.TupSets
import KE.GoesMore
import KE.GoesEnum
import PyProof.WalksMore
import KE.GoesZip
import KE.KDictZip
import HandS.Star
import HandS.GenList
import PySem.Challenge.RW_mendworth_k09_whole_combinations
set_option Elab.async false
set_option linter.all false
set_option maxRecDepth 100000
set_option maxHeartbeats 4000000
namespace DL
open PySem PySem.Spec PyProof.Rows L2

/-! ### tuples whose object is known to have no dict -/
def SqM (K : PySem.W.Frag) (H : Hp) (a : Addr) (xs : List V) : Prop :=
  (∃ o : Obj, H a = some (.frz o (.tup xs)) ∧ o.dict = none) ∨ ∃ o its n, List.lookup a K = some o ∧ o.cls = Value.type "tuple" ∧ o.data = Data.seq its n ∧ its.size ≤ sizeLine ∧ Vals xs its.toList ∧ o.dict = none
theorem SqM.sq {K : PySem.W.Frag} {H : Hp} {a : Addr} {xs : List V} (h : SqM K H a xs) : SqT K H a xs := by
  rcases h with ⟨o, h, _⟩ | ⟨o, its, n, h1, h2, h3, h4, h5, _⟩
  · exact .inl (.inr ⟨o, h⟩)
  · exact .inr ⟨o, its, n, h1, h2, h3, h4, h5⟩
def tTupF (t : TA) : TE := fun σ H Q => t σ H fun xs H1 => xs.length ≤ sizeLine ∧ ∀ (p : Addr) (o : Obj), H1 p = none → o.dict = none → Q (V.ref p) (upd H1 p (.frz o (.tup xs)))
theorem pe_tupF {X : Cx} {es : List Expr} {t : TA} {pos : Pos} {x1 : Nat} (h : PA X es t) : PE X (Expr.Tuple es x1 pos) (tTupF t) where
  run := fun pins s σ H Q I hq =>
      wpAny_Tuple_spliced
        (thn (h.run pos pins s σ H (fun xs H1 => xs.length ≤ sizeLine ∧ ∀ (p : Addr) (o : Obj), H1 p = none → o.dict = none → Q (V.ref p) (upd H1 p (.frz o (.tup xs)))) I hq)
          fun us s1 x => by
          obtain ⟨xs, H1, I1, r, z, q⟩ := x
          refine ⟨by rw [← Vals.length r]; exact z, ?_⟩
          have hf := HOk.fresh I1.hok (Nat.le_refl s1.heap.objs.size)
          refine ⟨V.ref s1.heap.objs.size, upd H1 s1.heap.objs.size (.frz { cls := Value.type "tuple", data := Data.seq us.toArray } (.tup xs)), Inv.laid I1 (fun b u e => Heap.get?_push_of_some { cls := Value.type "tuple", data := Data.seq us.toArray } e) (Nat.le_refl s1.heap.objs.size) ⟨Heap.get?_push_size s1.heap rfl, z, us, r, { cls := Value.type "tuple", data := Data.seq us.toArray }, Heap.get?_push_size s1.heap rfl, rfl, 0, rfl⟩, rfl, q _ _ hf rfl⟩)
theorem call_tuple_ofF {X : Cx} : CallR X (Value.type "tuple") fun xs H Q => ∃ p ys, xs = [V.ref p] ∧ ((SqL X.K H p ys ∧ ∀ (l : Addr) (o : Obj), H l = none → o.dict = none → Q (V.ref l) (upd H l (.frz o (.tup ys)))) ∨ SqT X.K H p ys ∧ Q (V.ref p) H) := by
  intro pins s σ H xs us Q I r h
  obtain ⟨p, ys, rfl, h⟩ := h
  obtain ⟨u, rfl, rx⟩ := L2.vals1 r
  cases rx
  rcases h with ⟨hq, q⟩ | ⟨hq, q⟩
  · obtain ⟨its, r', pl, hz⟩ := Inv.list I hq
    have hlen := Vals.length r'
    refine call_tuple_list (PlainL.isList pl) (fun h' kp => ?_) (by simp only [List.size_toArray]; exact hlen ▸ hz)
    have I1 := Inv.kept (t' := s.toks) I kp
    have I2 := Inv.laid (o := .frz { cls := Value.type "tuple", data := Data.seq its.toArray } (.tup ys)) (a := h'.objs.size) (t' := s.toks) I1 (h' := (h'.push { cls := Value.type "tuple", data := Data.seq its.toArray })) (fun b o e => Heap.get?_push_of_some { cls := Value.type "tuple", data := Data.seq its.toArray } e) (Nat.le_refl _) ⟨Heap.get?_push_size h' rfl, hz, its, r', IsTup.new h' its.toArray⟩
    exact ⟨V.ref h'.objs.size, _, I2, rfl, q h'.objs.size _ (HOk.fresh I1.hok (Nat.le_refl _)) rfl⟩
  · obtain ⟨its, r', pl, hz⟩ := Inv.tuple I hq
    exact call_tuple_same pl ⟨V.ref p, H, I, rfl, q⟩

/-! ### data -/
inductive D where
  | non | bl (b : Bool) | int (i : Int) | str (s : Str)
  | lst (ds : List D) | tup (ds : List D) | ins (C : Addr) (fs : List (Str × D)) | dic (kvs : List (Key × D)) | scr (ns : List Int) | prs (ds : List D)

abbrev Hs := Hp

mutual
def Rp (K : PySem.W.Frag) (H : Hp) : D → V → Prop
  | .non, v => v = .non
  | .bl b, v => v = .bl b
  | .int i, v => v = .int i
  | .str s, v => v = .str s
  | .lst ds, v => ∃ a xs, v = .ref a ∧ H a = some (.lst xs) ∧ RpL K H ds xs
  | .tup ds, v => ∃ a xs, v = .ref a ∧ SqM K H a xs ∧ RpL K H ds xs
  | .prs ds, v => ∃ a xs, v = .ref a ∧ SqT K H a xs ∧ RpL K H ds xs
  | .ins C fs, v => ∃ a dx vs, v = .ref a ∧ H a = some (.ins C dx vs) ∧ RpF K H fs vs
  | .dic kvs, v => ∃ a vs, v = .ref a ∧ H a = some (.dK vs) ∧ RpD K H kvs vs
  | .scr ns, v => ∃ a, v = .ref a ∧ SqL K H a (ns.map V.int)
def RpL (K : PySem.W.Frag) (H : Hp) : List D → List V → Prop
  | [], xs => xs = []
  | d :: ds, xs => ∃ y ys, xs = y :: ys ∧ Rp K H d y ∧ RpL K H ds ys
def RpF (K : PySem.W.Frag) (H : Hp) : List (Str × D) → List (Str × V) → Prop
  | [], xs => xs = []
  | (f, d) :: ds, xs => ∃ y ys, xs = (f, y) :: ys ∧ Rp K H d y ∧ RpF K H ds ys
def RpD (K : PySem.W.Frag) (H : Hp) : List (Key × D) → List (Key × V) → Prop
  | [], xs => xs = []
  | (k, d) :: ds, xs => ∃ y ys, xs = (k, y) :: ys ∧ Rp K H d y ∧ RpD K H ds ys
end

theorem SqT.mono {K : PySem.W.Frag} {H H' : Hp} (e : Same H H') {a : Addr} {xs : List V} (h : SqT K H a xs) : SqT K H' a xs := by
  rcases h with (h | ⟨o, h⟩) | h
  · exact .inl (.inl (e _ _ h))
  · exact .inl (.inr ⟨o, e _ _ h⟩)
  · exact .inr h

theorem SqM.mono {K : PySem.W.Frag} {H H' : Hp} (e : Same H H') {a : Addr} {xs : List V} (h : SqM K H a xs) : SqM K H' a xs := by
  rcases h with ⟨o, h, d⟩ | h
  · exact .inl ⟨o, e _ _ h, d⟩
  · exact .inr h

mutual
theorem Rp.mono {K : PySem.W.Frag} {H H' : Hp} (e : Same H H') : ∀ {d : D} {v : V}, Rp K H d v → Rp K H' d v
  | .non, _, h => h
  | .bl _, _, h => h
  | .int _, _, h => h
  | .str _, _, h => h
  | .lst ds, _, ⟨a, xs, h1, h2, h3⟩ => ⟨a, xs, h1, e _ _ h2, RpL.mono e h3⟩
  | .tup ds, _, ⟨a, xs, h1, h2, h3⟩ => ⟨a, xs, h1, SqM.mono e h2, RpL.mono e h3⟩
  | .prs ds, _, ⟨a, xs, h1, h2, h3⟩ => ⟨a, xs, h1, SqT.mono e h2, RpL.mono e h3⟩
  | .ins C fs, _, ⟨a, dx, vs, h1, h2, h3⟩ => ⟨a, dx, vs, h1, e _ _ h2, RpF.mono e h3⟩
  | .dic kvs, _, ⟨a, vs, h1, h2, h3⟩ => ⟨a, vs, h1, e _ _ h2, RpD.mono e h3⟩
  | .scr ns, _, ⟨a, h1, h2⟩ => ⟨a, h1, e.seq h2⟩
theorem RpL.mono {K : PySem.W.Frag} {H H' : Hp} (e : Same H H') : ∀ {d : List D} {v : List V}, RpL K H d v → RpL K H' d v
  | [], _, h => h
  | _ :: _, _, ⟨y, ys, h1, h2, h3⟩ => ⟨y, ys, h1, Rp.mono e h2, RpL.mono e h3⟩
theorem RpF.mono {K : PySem.W.Frag} {H H' : Hp} (e : Same H H') : ∀ {d : List (Str × D)} {v : List (Str × V)}, RpF K H d v → RpF K H' d v
  | [], _, h => h
  | (_, _) :: _, _, ⟨y, ys, h1, h2, h3⟩ => ⟨y, ys, h1, Rp.mono e h2, RpF.mono e h3⟩
theorem RpD.mono {K : PySem.W.Frag} {H H' : Hp} (e : Same H H') : ∀ {d : List (Key × D)} {v : List (Key × V)}, RpD K H d v → RpD K H' d v
  | [], _, h => h
  | (_, _) :: _, _, ⟨y, ys, h1, h2, h3⟩ => ⟨y, ys, h1, Rp.mono e h2, RpD.mono e h3⟩
end
example (K : PySem.W.Frag) (H : Hp) (i : Int) (v : V) (h : Rp K H (.int i) v) : v = .int i := h
end DL

namespace DL
open PySem PySem.Spec PyProof.Rows L2

/-! ### the shared part of a heap -/
open Classical in
noncomputable def wo (H : Hp) (M : Addr → Prop) : Hp := fun a => if M a then none else H a
open Classical in
theorem wo_get {H : Hp} {M : Addr → Prop} {a : Addr} (h : ¬ M a) : wo H M a = H a := if_neg h
open Classical in
theorem wo_some {H : Hp} {M : Addr → Prop} {a : Addr} {o : HO} (h : wo H M a = some o) : ¬ M a ∧ H a = some o := by
  unfold wo at h
  split at h
  · cases h
  · exact ⟨‹_›, h⟩
theorem wo_le {H : Hp} {M : Addr → Prop} : Same (wo H M) H := fun a o h => (wo_some h).2
/-- the shared part grows -/
theorem wo_mono {H H' : Hp} {M M' : Addr → Prop} (h : ∀ a o, ¬ M a → H a = some o → ¬ M' a ∧ H' a = some o) : Same (wo H M) (wo H' M') := fun a o e => by
  obtain ⟨h1, h2⟩ := wo_some e
  obtain ⟨h3, h4⟩ := h a o h1 h2
  rw [wo_get h3]
  exact h4

/-! ### the top of a value is read from the whole heap, what is within from the shared part -/
def RpTop (K : PySem.W.Frag) (Hm H : Hp) : D → V → Prop
  | .lst ds, v => ∃ a xs, v = .ref a ∧ H a = some (.lst xs) ∧ RpL K Hm ds xs
  | .ins C fs, v => ∃ a dx vs, v = .ref a ∧ H a = some (.ins C dx vs) ∧ RpF K Hm fs vs
  | .dic kvs, v => ∃ a vs, v = .ref a ∧ H a = some (.dK vs) ∧ RpD K Hm kvs vs
  | d, v => Rp K Hm d v
theorem Rp.top {K : PySem.W.Frag} {Hm H : Hp} (e : Same Hm H) {d : D} {v : V} (h : Rp K Hm d v) : RpTop K Hm H d v := by
  cases d with
  | lst ds => obtain ⟨a, xs, h1, h2, h3⟩ := h; exact ⟨a, xs, h1, e _ _ h2, h3⟩
  | tup ds => exact h
  | prs ds => exact h
  | ins C fs => obtain ⟨a, dx, vs, h1, h2, h3⟩ := h; exact ⟨a, dx, vs, h1, e _ _ h2, h3⟩
  | dic kvs => obtain ⟨a, vs, h1, h2, h3⟩ := h; exact ⟨a, vs, h1, e _ _ h2, h3⟩
  | scr ns => exact h
  | non => exact h
  | bl b => exact h
  | int i => exact h
  | str s => exact h
theorem RpTop.full {K : PySem.W.Frag} {Hm H : Hp} (e : Same Hm H) {d : D} {v : V} (h : RpTop K Hm H d v) : Rp K H d v := by
  cases d with
  | lst ds => obtain ⟨a, xs, h1, h2, h3⟩ := h; exact ⟨a, xs, h1, h2, RpL.mono e h3⟩
  | tup ds => exact Rp.mono e h
  | prs ds => exact Rp.mono e h
  | ins C fs => obtain ⟨a, dx, vs, h1, h2, h3⟩ := h; exact ⟨a, dx, vs, h1, h2, RpF.mono e h3⟩
  | dic kvs => obtain ⟨a, vs, h1, h2, h3⟩ := h; exact ⟨a, vs, h1, h2, RpD.mono e h3⟩
  | scr ns => exact Rp.mono e h
  | non => exact h
  | bl b => exact h
  | int i => exact h
  | str s => exact h
/-- what may be owned: an object that may change -/
def isMut : D → Prop
  | .lst _ => True
  | .ins _ _ => True
  | .dic _ => True
  | _ => False
theorem RpTop.addr {K : PySem.W.Frag} {Hm H : Hp} {d : D} {v : V} (h : RpTop K Hm H d v) (m : isMut d) : ∃ a o, v = .ref a ∧ H a = some o ∧ (∀ xs, o ≠ .tup xs) := by
  cases d with
  | lst ds => obtain ⟨a, xs, h1, h2, h3⟩ := h; exact ⟨a, _, h1, h2, fun xs z => by cases z⟩
  | ins C fs => obtain ⟨a, dx, vs, h1, h2, h3⟩ := h; exact ⟨a, _, h1, h2, fun xs z => by cases z⟩
  | dic kvs => obtain ⟨a, vs, h1, h2, h3⟩ := h; exact ⟨a, _, h1, h2, fun xs z => by cases z⟩
  | scr ns => exact m.elim
  | tup ds => exact m.elim
  | prs ds => exact m.elim
  | non => exact m.elim
  | bl b => exact m.elim
  | int i => exact m.elim
  | str s => exact m.elim
/-- the shared part grows, the top's own object stays -/
theorem RpTop.move {K : PySem.W.Frag} {Hm Hm' H H' : Hp} (e : Same Hm Hm') {d : D} {v : V} (h : RpTop K Hm H d v) (m : isMut d) (k : ∀ a o, v = .ref a → H a = some o → H' a = some o) : RpTop K Hm' H' d v := by
  cases d with
  | lst ds => obtain ⟨a, xs, h1, h2, h3⟩ := h; exact ⟨a, xs, h1, k _ _ h1 h2, RpL.mono e h3⟩
  | ins C fs => obtain ⟨a, dx, vs, h1, h2, h3⟩ := h; exact ⟨a, dx, vs, h1, k _ _ h1 h2, RpF.mono e h3⟩
  | dic kvs => obtain ⟨a, vs, h1, h2, h3⟩ := h; exact ⟨a, vs, h1, k _ _ h1 h2, RpD.mono e h3⟩
  | scr ns => exact m.elim
  | tup ds => exact m.elim
  | prs ds => exact m.elim
  | non => exact m.elim
  | bl b => exact m.elim
  | int i => exact m.elim
  | str s => exact m.elim
/-- an owned thing is let go into the shared part -/
theorem RpTop.shared {K : PySem.W.Frag} {Hm Hm' H : Hp} (e : Same Hm Hm') {d : D} {v : V} (h : RpTop K Hm H d v) (m : isMut d) (k : ∀ a o, v = .ref a → H a = some o → Hm' a = some o) : Rp K Hm' d v := by
  cases d with
  | lst ds => obtain ⟨a, xs, h1, h2, h3⟩ := h; exact ⟨a, xs, h1, k _ _ h1 h2, RpL.mono e h3⟩
  | ins C fs => obtain ⟨a, dx, vs, h1, h2, h3⟩ := h; exact ⟨a, dx, vs, h1, k _ _ h1 h2, RpF.mono e h3⟩
  | dic kvs => obtain ⟨a, vs, h1, h2, h3⟩ := h; exact ⟨a, vs, h1, k _ _ h1 h2, RpD.mono e h3⟩
  | scr ns => exact m.elim
  | tup ds => exact m.elim
  | prs ds => exact m.elim
  | non => exact m.elim
  | bl b => exact m.elim
  | int i => exact m.elim
  | str s => exact m.elim

/-! ### slots -/
inductive Ent where
  | no | va (d : D) | ow (n : Option Nat) (d : D)
/-- a is owned by a slot -/
def Owns (vs : List (Option V)) (es : List Ent) (a : Addr) : Prop := ∃ (i : Nat) (n : Option Nat) (d : D), es[i]? = some (.ow n d) ∧ vs[i]? = some (some (.ref a))
def Cell (K : PySem.W.Frag) (Hm H : Hp) : Option V → Ent → Prop
  | _, .no => True
  | v, .va d => ∃ x, v = some x ∧ Rp K Hm d x
  | v, .ow _ d => ∃ x, v = some x ∧ isMut d ∧ RpTop K Hm H d x
def notOw : Ent → Prop
  | .ow _ _ => False
  | _ => True
section
variable {vs : List (Option V)} {es : List Ent} {a : Addr}
theorem Owns.of_set {i : Nat} {v : Option V} {e : Ent} (he : notOw e) (h : Owns (vs.set i v) (es.set i e) a) : Owns vs es a := by
  obtain ⟨j, n, d, h1, h2⟩ := h
  by_cases hj : i = j
  · subst hj
    by_cases hl : i < es.length
    · rw [List.getElem?_set_self hl] at h1
      cases h1
      exact he.elim
    · rw [List.getElem?_eq_none (by rw [List.length_set]; omega)] at h1
      cases h1
  · rw [List.getElem?_set_ne hj] at h1 h2
    exact ⟨j, n, d, h1, h2⟩
theorem Owns.of_setE {i : Nat} {e : Ent} (he : notOw e) (h : Owns vs (es.set i e) a) : Owns vs es a := by
  obtain ⟨j, n, d, h1, h2⟩ := h
  by_cases hj : i = j
  · subst hj
    by_cases hl : i < es.length
    · rw [List.getElem?_set_self hl] at h1
      cases h1
      exact he.elim
    · rw [List.getElem?_eq_none (by rw [List.length_set]; omega)] at h1
      cases h1
  · rw [List.getElem?_set_ne hj] at h1
    exact ⟨j, n, d, h1, h2⟩
theorem Owns.cons {v : Option V} {e : Ent} (h : Owns vs es a) : Owns (v :: vs) (e :: es) a := by
  obtain ⟨j, n, d, h1, h2⟩ := h
  exact ⟨j + 1, n, d, by simpa using h1, by simpa using h2⟩
theorem Owns.head {n : Option Nat} {d : D} : Owns (some (.ref a) :: vs) (.ow n d :: es) a := ⟨0, n, d, rfl, rfl⟩
theorem Owns.of_cons {v : Option V} {e : Ent} (h : Owns (v :: vs) (e :: es) a) : (v = some (.ref a) ∧ ∃ n d, e = .ow n d) ∨ Owns vs es a := by
  obtain ⟨j, n, d, h1, h2⟩ := h
  cases j with
  | zero =>
    simp at h1 h2
    exact .inl ⟨h2, n, d, h1⟩
  | succ j => exact .inr ⟨j, n, d, by simpa using h1, by simpa using h2⟩
end
end DL

namespace DL
open PySem PySem.Spec PyProof.Rows L2

/-- what is fixed through a def's run: M0 the callers' own objects (not to be touched), W what may be written, H0 the heap at the entry -/
structure Fr where
  M0 : Addr → Prop
  W : Addr → Prop
  H0 : Hp
  /-- the arguments -/
  ps : List V
def Ms (F : Fr) (vs : List (Option V)) (es : List Ent) : Addr → Prop := fun a => F.M0 a ∨ Owns vs es a
abbrev HT := Hp → Prop
def Mono (T : HT) : Prop := ∀ H H' : Hp, Same H H' → T H → T H'
structure Ok (K : PySem.W.Frag) (F : Fr) (T : HT) (H : Hp) (vs : List (Option V)) (es : List Ent) : Prop where
  len : vs.length = es.length
  cells : ∀ (i : Nat) (e : Ent) (v : Option V), es[i]? = some e → vs[i]? = some v → Cell K (wo H (Ms F vs es)) H v e
  inj : ∀ (i j : Nat) (a : Addr) (n m : Option Nat) (d e : D), es[i]? = some (.ow n d) → es[j]? = some (.ow m e) → vs[i]? = some (some (.ref a)) → vs[j]? = some (some (.ref a)) → i = j
  w : ∀ (i : Nat) (a : Addr) (n : Option Nat) (d : D), es[i]? = some (.ow n d) → vs[i]? = some (some (.ref a)) → ¬ F.M0 a ∧ (F.W a ∨ F.H0 a = none) ∧ (n = none → F.H0 a = none) ∧ ∀ k, n = some k → F.ps[k]? = some (.ref a)
  kp : ∀ a o, F.H0 a = some o → ¬ F.W a → H a = some o
  tr : ∀ a o, F.H0 a = some o → ∃ o', H a = some o'
  m0 : ∀ a, F.M0 a → ¬ F.W a ∧ ∃ o, F.H0 a = some o ∧ ∀ xs, o ≠ .tup xs
  wt : ∀ a, F.W a → ∃ o, F.H0 a = some o
  t : T (wo H (Ms F vs es))

theorem Mono.and {T U : HT} (a : Mono T) (b : Mono U) : Mono fun h => T h ∧ U h := fun H H' e x => ⟨a H H' e x.1, b H H' e x.2⟩
theorem mono_rp {K : PySem.W.Frag} {d : D} {v : V} : Mono fun h => Rp K h d v := fun _ _ e x => x.mono e
theorem mono_rpl {K : PySem.W.Frag} {d : List D} {v : List V} : Mono fun h => RpL K h d v := fun _ _ e x => x.mono e
theorem mono_true : Mono fun _ => True := fun _ _ _ x => x

section
variable {K : PySem.W.Frag} {F : Fr} {T U : HT} {H H' : Hp} {vs : List (Option V)} {es : List Ent}
theorem Ok.to (h : Ok K F T H vs es) (u : U (wo H (Ms F vs es))) : Ok K F U H vs es := ⟨h.len, h.cells, h.inj, h.w, h.kp, h.tr, h.m0, h.wt, u⟩
theorem Ok.weak (h : Ok K F T H vs es) (w : ∀ h, T h → U h) : Ok K F U H vs es := h.to (w _ h.t)
theorem Ok.there (h : Ok K F T H vs es) {i : Nat} {e : Ent} (q : es[i]? = some e) : ∃ v, vs[i]? = some v := by
  have : i < vs.length := by rw [h.len]; exact (List.getElem?_eq_some_iff.mp q).1
  exact ⟨vs[i], by simp [this]⟩
theorem Ok.own (h : Ok K F T H vs es) {i : Nat} {n : Option Nat} {d : D} (q : es[i]? = some (.ow n d)) : ∃ a, vs[i]? = some (some (.ref a)) ∧ isMut d ∧ RpTop K (wo H (Ms F vs es)) H d (.ref a) := by
  obtain ⟨v, hv⟩ := h.there q
  obtain ⟨x, e1, m, r⟩ := h.cells i _ v q hv
  obtain ⟨a, o, e, _⟩ := r.addr m
  subst e; subst e1
  exact ⟨a, hv, m, r⟩
theorem Ok.va (h : Ok K F T H vs es) {i : Nat} {d : D} (q : es[i]? = some (.va d)) : ∃ v, vs[i]? = some (some v) ∧ Rp K (wo H (Ms F vs es)) d v := by
  obtain ⟨v, hv⟩ := h.there q
  obtain ⟨x, e1, r⟩ := h.cells i _ v q hv
  subst e1
  exact ⟨x, hv, r⟩
theorem Ok.own_some (h : Ok K F T H vs es) {a : Addr} (q : Owns vs es a) : ∃ o, H a = some o ∧ ∀ xs, o ≠ .tup xs := by
  obtain ⟨i, n, d, h1, h2⟩ := q
  obtain ⟨b, h3, m, r⟩ := h.own h1
  rw [h2] at h3
  cases h3
  obtain ⟨a', o, e, h4, h5⟩ := r.addr m
  cases e
  exact ⟨o, h4, h5⟩
theorem Ok.m_some (h : Ok K F T H vs es) {a : Addr} (q : Ms F vs es a) : ∃ o, H a = some o ∧ ∀ xs, o ≠ .tup xs := by
  rcases q with q | q
  · obtain ⟨nw, o, ho, nt⟩ := h.m0 a q
    exact ⟨o, h.kp a o ho nw, nt⟩
  · exact h.own_some q
theorem Ok.m_new (h : Ok K F T H vs es) {a : Addr} (q : H a = none) : ¬ Ms F vs es a := fun z => by
  obtain ⟨o, e, _⟩ := h.m_some z
  rw [q] at e; cases e
theorem Ok.new_h0 (h : Ok K F T H vs es) {a : Addr} (q : H a = none) : F.H0 a = none := by
  cases e : F.H0 a with
  | none => rfl
  | some o =>
    obtain ⟨o', h1⟩ := h.tr a o e
    rw [q] at h1; cases h1
/-- a cell as the shared part grows and its own object stays -/
theorem Cell.move {Hm Hm' : Hp} {v : Option V} {e : Ent} (s : Same Hm Hm') (c : Cell K Hm H v e) (k : ∀ n d a o, e = .ow n d → v = some (.ref a) → H a = some o → H' a = some o) : Cell K Hm' H' v e := by
  cases e with
  | no => exact True.intro
  | va d => obtain ⟨y, e1, r⟩ := c; exact ⟨y, e1, r.mono s⟩
  | ow n d =>
    obtain ⟨y, e1, m, r⟩ := c
    exact ⟨y, e1, m, r.move s m fun a o ea ho => k n d a o rfl (by rw [e1, ea]) ho⟩
/-- the general change: the shared part grows, the slots are told anew -/
theorem Ok.change {vs' : List (Option V)} {es' : List Ent} (h : Ok K F T H vs es) (mT : Mono T) (hs : Same (wo H (Ms F vs es)) (wo H' (Ms F vs' es'))) (kp : ∀ a o, F.H0 a = some o → ¬ F.W a → H a = some o → H' a = some o) (tr : ∀ a o, H a = some o → ∃ o', H' a = some o')
    (len : vs'.length = es'.length) (cells : ∀ (i : Nat) (e : Ent) (v : Option V), es'[i]? = some e → vs'[i]? = some v → Cell K (wo H' (Ms F vs' es')) H' v e)
    (inj : ∀ (i j : Nat) (a : Addr) (n m : Option Nat) (d e : D), es'[i]? = some (.ow n d) → es'[j]? = some (.ow m e) → vs'[i]? = some (some (.ref a)) → vs'[j]? = some (some (.ref a)) → i = j)
    (w : ∀ (i : Nat) (a : Addr) (n : Option Nat) (d : D), es'[i]? = some (.ow n d) → vs'[i]? = some (some (.ref a)) → ¬ F.M0 a ∧ (F.W a ∨ F.H0 a = none) ∧ (n = none → F.H0 a = none) ∧ ∀ k, n = some k → F.ps[k]? = some (.ref a)) : Ok K F T H' vs' es' where
  len := len
  cells := cells
  inj := inj
  w := w
  kp := fun a o e n => kp a o e n (h.kp a o e n)
  tr := fun a o e => by
    obtain ⟨o', q⟩ := h.tr a o e
    exact tr a o' q
  m0 := h.m0
  wt := h.wt
  t := mT _ _ hs h.t

/-- a new object that no one owns -/
theorem Ok.new {p : Addr} {o : HO} (h : Ok K F T H vs es) (mT : Mono T) (hp : H p = none) : Ok K F T (upd H p o) vs es ∧ Same (wo H (Ms F vs es)) (wo (upd H p o) (Ms F vs es)) ∧ wo (upd H p o) (Ms F vs es) p = some o := by
  have hs : Same (wo H (Ms F vs es)) (wo (upd H p o) (Ms F vs es)) := wo_mono fun a u hm e => ⟨hm, by rw [upd_ne (ne_of_none e hp)]; exact e⟩
  have k : ∀ a u, H a = some u → upd H p o a = some u := fun a u e => by rw [upd_ne (ne_of_none e hp)]; exact e
  exact ⟨h.change mT hs (fun a u _ _ e => k a u e) (fun a u e => ⟨u, k a u e⟩) h.len (fun i e v h1 h2 => (h.cells i e v h1 h2).move hs fun _ _ a u _ _ q => k a u q) h.inj h.w, hs, by rw [wo_get (h.m_new hp), upd_same]⟩
/-- a new object, owned by the head -/
theorem Ok.newOwn {p : Addr} {o : HO} {d : D} (h : Ok K F T H vs es) (mT : Mono T) (hp : H p = none) (m : isMut d) (r : ∀ Hm, Same (wo H (Ms F vs es)) Hm → RpTop K Hm (upd H p o) d (.ref p)) : Ok K F T (upd H p o) (some (.ref p) :: vs) (.ow none d :: es) := by
  have k : ∀ a u, H a = some u → upd H p o a = some u := fun a u e => by rw [upd_ne (ne_of_none e hp)]; exact e
  have hs : Same (wo H (Ms F vs es)) (wo (upd H p o) (Ms F (some (.ref p) :: vs) (.ow none d :: es))) := wo_mono fun a u hm e => ⟨fun z => by
    rcases z with z | z
    · exact hm (.inl z)
    · rcases z.of_cons with ⟨z, _⟩ | z
      · cases z; rw [hp] at e; cases e
      · exact hm (.inr z), k a u e⟩
  have np : ∀ (i : Nat) (n : Option Nat) (d' : D), es[i]? = some (Ent.ow n d') → ¬ vs[i]? = some (some (V.ref p)) := fun i n d' h1 h2 => h.m_new hp (.inr ⟨i, n, d', h1, h2⟩)
  refine h.change mT hs (fun a u _ _ e => k a u e) (fun a u e => ⟨u, k a u e⟩) (by simp [h.len]) (fun i e v h1 h2 => ?_) (fun i j a n m' d1 d2 h1 h2 h3 h4 => ?_) fun i a n d1 h1 h2 => ?_
  · cases i with
    | zero =>
      simp at h1 h2
      subst h1; subst h2
      exact ⟨_, rfl, m, r _ hs⟩
    | succ i => exact (h.cells i e v (by simpa using h1) (by simpa using h2)).move hs fun _ _ a u _ _ q => k a u q
  · cases i with
    | zero =>
      cases j with
      | zero => rfl
      | succ j =>
        simp at h1 h3
        subst h3
        exact (np j m' d2 (by simpa using h2) (by simpa using h4)).elim
    | succ i =>
      cases j with
      | zero =>
        simp at h2 h4
        subst h4
        exact (np i n d1 (by simpa using h1) (by simpa using h3)).elim
      | succ j => rw [h.inj i j a n m' d1 d2 (by simpa using h1) (by simpa using h2) (by simpa using h3) (by simpa using h4)]
  · cases i with
    | zero =>
      have h1 : Ent.ow none d = .ow n d1 := by simpa using h1
      have h2 : p = a := by simpa using h2
      cases h1
      subst h2
      exact ⟨fun z => h.m_new hp (.inl z), .inr (h.new_h0 hp), fun _ => h.new_h0 hp, fun k z => nomatch z⟩
    | succ i => exact h.w i a n d1 (by simpa using h1) (by simpa using h2)
/-- the head is let go into the shared part -/
theorem Ok.freezeHd {v : V} {n : Option Nat} {d : D} (h : Ok K F T H (some v :: vs) (.ow n d :: es)) (mT : Mono T) : Ok K F (fun h => T h ∧ Rp K h d v) H vs es := by
  obtain ⟨a, h1, m, r⟩ := h.own (i := 0) (n := n) (d := d) rfl
  cases h1
  have hs : Same (wo H (Ms F (some (.ref a) :: vs) (.ow n d :: es))) (wo H (Ms F vs es)) := wo_mono fun b u hm e => ⟨fun z => hm (z.elim .inl fun z => .inr z.cons), e⟩
  have k := h.change (vs' := vs) (es' := es) mT hs (fun _ _ _ _ e => e) (fun a u e => ⟨u, e⟩) (by simpa using h.len) (fun i e v h1 h2 => (h.cells (i + 1) e v (by simpa using h1) (by simpa using h2)).move hs fun _ _ _ _ _ _ q => q)
    (fun i j b n m' d1 d2 h1 h2 h3 h4 => by
      have := h.inj (i + 1) (j + 1) b n m' d1 d2 (by simpa using h1) (by simpa using h2) (by simpa using h3) (by simpa using h4)
      omega) fun i b n d1 h1 h2 => h.w (i + 1) b n d1 (by simpa using h1) (by simpa using h2)
  refine k.to ⟨k.t, r.shared hs m fun b u eb hb => ?_⟩
  cases eb
  rw [wo_get (fun z => ?_)]
  · exact hb
  · rcases z with z | ⟨j, n', d', z1, z2⟩
    · exact (h.w 0 a n d rfl rfl).1 z
    · have := h.inj 0 (j + 1) a n n' d d' rfl (by simpa using z1) rfl (by simpa using z2)
      omega
/-- what a slot tells is changed; it owns no more -/
theorem Ok.setE {i : Nat} {e : Ent} (h : Ok K F T H vs es) (mT : Mono T) (he : notOw e) (c : ∀ v, vs[i]? = some v → Same (wo H (Ms F vs es)) (wo H (Ms F vs (es.set i e))) → Cell K (wo H (Ms F vs (es.set i e))) H v e) : Ok K F T H vs (es.set i e) := by
  have hs : Same (wo H (Ms F vs es)) (wo H (Ms F vs (es.set i e))) := wo_mono fun b u hm q => ⟨fun z => hm (z.elim .inl fun z => .inr (z.of_setE he)), q⟩
  have back : ∀ {j : Nat} {n : Option Nat} {d : D}, (es.set i e)[j]? = some (.ow n d) → es[j]? = some (.ow n d) := fun {j n d} q => by
    by_cases hj : i = j
    · subst hj
      by_cases hl : i < es.length
      · rw [List.getElem?_set_self hl] at q
        cases q
        exact he.elim
      · rw [List.getElem?_eq_none (by rw [List.length_set]; omega)] at q
        cases q
    · rw [List.getElem?_set_ne hj] at q
      exact q
  refine h.change mT hs (fun _ _ _ _ q => q) (fun a u q => ⟨u, q⟩) (by rw [List.length_set]; exact h.len) (fun j e' v h1 h2 => ?_) (fun j l a n m d1 d2 h1 h2 h3 h4 => h.inj j l a n m d1 d2 (back h1) (back h2) h3 h4) fun j a n d h1 h2 => h.w j a n d (back h1) h2
  by_cases hj : i = j
  · subst hj
    by_cases hl : i < es.length
    · rw [List.getElem?_set_self hl] at h1
      cases h1
      exact c v h2 hs
    · rw [List.getElem?_eq_none (by rw [List.length_set]; omega)] at h1
      cases h1
  · rw [List.getElem?_set_ne hj] at h1
    exact (h.cells j e' v h1 h2).move hs fun _ _ _ _ _ _ q => q
/-- a slot's own thing is let go into the shared part -/
theorem Ok.freeze {i : Nat} {v : V} {n : Option Nat} {d : D} (h : Ok K F T H vs es) (mT : Mono T) (q : es[i]? = some (.ow n d)) (hv : vs[i]? = some (some v)) : Ok K F (fun h => T h ∧ Rp K h d v) H vs (es.set i (.va d)) := by
  obtain ⟨a, hv', m, r⟩ := h.own q
  rw [hv] at hv'
  cases hv'
  have hs : Same (wo H (Ms F vs es)) (wo H (Ms F vs (es.set i (.va d)))) := wo_mono fun b u hm e => ⟨fun z => hm (z.elim .inl fun z => .inr (z.of_setE (e := .va d) True.intro)), e⟩
  have hl : i < es.length := (List.getElem?_eq_some_iff.mp q).1
  have rs : Rp K (wo H (Ms F vs (es.set i (.va d)))) d (.ref a) := r.shared hs m fun b u eb hb => by
    cases eb
    rw [wo_get (fun z => ?_)]
    · exact hb
    · rcases z with z | ⟨j, n', d', z1, z2⟩
      · exact (h.w i a n d q hv).1 z
      · by_cases hj : i = j
        · subst hj
          rw [List.getElem?_set_self hl] at z1
          cases z1
        · rw [List.getElem?_set_ne hj] at z1
          exact hj (h.inj i j a n n' d d' q z1 hv z2)
  have k := h.setE (i := i) (e := .va d) mT True.intro fun v' hv' _ => by
    rw [hv] at hv'
    cases hv'
    exact ⟨_, rfl, rs⟩
  exact k.to ⟨k.t, rs⟩
end
end DL

namespace DL
open PySem PySem.Spec PyProof.Rows L2

/-! ### results -/
/-- what an expression gives: shared data, a new thing of its own, the very thing of the i-th slot -/
inductive Kd where
  | va (d : D) | ow (d : D) | al (i : Nat)
structure Exn where
  C : Addr
  fs : List (Str × D)
inductive R (α : Type) where
  | ok (a : α) (ρ : List Ent) | ex (x : Exn) (ρ : List Ent) | bad
def R.bind {α β : Type} : R α → (α → List Ent → R β) → R β
  | .ok a ρ, f => f a ρ
  | .ex x ρ, _ => .ex x ρ
  | .bad, _ => .bad
inductive Fl where
  | nx | bk | ct | rt (k : Kd)
/-- what stands behind a kind -/
def cont (ρ : List Ent) : Kd → Option D
  | .va d => some d
  | .ow d => some d
  | .al i => match ρ[i]? with
    | some (.ow _ d) => some d
    | some (.va d) => some d
    | _ => none
def KAt (K : PySem.W.Frag) (σ : L2.St) (h : Hp) : Kd → V → Prop
  | .va d, v => Rp K h d v
  | .al i, v => σ[i]? = some (some v)
  | .ow _, _ => False
def KAts (K : PySem.W.Frag) (σ : L2.St) (h : Hp) : List Kd → List V → Prop
  | [], vs => vs = []
  | k :: ks, vs => ∃ y ys, vs = y :: ys ∧ KAt K σ h k y ∧ KAts K σ h ks ys
theorem mono_kat {K : PySem.W.Frag} {σ : L2.St} {k : Kd} {v : V} : Mono fun h => KAt K σ h k v := fun _ _ e x => by
  cases k with
  | va d => exact Rp.mono e x
  | al i => exact x
  | ow d => exact x.elim
theorem mono_kats {K : PySem.W.Frag} {σ : L2.St} : ∀ {ks : List Kd} {vs : List V}, Mono fun h => KAts K σ h ks vs
  | [], _ => fun _ _ _ x => x
  | k :: ks, _ => fun H H' e ⟨y, ys, h1, h2, h3⟩ => ⟨y, ys, h1, mono_kat H H' e h2, mono_kats H H' e h3⟩

section
variable (K : PySem.W.Frag) (F : Fr) (E : XK)
/-- where an exception lies -/
def ExT (x : Exn) (d : Addr) : HT := fun h => ∃ fs, h d = some (.xd fs) ∧ RpF K h x.fs fs
def PostX (T : HT) (σ : L2.St) (x : Exn) (ρ : List Ent) : Prop := ∀ d H', Ok K F (fun h => T h ∧ ExT K x d h) H' σ ρ → E (.ref x.C) (some d) H'
def PostE (T : HT) (σ : L2.St) (Q : VK) : R Kd → Prop
  | .ok (.ow d) ρ => ∀ v H', Ok K F T H' (some v :: σ) (.ow none d :: ρ) → Q v H'
  | .ok k ρ => ∀ v H', Ok K F (fun h => T h ∧ KAt K σ h k v) H' σ ρ → Q v H'
  | .ex x ρ => PostX K F E T σ x ρ
  | .bad => False
def PostB (T : HT) (σ : L2.St) (Q : Bool → Hp → Prop) : R Bool → Prop
  | .ok b ρ => ∀ H', Ok K F T H' σ ρ → Q b H'
  | .ex x ρ => PostX K F E T σ x ρ
  | .bad => False
def PostA (T : HT) (σ : L2.St) (Q : List V → Hp → Prop) : R (List Kd) → Prop
  | .ok ks ρ => ∀ vs H', Ok K F (fun h => T h ∧ KAts K σ h ks vs) H' σ ρ → Q vs H'
  | .ex x ρ => PostX K F E T σ x ρ
  | .bad => False
def PostS (T : HT) (σ : L2.St) (D : Ends) : R Fl → Prop
  | .ok .nx ρ => ∀ σ' H', Ok K F T H' σ' ρ → D.nx σ' H'
  | .ok .bk ρ => ∀ σ' H', Ok K F T H' σ' ρ → D.bk σ' H'
  | .ok .ct ρ => ∀ σ' H', Ok K F T H' σ' ρ → D.ct σ' H'
  | .ok (.rt (.ow d)) ρ => ∀ v σ' H', Ok K F T H' (some v :: σ') (.ow none d :: ρ) → D.rt v H'
  | .ok (.rt (.va d)) ρ => ∀ v σ' H', Ok K F (fun h => T h ∧ Rp K h d v) H' σ' ρ → D.rt v H'
  | .ok (.rt (.al _)) _ => False
  | .ex x ρ => ∀ d σ' H', Ok K F (fun h => T h ∧ ExT K x d h) H' σ' ρ → E (.ref x.C) (some d) H'
  | .bad => False
def tE (G : List Ent → R Kd) : TE := fun σ H Q => ∃ ρ T, Mono T ∧ Ok K F T H σ ρ ∧ PostE K F E T σ Q (G ρ)
def tT (G : List Ent → R Bool) : TT := fun σ H Q => ∃ ρ T, Mono T ∧ Ok K F T H σ ρ ∧ PostB K F E T σ Q (G ρ)
def tA (G : List Ent → R (List Kd)) : TA := fun σ H Q => ∃ ρ T, Mono T ∧ Ok K F T H σ ρ ∧ PostA K F E T σ Q (G ρ)
def tS (G : List Ent → R Fl) : TS := fun D σ H => ∃ ρ T, Mono T ∧ Ok K F T H σ ρ ∧ PostS K F E T σ D (G ρ)
end
theorem peI {X : Cx} {e : Expr} {t t' : TE} (h : PE X e t) (w : ∀ σ H Q, t' σ H Q → t σ H Q) : PE X e t' := ⟨fun pins s σ H Q I q => h.run pins s σ H Q I (w σ H Q q)⟩
theorem ptI {X : Cx} {e : Expr} {t t' : TT} (h : PT X e t) (w : ∀ σ H Q, t' σ H Q → t σ H Q) : PT X e t' := ⟨fun pins s σ H Q I q => h.run pins s σ H Q I (w σ H Q q)⟩
theorem pwI {X : Cx} {e : Expr} {t t' : TT} (h : PW X e t) (w : ∀ σ H Q, t' σ H Q → t σ H Q) : PW X e t' := ⟨fun wh pins s σ H Q I q => h.run wh pins s σ H Q I (w σ H Q q)⟩
theorem paI {X : Cx} {e : List Expr} {t t' : TA} (h : PA X e t) (w : ∀ σ H Q, t' σ H Q → t σ H Q) : PA X e t' := ⟨fun pos pins s σ H Q I q => h.run pos pins s σ H Q I (w σ H Q q)⟩
theorem psI {X : Cx} {e : Stmt} {t t' : TS} (h : PS X e t) (w : ∀ D σ H, t' D σ H → t D σ H) : PS X e t' := ⟨fun pins s σ H D I q => h.run pins s σ H D I (w D σ H q)⟩
theorem pssI {X : Cx} {e : List Stmt} {t t' : TS} (h : PSs X e t) (w : ∀ D σ H, t' D σ H → t D σ H) : PSs X e t' := ⟨fun pins s σ H D I q => h.run pins s σ H D I (w D σ H q)⟩

/-! ### weaker wishes -/
section
variable {K : PySem.W.Frag} {F : Fr} {E : XK} {T T' : HT} {σ : L2.St}
theorem PostX.weak {x : Exn} {ρ : List Ent} (h : PostX K F E T σ x ρ) (w : ∀ h, T' h → T h) : PostX K F E T' σ x ρ := fun d H' o => h d H' (o.weak fun hh z => ⟨w hh z.1, z.2⟩)
end

/-! ### names, constants, letting go -/
def nameR (i : Nat) (ρ : List Ent) : R Kd := match ρ[i]? with
  | some (.va d) => .ok (.va d) ρ
  | some (.ow _ _) => .ok (.al i) ρ
  | _ => .bad
/-- a new thing is let go -/
def fz : R Kd → R Kd
  | .ok (.ow d) ρ => .ok (.va d) ρ
  | r => r
/-- a new thing, a slot's own thing is let go -/
def toVa : R Kd → R Kd
  | .ok (.ow d) ρ => .ok (.va d) ρ
  | .ok (.al i) ρ => match ρ[i]? with
    | some (.ow _ d) => .ok (.va d) (ρ.set i (.va d))
    | some (.va d) => .ok (.va d) ρ
    | _ => .bad
  | r => r
section
variable {X : Cx} {F : Fr} {E : XK} {e a b : Expr}
theorem je_name (i : Nat) {x : Str} {pos : Pos} (hN : X.N[i]? = some x := by rfl) (hv : Vis X.env.scope x := by first | exact Or.inl rfl | exact Or.inr (Or.inl rfl) | exact Or.inr (Or.inr rfl)) (hd : (x == ("__debug__" : Str)) = false := by decide)
    (hcd : (x == ("__classdict__" : Str)) = false := by decide) : PE X (.Name x pos) (tE X.K F E (nameR i)) := peI (pe_var (i := i) hN hv hd hcd) fun σ H Q h => by
  obtain ⟨ρ, T, m, o, p⟩ := h
  unfold nameR at p
  split at p
  · rename_i d q
    obtain ⟨v, h1, h2⟩ := o.va q
    exact ⟨v, h1, p v H (o.to ⟨o.t, h2⟩)⟩
  · rename_i d q
    obtain ⟨a, h1, h2⟩ := o.own q
    exact ⟨_, h1, p _ H (o.to ⟨o.t, h1⟩)⟩
  · exact p.elim
theorem je_const {d : D} {v : V} (h : PE X e (tC v)) (r : ∀ K H, Rp K H d v) : PE X e (tE X.K F E fun ρ => .ok (.va d) ρ) := peI h fun σ H Q h => by
  obtain ⟨ρ, T, m, o, p⟩ := h
  exact p v H (o.to ⟨o.t, r _ _⟩)
theorem je_int {i j pos} : PE X (.Constant (.int i) j pos) (tE X.K F E fun ρ => .ok (.va (.int i)) ρ) := je_const pe_int fun _ _ => rfl
theorem je_bl {i j pos} : PE X (.Constant (.bool i) j pos) (tE X.K F E fun ρ => .ok (.va (.bl i)) ρ) := je_const pe_bl fun _ _ => rfl
theorem je_non {j pos} : PE X (.Constant .none j pos) (tE X.K F E fun ρ => .ok (.va .non) ρ) := je_const pe_non fun _ _ => rfl
theorem je_str {i j pos} : PE X (.Constant (.str i) j pos) (tE X.K F E fun ρ => .ok (.va (.str i)) ρ) := je_const pe_str fun _ _ => rfl
theorem je_map {G : List Ent → R Kd} {f : R Kd → R Kd} (w : ∀ T σ Q r, Mono T → PostE X.K F E T σ Q (f r) → PostE X.K F E T σ Q r) (h : PE X e (tE X.K F E G)) : PE X e (tE X.K F E fun ρ => f (G ρ)) := peI h fun σ H Q h => by
  obtain ⟨ρ, T, m, o, p⟩ := h
  exact ⟨ρ, T, m, o, w T σ Q (G ρ) m p⟩
theorem je_fz {G : List Ent → R Kd} (h : PE X e (tE X.K F E G)) : PE X e (tE X.K F E fun ρ => fz (G ρ)) := je_map (f := fz) (fun T σ Q r m p => by
  cases r with
  | ok k ρ' =>
    cases k with
    | ow d => exact fun v H' o' => p v H' (o'.freezeHd m)
    | va d => exact p
    | al i => exact p
  | ex x ρ' => exact p
  | bad => exact p) h
theorem je_toVa {G : List Ent → R Kd} (h : PE X e (tE X.K F E G)) : PE X e (tE X.K F E fun ρ => toVa (G ρ)) := je_map (f := toVa) (fun T σ Q r m p => by
  cases r with
  | ok k ρ' =>
    cases k with
    | ow d => exact fun v H' o' => p v H' (o'.freezeHd m)
    | va d => exact p
    | al i =>
      intro v H' o'
      have hv : σ[i]? = some (some v) := o'.t.2
      have p : PostE X.K F E T σ Q (match ρ'[i]? with
        | some (.ow _ d) => .ok (.va d) (ρ'.set i (.va d))
        | some (.va d) => .ok (.va d) ρ'
        | _ => .bad) := p
      split at p
      · rename_i d q
        exact p v H' ((o'.freeze (m.and mono_kat) q hv).weak fun _ z => ⟨z.1.1, z.2⟩)
      · rename_i d q
        obtain ⟨v', h1, h2⟩ := o'.va q
        rw [hv] at h1
        cases h1
        exact p v H' (o'.to ⟨o'.t.1, h2⟩)
      · exact p.elim
  | ex x ρ' => exact p
  | bad => exact p) h
end
end DL

namespace DL
open PySem PySem.Spec PyProof.Rows L2

/-! ### one thing behind another -/
structure PF (K : PySem.W.Frag) (F : Fr) (E : XK) (σ : L2.St) {β : Type} (P : HT → R β → Prop) : Prop where
  px : ∀ T x ρ, P T (.ex x ρ) → PostX K F E T σ x ρ
  pb : ∀ T, ¬ P T .bad
  pw : ∀ (T T' : HT) r, (∀ h, T' h → T h) → P T r → P T' r
section
variable {K : PySem.W.Frag} {F : Fr} {E : XK} {σ : L2.St} {T T' : HT} {H : Hp} {ρ : List Ent}
theorem PostE.weak {Q : VK} {r : R Kd} (w : ∀ h, T' h → T h) (p : PostE K F E T σ Q r) : PostE K F E T' σ Q r := by
  cases r with
  | ok k ρ' =>
    cases k with
    | ow d => exact fun v H' o => p v H' (o.weak w)
    | va d => exact fun v H' o => p v H' (o.weak fun h z => ⟨w h z.1, z.2⟩)
    | al i => exact fun v H' o => p v H' (o.weak fun h z => ⟨w h z.1, z.2⟩)
  | ex x ρ' => exact PostX.weak p w
  | bad => exact p
theorem pf_E (Q : VK) : PF K F E σ (fun T r => PostE K F E T σ Q r) := ⟨fun _ _ _ p => p, fun _ p => p, fun _ _ _ w p => p.weak w⟩
theorem pf_B (Q : Bool → Hp → Prop) : PF K F E σ (fun T r => PostB K F E T σ Q r) := ⟨fun _ _ _ p => p, fun _ p => p, fun T T' r w p => by
  cases r with
  | ok b ρ' => exact fun H' o => p H' (o.weak w)
  | ex x ρ' => exact PostX.weak p w
  | bad => exact p⟩
theorem pf_A (Q : List V → Hp → Prop) : PF K F E σ (fun T r => PostA K F E T σ Q r) := ⟨fun _ _ _ p => p, fun _ p => p, fun T T' r w p => by
  cases r with
  | ok b ρ' => exact fun v H' o => p v H' (o.weak fun h z => ⟨w h z.1, z.2⟩)
  | ex x ρ' => exact PostX.weak p w
  | bad => exact p⟩
theorem pf_S (D : Ends) : PF K F E σ (fun T r => PostS K F E T σ D r) := ⟨fun _ _ _ p => fun d H' o => p d σ H' o, fun _ p => p, fun T T' r w p => by
  cases r with
  | ok b ρ' =>
    cases b with
    | nx => exact fun s H' o => p s H' (o.weak w)
    | bk => exact fun s H' o => p s H' (o.weak w)
    | ct => exact fun s H' o => p s H' (o.weak w)
    | rt k => cases k with
      | ow d => exact fun v s H' o => p v s H' (o.weak w)
      | va d => exact fun v s H' o => p v s H' (o.weak fun h z => ⟨w h z.1, z.2⟩)
      | al i => exact p
  | ex x ρ' => exact fun d s H' o => p d s H' (o.weak fun h z => ⟨w h z.1, z.2⟩)
  | bad => exact p⟩
theorem bdE {β : Type} {P : HT → R β → Prop} (pf : PF K F E σ P) {G : List Ent → R Kd} {f : Kd → List Ent → R β} (m : Mono T) (o : Ok K F T H σ ρ) (p : P T ((fz (G ρ)).bind f))
    {Q2 : VK} (c : ∀ x H1 k ρ1, Ok K F (fun h => T h ∧ KAt K σ h k x) H1 σ ρ1 → P T (f k ρ1) → Q2 x H1) : tE K F E (fun ρ => fz (G ρ)) σ H Q2 := by
  refine ⟨ρ, T, m, o, ?_⟩
  show PostE K F E T σ _ (fz (G ρ))
  cases hg : G ρ with
  | ok k ρ' =>
    rw [hg] at p
    cases k with
    | ow d => exact fun v H' o' => c _ _ (.va d) ρ' o' p
    | va d => exact fun v H' o' => c _ _ (.va d) ρ' o' p
    | al i => exact fun v H' o' => c _ _ (.al i) ρ' o' p
  | ex x ρ' => rw [hg] at p; exact pf.px _ _ _ p
  | bad => rw [hg] at p; exact (pf.pb _ p).elim
theorem bdV {β : Type} {P : HT → R β → Prop} (pf : PF K F E σ P) {G : List Ent → R Kd} {f : Kd → List Ent → R β} (m : Mono T) (o : Ok K F T H σ ρ) (p : P T ((toVa (G ρ)).bind f))
    {Q2 : VK} (c : ∀ x H1 d ρ1, Ok K F (fun h => T h ∧ Rp K h d x) H1 σ ρ1 → P T (f (.va d) ρ1) → Q2 x H1) : tE K F E (fun ρ => toVa (G ρ)) σ H Q2 := by
  refine ⟨ρ, T, m, o, ?_⟩
  show PostE K F E T σ _ (toVa (G ρ))
  cases hg : G ρ with
  | ok k ρ' =>
    rw [hg] at p
    cases k with
    | ow d => exact fun v H' o' => c _ _ d ρ' o' p
    | va d => exact fun v H' o' => c _ _ d ρ' o' p
    | al i =>
      have p : P T ((match ρ'[i]? with
        | some (.ow _ d) => .ok (.va d) (ρ'.set i (.va d))
        | some (.va d) => .ok (.va d) ρ'
        | _ => .bad : R Kd).bind f) := p
      show PostE K F E T σ _ (match ρ'[i]? with
        | some (.ow _ d) => .ok (.va d) (ρ'.set i (.va d))
        | some (.va d) => .ok (.va d) ρ'
        | _ => .bad)
      split at p
      · rename_i d q
        exact fun v H' o' => c _ _ d _ o' p
      · rename_i d q
        exact fun v H' o' => c _ _ d _ o' p
      · exact (pf.pb _ p).elim
  | ex x ρ' => rw [hg] at p; exact pf.px _ _ _ p
  | bad => rw [hg] at p; exact (pf.pb _ p).elim
theorem bdB {β : Type} {P : HT → R β → Prop} (pf : PF K F E σ P) {G : List Ent → R Bool} {f : Bool → List Ent → R β} (m : Mono T) (o : Ok K F T H σ ρ) (p : P T ((G ρ).bind f))
    {Q2 : Bool → Hp → Prop} (c : ∀ b H1 ρ1, Ok K F T H1 σ ρ1 → P T (f b ρ1) → Q2 b H1) : tT K F E G σ H Q2 := by
  refine ⟨ρ, T, m, o, ?_⟩
  cases hg : G ρ with
  | ok k ρ' => rw [hg] at p; exact fun H' o' => c _ _ ρ' o' p
  | ex x ρ' => rw [hg] at p; exact pf.px _ _ _ p
  | bad => rw [hg] at p; exact (pf.pb _ p).elim
theorem bdA {β : Type} {P : HT → R β → Prop} (pf : PF K F E σ P) {G : List Ent → R (List Kd)} {f : List Kd → List Ent → R β} (m : Mono T) (o : Ok K F T H σ ρ) (p : P T ((G ρ).bind f))
    {Q2 : List V → Hp → Prop} (c : ∀ vs H1 ks ρ1, Ok K F (fun h => T h ∧ KAts K σ h ks vs) H1 σ ρ1 → P T (f ks ρ1) → Q2 vs H1) : tA K F E G σ H Q2 := by
  refine ⟨ρ, T, m, o, ?_⟩
  cases hg : G ρ with
  | ok k ρ' => rw [hg] at p; exact fun vs H' o' => c _ _ k ρ' o' p
  | ex x ρ' => rw [hg] at p; exact pf.px _ _ _ p
  | bad => rw [hg] at p; exact (pf.pb _ p).elim
/-- what a kind tells of the heap as it stands -/
theorem kat_top {k : Kd} {v : V} {d : D} (o : Ok K F (fun h => T h ∧ KAt K σ h k v) H σ ρ) (c : cont ρ k = some d) : RpTop K (wo H (Ms F σ ρ)) H d v := by
  cases k with
  | va d' =>
    cases c
    exact Rp.top wo_le o.t.2
  | ow d' => exact o.t.2.elim
  | al i =>
    have hv : σ[i]? = some (some v) := o.t.2
    have c : (match ρ[i]? with
      | some (.ow _ d) => some d
      | some (.va d) => some d
      | _ => none) = some d := c
    split at c
    · rename_i d' q
      cases c
      obtain ⟨a, h1, _, h2⟩ := o.own q
      rw [hv] at h1
      cases h1
      exact h2
    · rename_i d' q
      cases c
      obtain ⟨a, h1, h2⟩ := o.va q
      rw [hv] at h1
      cases h1
      exact Rp.top wo_le h2
    · cases c
end

/-! ### what an operation on values gives -/
inductive Out where
  | same (d : D) | newL (ds : List D) | newT (ds : List D) | newD (kvs : List (Key × D))
def OutP (K : PySem.W.Frag) (Hm H : Hp) (Q : VK) : Out → Prop
  | .same d => ∀ v, Rp K Hm d v → Q v H
  | .newL ds => ∀ p xs, H p = none → RpL K Hm ds xs → Q (.ref p) (upd H p (.lst xs))
  | .newT ds => ∀ p (o : Obj) xs, H p = none → o.dict = none → RpL K Hm ds xs → Q (.ref p) (upd H p (.frz o (.tup xs)))
  | .newD kvs => ∀ p xs, H p = none → RpD K Hm kvs xs → Q (.ref p) (upd H p (.dK xs))
def outR : Out → List Ent → R Kd
  | .same d, ρ => .ok (.va d) ρ
  | .newL ds, ρ => .ok (.ow (.lst ds)) ρ
  | .newT ds, ρ => .ok (.va (.tup ds)) ρ
  | .newD kvs, ρ => .ok (.ow (.dic kvs)) ρ
def outO : Option Out → List Ent → R Kd
  | some o, ρ => outR o ρ
  | none, _ => .bad
section
variable {K : PySem.W.Frag} {F : Fr} {E : XK} {σ : L2.St} {T T' : HT} {H : Hp} {ρ : List Ent} {Q : VK}
theorem outP_of {out : Out} (m : Mono T) (o : Ok K F T H σ ρ) (p : PostE K F E T σ Q (outR out ρ)) : OutP K (wo H (Ms F σ ρ)) H Q out := by
  cases out with
  | same d => exact fun v r => p v H (o.to ⟨o.t, r⟩)
  | newL ds => exact fun q xs hq r => p _ _ (o.newOwn m hq True.intro fun Hm s => ⟨q, xs, rfl, upd_same, r.mono s⟩)
  | newT ds =>
    intro q ob xs hq hd r
    obtain ⟨o', s, hw⟩ := o.new (o := .frz ob (.tup xs)) m hq
    exact p _ _ (o'.to ⟨o'.t, q, xs, rfl, .inl ⟨ob, hw, hd⟩, r.mono s⟩)
  | newD kvs => exact fun q xs hq r => p _ _ (o.newOwn m hq True.intro fun Hm s => ⟨q, xs, rfl, upd_same, r.mono s⟩)
end
def SndOp (K : PySem.W.Frag) (r : R2) (g : D → D → Option Out) : Prop := ∀ (Hm H : Hp) (x y : V) (d e : D) (Q : VK) (out : Out), Same Hm H → RpTop K Hm H d x → RpTop K Hm H e y → g d e = some out → OutP K Hm H Q out → r x y H Q
def opK (g : D → D → Option Out) (k1 k2 : Kd) (ρ : List Ent) : R Kd := match cont ρ k1 with
  | some d => match cont ρ k2 with
    | some e => outO (g d e) ρ
    | none => .bad
  | none => .bad
def binR (g : D → D → Option Out) (Ga Gb : List Ent → R Kd) (ρ : List Ent) : R Kd := (fz (Ga ρ)).bind fun k1 ρ1 => (fz (Gb ρ1)).bind fun k2 ρ2 => opK g k1 k2 ρ2
section
variable {X : Cx} {F : Fr} {E : XK} {e a b c : Expr} {pos : Pos} {r r' : R2} {g g' : D → D → Option Out} {Ga Gb Gc : List Ent → R Kd}
theorem opK_run {K : PySem.W.Frag} {σ : L2.St} {T : HT} {H : Hp} {ρ : List Ent} {Q : VK} {k1 k2 : Kd} {x y : V} (s : SndOp K r g) (m : Mono T) (o : Ok K F (fun h => (T h ∧ KAt K σ h k1 x) ∧ KAt K σ h k2 y) H σ ρ) (p : PostE K F E T σ Q (opK g k1 k2 ρ)) : r x y H Q := by
  unfold opK at p
  split at p
  · rename_i d c1
    split at p
    · rename_i e c2
      cases hg : g d e with
      | none => rw [hg] at p; exact p.elim
      | some out =>
        rw [hg] at p
        have o1 : Ok K F (fun h => T h ∧ KAt K σ h k1 x) H σ ρ := o.weak fun _ z => z.1
        exact s _ _ _ _ _ _ _ _ wo_le (kat_top o1 c1) (kat_top o c2) hg (outP_of m (o.weak fun _ z => z.1.1) p)
    · exact p.elim
  · exact p.elim
theorem tOp_of {K : PySem.W.Frag} {σ : L2.St} {H : Hp} {Q : VK} (s : SndOp K r g) (h : tE K F E (binR g Ga Gb) σ H Q) : tOp r (tE K F E fun ρ => fz (Ga ρ)) (tE K F E fun ρ => fz (Gb ρ)) σ H Q := by
  obtain ⟨ρ, T, m, o, p⟩ := h
  refine bdE (pf_E Q) m o p fun x H1 k1 ρ1 o1 p1 => ?_
  refine bdE (T := fun h => T h ∧ KAt K σ h k1 x) (pf_E Q) (m.and mono_kat) o1 ((pf_E Q).pw _ _ _ (fun _ z => z.1) p1) fun y H2 k2 ρ2 o2 p2 => ?_
  exact opK_run s (T := fun h => T h ∧ KAt K σ h k1 x) (k1 := k1) (m.and mono_kat) (o2.weak fun _ z => ⟨⟨z.1, z.1.2⟩, z.2⟩) p2
theorem je_op {op : Operator} (ho : OpR X (binaryOp op) r) (s : SndOp X.K r g) (ha : PE X a (tE X.K F E Ga)) (hb : PE X b (tE X.K F E Gb)) : PE X (.BinOp a op b pos) (tE X.K F E (binR g Ga Gb)) :=
  peI (pe_op ho (je_fz ha) (je_fz hb)) fun _ _ _ h => tOp_of s h
theorem je_cmp {op : CmpOp} (ho : OpR X (compareOp op) r) (s : SndOp X.K r g) (ha : PE X a (tE X.K F E Ga)) (hb : PE X b (tE X.K F E Gb)) (hm : behindInMarks op b = false) : PE X (.Compare a [op] [b] pos) (tE X.K F E (binR g Ga Gb)) :=
  peI (pe_cmpR ho (je_fz ha) (je_fz hb) hm) fun _ _ _ h => tOp_of s h
/-! ### tests -/
def toB : R Kd → R Bool
  | .ok (.va (.bl b)) ρ => .ok b ρ
  | .ex x ρ => .ex x ρ
  | _ => .bad
theorem postB_of {K : PySem.W.Frag} {T : HT} {σ : L2.St} {Q : Bool → Hp → Prop} {r : R Kd} (p : PostB K F E T σ Q (toB r)) : PostE K F E T σ (fun x H => ∃ k, x = .bl k ∧ Q k H) r := by
  cases r with
  | ok k ρ' =>
    cases k with
    | ow d => exact p.elim
    | va d =>
      cases d with
      | bl b => exact fun v H' o => ⟨b, o.t.2, p H' (o.weak fun _ z => z.1)⟩
      | _ => exact p.elim
    | al i => exact p.elim
  | ex x ρ' => exact p
  | bad => exact p
/-- an expression whose value is a bool, as a test -/
theorem jt_val {G : List Ent → R Kd} (h : PE X e (tE X.K F E G)) (he : ∀ whole, isTrue e X.env whole = (do let v ← whole; standAt e.pos; holding [v] (truthy v)) := by intro _; rfl) : PT X e (tT X.K F E fun ρ => toB (G ρ)) :=
  ptI (pt_val h he) fun σ H Q h => by
    obtain ⟨ρ, T, m, o, p⟩ := h
    exact ⟨ρ, T, m, o, postB_of p⟩
theorem jt_cmp {op : CmpOp} (ho : OpR X (compareOp op) r) (s : SndOp X.K r g) (ha : PE X a (tE X.K F E Ga)) (hb : PE X b (tE X.K F E Gb)) (hm : behindInMarks op b = false) : PT X (.Compare a [op] [b] pos) (tT X.K F E fun ρ => toB (binR g Ga Gb ρ)) :=
  ptI (pt_cmpR ho (je_fz ha) (je_fz hb) hm) fun σ H Q h => by
    obtain ⟨ρ, T, m, o, p⟩ := h
    exact tOp_of s ⟨ρ, T, m, o, postB_of p⟩
def andR (A B : List Ent → R Bool) (ρ : List Ent) : R Bool := (A ρ).bind fun b ρ1 => if b then B ρ1 else .ok false ρ1
def orR (A B : List Ent → R Bool) (ρ : List Ent) : R Bool := (A ρ).bind fun b ρ1 => if b then .ok true ρ1 else B ρ1
def notR (A : List Ent → R Bool) (ρ : List Ent) : R Bool := (A ρ).bind fun b ρ1 => .ok (!b) ρ1
variable {A B : List Ent → R Bool} {rest : List Expr}
theorem jw_and1 (h : PT X a (tT X.K F E A)) : PW X (.BoolOp .And [a] pos) (tT X.K F E A) := pw_and1 h
theorem jw_or1 (h : PT X a (tT X.K F E A)) : PW X (.BoolOp .Or [a] pos) (tT X.K F E A) := pw_or1 h
theorem jw_and (ha : PT X a (tT X.K F E A)) (hb : PW X (.BoolOp .And (b :: rest) pos) (tT X.K F E B)) : PW X (.BoolOp .And (a :: b :: rest) pos) (tT X.K F E (andR A B)) :=
  pwI (pw_and ha hb) fun σ H Q h => by
    obtain ⟨ρ, T, m, o, p⟩ := h
    refine bdB (pf_B Q) m o p fun b H1 ρ1 o1 p1 => ?_
    cases b with
    | true => exact ⟨ρ1, T, m, o1, p1⟩
    | false => exact p1 H1 o1
theorem jw_or (ha : PT X a (tT X.K F E A)) (hb : PW X (.BoolOp .Or (b :: rest) pos) (tT X.K F E B)) : PW X (.BoolOp .Or (a :: b :: rest) pos) (tT X.K F E (orR A B)) :=
  pwI (pw_or ha hb) fun σ H Q h => by
    obtain ⟨ρ, T, m, o, p⟩ := h
    refine bdB (pf_B Q) m o p fun b H1 ρ1 o1 p1 => ?_
    cases b with
    | true => exact p1 H1 o1
    | false => exact ⟨ρ1, T, m, o1, p1⟩
theorem jt_bool (h : PW X e (tT X.K F E A)) : PT X e (tT X.K F E A) := h.pt
theorem jt_not (ha : PT X a (tT X.K F E A)) : PT X (.UnaryOp .Not a pos) (tT X.K F E (notR A)) :=
  ptI (pt_not ha) fun σ H Q h => by
    obtain ⟨ρ, T, m, o, p⟩ := h
    exact bdB (pf_B Q) m o p fun b H1 ρ1 o1 p1 => p1 H1 o1
/-! as values (True, False) -/
def ofB : R Bool → R Kd
  | .ok b ρ => .ok (.va (.bl b)) ρ
  | .ex x ρ => .ex x ρ
  | .bad => .bad
def andV (Ga Gb : List Ent → R Kd) (ρ : List Ent) : R Kd := (toB (Ga ρ)).bind fun b ρ1 => if b then Gb ρ1 else .ok (.va (.bl false)) ρ1
def orV (Ga Gb : List Ent → R Kd) (ρ : List Ent) : R Kd := (toB (Ga ρ)).bind fun b ρ1 => if b then .ok (.va (.bl true)) ρ1 else Gb ρ1
def notV (Ga : List Ent → R Kd) (ρ : List Ent) : R Kd := (toB (Ga ρ)).bind fun b ρ1 => .ok (.va (.bl (!b))) ρ1
theorem bdBV {β : Type} {K : PySem.W.Frag} {T : HT} {σ : L2.St} {H : Hp} {ρ : List Ent} {P : HT → R β → Prop} (pf : PF K F E σ P) {G : List Ent → R Kd} {f : Bool → List Ent → R β} (m : Mono T) (o : Ok K F T H σ ρ) (p : P T ((toB (G ρ)).bind f))
    {Q2 : VK} (c : ∀ b H1 ρ1, Ok K F T H1 σ ρ1 → P T (f b ρ1) → Q2 (.bl b) H1) : tE K F E G σ H Q2 := by
  refine ⟨ρ, T, m, o, ?_⟩
  cases hg : G ρ with
  | ok k ρ' =>
    rw [hg] at p
    cases k with
    | ow d => exact (pf.pb _ p).elim
    | va d =>
      cases d with
      | bl b =>
        intro v H' o'
        have e : v = .bl b := o'.t.2
        rw [e]
        exact c _ _ ρ' (o'.weak fun _ z => z.1) p
      | non => exact (pf.pb _ p).elim
      | int _ => exact (pf.pb _ p).elim
      | str _ => exact (pf.pb _ p).elim
      | lst _ => exact (pf.pb _ p).elim
      | tup _ => exact (pf.pb _ p).elim
      | ins _ _ => exact (pf.pb _ p).elim
      | prs _ => exact (pf.pb _ p).elim
      | dic _ => exact (pf.pb _ p).elim
      | scr _ => exact (pf.pb _ p).elim
    | al i => exact (pf.pb _ p).elim
  | ex x ρ' => rw [hg] at p; exact pf.px _ _ _ p
  | bad => rw [hg] at p; exact (pf.pb _ p).elim
theorem je_one {op} {G : List Ent → R Kd} (h : PE X a (tE X.K F E G)) : PE X (.BoolOp op [a] pos) (tE X.K F E G) := pe_one h
theorem je_and (ha : PE X a (tE X.K F E Ga)) (hb : PE X (.BoolOp .And (b :: rest) pos) (tE X.K F E Gb)) : PE X (.BoolOp .And (a :: b :: rest) pos) (tE X.K F E (andV Ga Gb)) :=
  peI (pe_and ha hb) fun σ H Q h => by
    obtain ⟨ρ, T, m, o, p⟩ := h
    refine bdBV (pf_E Q) m o p fun b H1 ρ1 o1 p1 => ⟨b, rfl, ?_⟩
    cases b with
    | true => exact ⟨ρ1, T, m, o1, p1⟩
    | false => exact p1 _ H1 (o1.to ⟨o1.t, rfl⟩)
theorem je_or (ha : PE X a (tE X.K F E Ga)) (hb : PE X (.BoolOp .Or (b :: rest) pos) (tE X.K F E Gb)) : PE X (.BoolOp .Or (a :: b :: rest) pos) (tE X.K F E (orV Ga Gb)) :=
  peI (pe_or ha hb) fun σ H Q h => by
    obtain ⟨ρ, T, m, o, p⟩ := h
    refine bdBV (pf_E Q) m o p fun b H1 ρ1 o1 p1 => ⟨b, rfl, ?_⟩
    cases b with
    | true => exact p1 _ H1 (o1.to ⟨o1.t, rfl⟩)
    | false => exact ⟨ρ1, T, m, o1, p1⟩
theorem je_not (ha : PE X a (tE X.K F E Ga)) : PE X (.UnaryOp .Not a pos) (tE X.K F E (notV Ga)) :=
  peI (pe_not ha) fun σ H Q h => by
    obtain ⟨ρ, T, m, o, p⟩ := h
    exact bdBV (pf_E Q) m o p fun b H1 ρ1 o1 p1 => ⟨b, rfl, p1 _ H1 (o1.to ⟨o1.t, rfl⟩)⟩
def ifR (A : List Ent → R Bool) (Ga Gb : List Ent → R Kd) (ρ : List Ent) : R Kd := (A ρ).bind fun b ρ1 => if b then Ga ρ1 else Gb ρ1
/-! a < b < c -/
theorem je_if (hc : PT X c (tT X.K F E A)) (ha : PE X a (tE X.K F E Ga)) (hb : PE X b (tE X.K F E Gb)) : PE X (.IfExp c a b pos) (tE X.K F E (ifR A Ga Gb)) :=
  peI (pe_ifExp hc ha hb) fun σ H Q h => by
    obtain ⟨ρ, T, m, o, p⟩ := h
    refine bdB (pf_E Q) m o p fun b H1 ρ1 o1 p1 => ?_
    cases b with
    | true => exact ⟨ρ1, T, m, o1, p1⟩
    | false => exact ⟨ρ1, T, m, o1, p1⟩
def chainR (g g' : D → D → Option Out) (Ga Gb Gc : List Ent → R Kd) (ρ : List Ent) : R Kd := (fz (Ga ρ)).bind fun k1 ρ1 => (fz (Gb ρ1)).bind fun k2 ρ2 => (toB (opK g k1 k2 ρ2)).bind fun b ρ3 => if b then (fz (Gc ρ3)).bind fun k3 ρ4 => opK g' k2 k3 ρ4 else .ok (.va (.bl false)) ρ3
theorem toB_bind {K : PySem.W.Frag} {T : HT} {σ : L2.St} {H : Hp} {β : Type} {P : HT → R β → Prop} (pf : PF K F E σ P) {r : R Kd} {f : Bool → List Ent → R β} (p : P T ((toB r).bind f)) {Q2 : VK}
    (c : ∀ b H1 ρ1, Ok K F T H1 σ ρ1 → P T (f b ρ1) → Q2 (.bl b) H1) : PostE K F E T σ Q2 r := by
  cases r with
  | ok k ρ' =>
    cases k with
    | ow d => exact (pf.pb _ p).elim
    | va d =>
      cases d with
      | bl b =>
        intro v H' o'
        have e : v = .bl b := o'.t.2
        rw [e]
        exact c _ _ ρ' (o'.weak fun _ z => z.1) p
      | non => exact (pf.pb _ p).elim
      | int _ => exact (pf.pb _ p).elim
      | str _ => exact (pf.pb _ p).elim
      | lst _ => exact (pf.pb _ p).elim
      | tup _ => exact (pf.pb _ p).elim
      | ins _ _ => exact (pf.pb _ p).elim
      | prs _ => exact (pf.pb _ p).elim
      | dic _ => exact (pf.pb _ p).elim
      | scr _ => exact (pf.pb _ p).elim
    | al i => exact (pf.pb _ p).elim
  | ex x ρ' => exact pf.px _ _ _ p
  | bad => exact (pf.pb _ p).elim
theorem je_chain {op op' : CmpOp} (ho : OpR X (compareOp op) r) (ho' : OpR X (compareOp op') r') (s : SndOp X.K r g) (s' : SndOp X.K r' g') (ha : PE X a (tE X.K F E Ga)) (hb : PE X b (tE X.K F E Gb)) (hc : PE X c (tE X.K F E Gc))
    (hm : lastMarks [op, op'] [b, c] = false := by with_unfolding_all rfl) : PE X (.Compare a [op, op'] [b, c] pos) (tE X.K F E (chainR g g' Ga Gb Gc)) :=
  peI (pe_chain ho ho' (je_fz ha) (je_fz hb) (je_fz hc) hm) fun σ H Q h => by
    obtain ⟨ρ, T, m, o, p⟩ := h
    refine bdE (pf_E Q) m o p fun x H1 k1 ρ1 o1 p1 => ?_
    refine bdE (T := fun h => T h ∧ KAt X.K σ h k1 x) (pf_E Q) (m.and mono_kat) o1 ((pf_E Q).pw _ _ _ (fun _ z => z.1) p1) fun y H2 k2 ρ2 o2 p2 => ?_
    have m2 : Mono fun h => (T h ∧ KAt X.K σ h k1 x) ∧ KAt X.K σ h k2 y := (m.and mono_kat).and mono_kat
    have p3 := toB_bind (T := fun h => (T h ∧ KAt X.K σ h k1 x) ∧ KAt X.K σ h k2 y) (H := H2) (pf_E Q) ((pf_E Q).pw _ _ _ (fun _ z => z.1) p2) (Q2 := fun z H3 => ∃ k, z = .bl k ∧ (if k = true then tE X.K F E (fun ρ => fz (Gc ρ)) σ H3 (fun w' H4 => r' y w' H4 Q) else Q (.bl false) H3)) (fun b H3 ρ3 o3 p3 => ⟨b, rfl, by
      cases b with
      | true =>
        rw [if_pos rfl]
        refine bdE (T := fun h => (T h ∧ KAt X.K σ h k1 x) ∧ KAt X.K σ h k2 y) (pf_E Q) m2 o3 p3 fun z H4 k3 ρ4 o4 p4 => ?_
        exact opK_run s' (T := fun h => (T h ∧ KAt X.K σ h k1 x) ∧ KAt X.K σ h k2 y) (k1 := k2) m2 (o4.weak fun _ z => ⟨⟨z.1, z.1.2⟩, z.2⟩) p4
      | false =>
        rw [if_neg Bool.false_ne_true]
        exact p3 _ H3 (o3.to ⟨o3.t, rfl⟩)⟩)
    exact opK_run s (T := fun h => (T h ∧ KAt X.K σ h k1 x) ∧ KAt X.K σ h k2 y) (k1 := k1) (k2 := k2) m2 (o2.weak fun _ z => ⟨⟨z, z.1.2⟩, z.2⟩) p3
end
end DL

namespace DL
open PySem PySem.Spec PyProof.Rows L2

/-! ### lists of data and lists of values -/
section
variable {K : PySem.W.Frag} {H Hm : Hp}
theorem RpL.len : ∀ {ds : List D} {xs : List V}, RpL K H ds xs → xs.length = ds.length
  | [], xs, h => by rw [show xs = [] from h]; rfl
  | d :: ds, xs, ⟨y, ys, h1, _, h3⟩ => by rw [h1, List.length_cons, List.length_cons, RpL.len h3]
theorem RpL.get : ∀ {ds : List D} {xs : List V} {i : Nat} {d : D}, RpL K H ds xs → ds[i]? = some d → ∃ x, xs[i]? = some x ∧ Rp K H d x
  | [], xs, i, d, h, q => by simp at q
  | d :: ds, xs, 0, d', ⟨y, ys, h1, h2, h3⟩, q => by
    simp at q
    subst q
    exact ⟨y, by rw [h1]; rfl, h2⟩
  | d :: ds, xs, i + 1, d', ⟨y, ys, h1, h2, h3⟩, q => by
    obtain ⟨x, a, b⟩ := RpL.get (i := i) h3 (by simpa using q)
    exact ⟨x, by rw [h1]; simpa using a, b⟩
theorem RpL.append : ∀ {ds es : List D} {xs ys : List V}, RpL K H ds xs → RpL K H es ys → RpL K H (ds ++ es) (xs ++ ys)
  | [], es, xs, ys, h, k => by rw [show xs = [] from h]; exact k
  | d :: ds, es, xs, ys, ⟨y, zs, h1, h2, h3⟩, k => by rw [h1]; exact ⟨y, zs ++ ys, rfl, h2, RpL.append h3 k⟩
theorem RpL.drop : ∀ {ds : List D} {xs : List V} (n : Nat), RpL K H ds xs → RpL K H (ds.drop n) (xs.drop n)
  | _, _, 0, h => h
  | [], xs, n + 1, h => by rw [show xs = [] from h]; exact rfl
  | d :: ds, xs, n + 1, ⟨y, ys, h1, h2, h3⟩ => by rw [h1]; exact RpL.drop n h3
theorem RpL.take : ∀ {ds : List D} {xs : List V} (n : Nat), RpL K H ds xs → RpL K H (ds.take n) (xs.take n)
  | _, _, 0, h => rfl
  | [], xs, n + 1, h => by rw [show xs = [] from h]; exact rfl
  | d :: ds, xs, n + 1, ⟨y, ys, h1, h2, h3⟩ => by rw [h1]; exact ⟨y, ys.take n, rfl, h2, RpL.take n h3⟩
theorem RpL.set : ∀ {ds : List D} {xs : List V} {d : D} {x : V} (i : Nat), RpL K H ds xs → Rp K H d x → RpL K H (ds.set i d) (xs.set i x)
  | [], xs, d, x, i, h, r => by rw [show xs = [] from h]; exact rfl
  | d :: ds, xs, d', x, 0, ⟨y, ys, h1, h2, h3⟩, r => by rw [h1]; exact ⟨x, ys, rfl, r, h3⟩
  | d :: ds, xs, d', x, i + 1, ⟨y, ys, h1, h2, h3⟩, r => by rw [h1]; exact ⟨y, ys.set i x, rfl, h2, RpL.set i h3 r⟩
theorem RpL.rep {ds : List D} {xs : List V} (h : RpL K H ds xs) : ∀ n : Nat, RpL K H (List.replicate n ds).flatten (List.replicate n xs).flatten
  | 0 => rfl
  | n + 1 => by
    rw [List.replicate_succ, List.replicate_succ, List.flatten_cons, List.flatten_cons]
    exact h.append (RpL.rep h n)
theorem RpL.one {d : D} {x : V} (r : Rp K H d x) : RpL K H [d] [x] := ⟨x, [], rfl, r, rfl⟩
end
def cutD (ds : List D) (lo hi : Option Int) : List D := (ds.drop (HT.sIx ds.length 0 lo)).take (HT.sIx ds.length ds.length hi - HT.sIx ds.length 0 lo)
theorem RpL.cut {K : PySem.W.Frag} {H : Hp} {ds : List D} {xs : List V} (h : RpL K H ds xs) (lo hi : Option Int) : RpL K H (cutD ds lo hi) (cutV xs lo hi) := by
  unfold cutD cutV
  rw [h.len]
  exact (h.drop _).take _
theorem atI_get' {K : PySem.W.Frag} {H : Hp} {ds : List D} {xs : List V} (h : RpL K H ds xs) {i : Int} {d : D} (e : atI ds i = some d) : ∃ x, atI xs i = some x ∧ Rp K H d x := by
  unfold atI at e ⊢
  rw [h.len]
  cases q : ixN ds.length i with
  | none => rw [q] at e; cases e
  | some j => rw [q] at e; exact h.get e

/-! ### flat data -/
def flatD : D → Bool
  | .non => true | .bl _ => true | .int _ => true | .str _ => true | _ => false
def toV : D → V
  | .bl b => .bl b | .int i => .int i | .str s => .str s | _ => .non
section
variable {K : PySem.W.Frag} {H Hm : Hp}
theorem toV_of {d : D} {v : V} (f : flatD d = true) (r : Rp K H d v) : v = toV d := by
  cases d with
  | non => exact r
  | bl b => exact r
  | int i => exact r
  | str s => exact r
  | lst _ => cases f
  | tup _ => cases f
  | ins _ _ => cases f
  | prs _ => cases f
  | dic _ => cases f
  | scr _ => cases f
theorem flatV_toV {d : D} (f : flatD d = true) : flatV (toV d) = true := by
  cases d <;> first | rfl | cases f
theorem toV_all : ∀ {ds : List D} {xs : List V}, ds.all flatD = true → RpL K H ds xs → xs = ds.map toV
  | [], xs, _, h => h
  | d :: ds, xs, f, ⟨y, ys, h1, h2, h3⟩ => by
    rw [List.all_cons, Bool.and_eq_true] at f
    rw [h1, toV_of f.1 h2, toV_all f.2 h3]
    rfl
theorem flatV_all : ∀ {ds : List D}, ds.all flatD = true → (ds.map toV).all flatV = true
  | [], _ => rfl
  | d :: ds, f => by
    rw [List.all_cons, Bool.and_eq_true] at f
    rw [List.map_cons, List.all_cons, flatV_toV f.1, flatV_all f.2]
    rfl
theorem rp_flat {d : D} (f : flatD d = true) : Rp K H d (toV d) := by
  cases d <;> first | rfl | cases f
end
def inD (x : D) (ds : List D) : Bool := inV (toV x) (ds.map toV)

/-! ### plain data: what == looks at -/
mutual
def pyD : D → Option PyData
  | .non => some .none
  | .bl b => some (.bool b)
  | .int i => some (.int i)
  | .str s => some (.str s)
  | .lst ds => (pyL ds).map .list
  | .tup ds => (pyL ds).map .tuple
  | .ins _ _ => none
  | .dic _ => none
  | .scr _ => none
  | .prs _ => none
def pyL : List D → Option (List PyData)
  | [] => some []
  | d :: ds => match pyD d with
    | some p => (pyL ds).map (p :: ·)
    | none => none
end
mutual
theorem Rp.dp {K : PySem.W.Frag} {H : Hp} : ∀ {d : D} {v : V} {p : PyData}, pyD d = some p → Rp K H d v → Dp K H v p
  | .non, v, p, h, r => by cases h; rw [show v = .non from r]; exact .non
  | .bl b, v, p, h, r => by cases h; rw [show v = .bl b from r]; exact .bl b
  | .int i, v, p, h, r => by cases h; rw [show v = .int i from r]; exact .int i
  | .str s, v, p, h, r => by cases h; rw [show v = .str s from r]; exact .str s
  | .lst ds, v, p, h, ⟨a, xs, h1, h2, h3⟩ => by
    simp only [pyD] at h
    cases q : pyL ds with
    | none => rw [q] at h; cases h
    | some ps =>
      rw [q] at h
      cases h
      rw [h1]
      exact .lst (SqL.of h2) (RpL.dp q h3)
  | .tup ds, v, p, h, ⟨a, xs, h1, h2, h3⟩ => by
    simp only [pyD] at h
    cases q : pyL ds with
    | none => rw [q] at h; cases h
    | some ps =>
      rw [q] at h
      cases h
      rw [h1]
      exact .tup h2.sq (RpL.dp q h3)
  | .prs _, v, p, h, _ => by cases h
  | .ins _ _, v, p, h, _ => by cases h
  | .dic _, v, p, h, _ => by cases h
  | .scr _, v, p, h, _ => by cases h
theorem RpL.dp {K : PySem.W.Frag} {H : Hp} : ∀ {ds : List D} {xs : List V} {ps : List PyData}, pyL ds = some ps → RpL K H ds xs → DpAll K H xs ps
  | [], xs, ps, h, r => by cases h; rw [show xs = [] from r]; exact .nil
  | d :: ds, xs, ps, h, ⟨y, ys, h1, h2, h3⟩ => by
    simp only [pyL] at h
    cases q : pyD d with
    | none => rw [q] at h; cases h
    | some p =>
      rw [q] at h
      simp only at h
      cases q2 : pyL ds with
      | none => rw [q2] at h; cases h
      | some ps' =>
        rw [q2] at h
        cases h
        rw [h1]
        exact .cons (Rp.dp q h2) (RpL.dp q2 h3)
end

/-! ### operators -/
abbrev big : Nat := 100000
theorem big_ok {n : Nat} (h : n ≤ big) : n ≤ sizeLine := Nat.le_trans h (by decide)
theorem big_lt {n : Nat} (h : n < big) : n < sizeLine := Nat.lt_of_lt_of_le h (by decide)
def addD : D → D → Option Out
  | .int i, .int j => some (.same (.int (i + j)))
  | .str x, .str y => if x.length + y.length ≤ big then some (.same (.str (x ++ y))) else none
  | .lst xs, .lst ys => if xs.length + ys.length ≤ big then some (.newL (xs ++ ys)) else none
  | .tup xs, .tup ys => if xs.length + ys.length ≤ big then if xs = [] then some (.same (.tup ys)) else if ys = [] then some (.same (.tup xs)) else none else none
  | _, _ => none
def subD : D → D → Option Out
  | .int i, .int j => some (.same (.int (i - j)))
  | _, _ => none
def mulOk (i j : Int) : Bool := decide ((-(2 ^ 64) < i ∧ i < 2 ^ 64) ∨ (-(2 ^ 64) < j ∧ j < 2 ^ 64))
def mulD : D → D → Option Out
  | .int i, .int j => if mulOk i j then some (.same (.int (i * j))) else none
  | .lst xs, .int k => if k ≤ big ∧ xs.length * k.toNat ≤ big ∧ 0 ≤ k then some (.newL (List.replicate k.toNat xs).flatten) else none
  | _, _ => none
def modD : D → D → Option Out
  | .int i, .int j => if 0 < j then some (.same (.int (i % j))) else none
  | _, _ => none
def fdivD : D → D → Option Out
  | .int i, .int j => if 0 < j ∧ j < 2 ^ 8000 then some (.same (.int (i / j))) else none
  | _, _ => none
def powD : D → D → Option Out
  | .int i, .int j => if 0 ≤ j ∧ j ≤ 1000 ∧ -(2 ^ 63) < i ∧ i < 2 ^ 63 then some (.same (.int (i ^ j.toNat))) else none
  | _, _ => none
def ltD : D → D → Option Out
  | .int i, .int j => some (.same (.bl (decide (i < j))))
  | _, _ => none
def leD : D → D → Option Out
  | .int i, .int j => some (.same (.bl (decide (i ≤ j))))
  | _, _ => none
def gtD : D → D → Option Out
  | .int i, .int j => some (.same (.bl (decide (j < i))))
  | _, _ => none
def geD : D → D → Option Out
  | .int i, .int j => some (.same (.bl (decide (j ≤ i))))
  | _, _ => none
def eqB (d e : D) : Option Bool := match pyD d with
  | some p => match pyD e with
    | some q => if SeqAt.shaped p && SeqAt.shaped q then some (PyData.eqv p q) else none
    | none => none
  | none => none
def eqD (d e : D) : Option Out := (eqB d e).map fun b => .same (.bl b)
def neD (d e : D) : Option Out := (eqB d e).map fun b => .same (.bl !b)
def isNonB : D → Bool
  | .non => true | _ => false
def isND : D → D → Option Out
  | d, .non => some (.same (.bl (isNonB d)))
  | _, _ => none
def notND : D → D → Option Out
  | d, .non => some (.same (.bl (!isNonB d)))
  | _, _ => none
def isBD : D → D → Option Out
  | .bl a, .bl b => some (.same (.bl (decide (a = b))))
  | _, _ => none
def notBD : D → D → Option Out
  | .bl a, .bl b => some (.same (.bl (!decide (a = b))))
  | _, _ => none
def itemsD : D → Option (List D)
  | .lst ds => some ds
  | .tup ds => some ds
  | _ => none
def inSD (x y : D) : Option Out := match itemsD y with
  | some ds => if flatD x && ds.all flatD then some (.same (.bl (inD x ds))) else none
  | none => none
def notInSD (x y : D) : Option Out := match itemsD y with
  | some ds => if flatD x && ds.all flatD then some (.same (.bl (!inD x ds))) else none
  | none => none
def ixD (x i : D) : Option Out := match i with
  | .int i => match itemsD x with
    | some ds => (atI ds i).map .same
    | none => none
  | _ => none
end DL

namespace DL
open PySem PySem.Spec PyProof.Rows L2
section
variable {K : PySem.W.Frag} {Hm H : Hp}
theorem top_lst {ds : List D} {v : V} (h : RpTop K Hm H (.lst ds) v) : ∃ a xs, v = .ref a ∧ H a = some (.lst xs) ∧ RpL K Hm ds xs := h
theorem items_of {x : D} {ds : List D} {v : V} (e : itemsD x = some ds) (sm : Same Hm H) (h : RpTop K Hm H x v) : ∃ a xs, v = .ref a ∧ (SqL K H a xs ∨ SqT K H a xs) ∧ RpL K Hm ds xs := by
  cases x with
  | lst ds' =>
    cases e
    obtain ⟨a, xs, h1, h2, h3⟩ := h
    exact ⟨a, xs, h1, .inl (SqL.of h2), h3⟩
  | tup ds' =>
    cases e
    obtain ⟨a, xs, h1, h2, h3⟩ := h
    exact ⟨a, xs, h1, .inr (SqT.mono sm h2.sq), h3⟩
  | non => cases e
  | bl _ => cases e
  | int _ => cases e
  | str _ => cases e
  | ins _ _ => cases e
  | prs _ => cases e
  | dic _ => cases e
  | scr _ => cases e
end
section
variable {X : Cx}
def rAddA (K : PySem.W.Frag) : R2 := fun x y H Q => (rI0 fun i j => .int (i + j)) x y H Q ∨ (∃ i j, x = .str i ∧ y = .str j ∧ i.length + j.length ≤ sizeLine ∧ Q (.str (i ++ j)) H) ∨ rCat x y H Q ∨ rCatA K x y H Q
theorem op_addA : OpR X (binaryOp .Add) (rAddA X.K) := op_add.or (op_add_str.or (op_cat.or op_catA))
theorem snd_add {K : PySem.W.Frag} : SndOp K (rAddA K) addD := by
  intro Hm H x y d e Q out sm rd re hg post
  unfold addD at hg
  split at hg
  · cases hg
    exact .inl ⟨_, _, rd, re, post _ rfl⟩
  · split at hg
    · cases hg
      exact .inr (.inl ⟨_, _, rd, re, big_ok ‹_›, post _ rfl⟩)
    · cases hg
  · rename_i xs ys
    split at hg
    · cases hg
      obtain ⟨a, us, h1, h2, h3⟩ := rd
      obtain ⟨b, ws, k1, k2, k3⟩ := re
      have l1 := h3.len
      have l2 := k3.len
      refine .inr (.inr (.inl ⟨a, b, us, ws, h1, k1, h2, k2, big_ok (by omega), fun p hp => post p _ hp (h3.append k3)⟩))
    · cases hg
  · rename_i xs ys
    obtain ⟨a, us, h1, h2, h3⟩ := rd
    obtain ⟨b, ws, k1, k2, k3⟩ := re
    have l1 := h3.len
    have l2 := k3.len
    have nx : ∀ {α β : Type} {l : List α} {k : List β}, l.length = k.length → (l = [] ↔ k = []) := fun {α β l k} e => by
      rw [← List.length_eq_zero_iff, ← List.length_eq_zero_iff, e]
    subst h1; subst k1
    split at hg
    · rename_i hc
      by_cases hx : xs = []
      · rw [if_pos hx] at hg
        cases hg
        exact .inr (.inr (.inr ⟨a, b, us, ws, rfl, rfl, SqT.mono sm h2.sq, SqT.mono sm k2.sq, big_ok (by omega), fun _ => post _ ⟨b, ws, rfl, k2, k3⟩, fun z => absurd ((nx l1).mpr hx) z, fun z => absurd ((nx l1).mpr hx) z⟩))
      · rw [if_neg hx] at hg
        by_cases hy : ys = []
        · rw [if_pos hy] at hg
          cases hg
          exact .inr (.inr (.inr ⟨a, b, us, ws, rfl, rfl, SqT.mono sm h2.sq, SqT.mono sm k2.sq, big_ok (by omega), fun z => absurd ((nx l1).mp z) hx, fun _ _ => post _ ⟨a, us, rfl, h2, h3⟩, fun _ z => absurd ((nx l2).mpr hy) z⟩))
        · rw [if_neg hy] at hg
          cases hg
    · cases hg
  · cases hg
theorem snd_sub {K : PySem.W.Frag} : SndOp K (rI0 fun i j => .int (i - j)) subD := by
  intro Hm H x y d e Q out sm rd re hg post
  unfold subD at hg
  split at hg
  · cases hg
    exact ⟨_, _, rd, re, post _ rfl⟩
  · cases hg
def rMulA : R2 := fun x y H Q => (rI CMul fun i j => .int (i * j)) x y H Q ∨ rRep x y H Q
theorem op_mulA : OpR X (binaryOp .Mult) rMulA := op_mul.or op_rep
theorem snd_mul {K : PySem.W.Frag} : SndOp K rMulA mulD := by
  intro Hm H x y d e Q out sm rd re hg post
  unfold mulD at hg
  split at hg
  · split at hg
    · rename_i i j hc
      cases hg
      exact .inl ⟨i, j, rd, re, (show (-(2 ^ 64) < i ∧ i < 2 ^ 64) ∨ (-(2 ^ 64) < j ∧ j < 2 ^ 64) from of_decide_eq_true hc), post _ rfl⟩
    · cases hg
  · split at hg
    · rename_i xs k hc
      cases hg
      obtain ⟨a, us, h1, h2, h3⟩ := rd
      have l1 := h3.len
      refine .inr ⟨a, k, us, h1, re, h2, by omega, ?_, big_ok (by rw [l1]; exact hc.2.1), fun p hp => post p _ hp (h3.rep _)⟩
      have := hc.1
      show k < 2 ^ 63
      have h9 : ((big : Nat) : Int) = 100000 := rfl
      omega
    · cases hg
  · cases hg
theorem snd_mod {K : PySem.W.Frag} : SndOp K (rI (fun _ j => 0 < j) fun i j => .int (i % j)) modD := by
  intro Hm H x y d e Q out sm rd re hg post
  unfold modD at hg
  split at hg
  · split at hg
    · cases hg
      exact ⟨_, _, rd, re, ‹_›, post _ rfl⟩
    · cases hg
  · cases hg
theorem snd_fdiv {K : PySem.W.Frag} : SndOp K (rI CDivW fun i j => .int (i / j)) fdivD := by
  intro Hm H x y d e Q out sm rd re hg post
  unfold fdivD at hg
  split at hg
  · split at hg
    · rename_i i j hc
      cases hg
      exact ⟨i, j, rd, re, wide_div (b := 8000) hc.1 (by have := hc.2; have h0 := hc.1; omega) (by decide) (by decide), post _ rfl⟩
    · cases hg
  · cases hg
theorem snd_pow {K : PySem.W.Frag} : SndOp K (rI CPow fun i j => .int (i ^ j.toNat)) powD := by
  intro Hm H x y d e Q out sm rd re hg post
  unfold powD at hg
  split at hg
  · split at hg
    · rename_i i j hc
      cases hg
      refine ⟨i, j, rd, re, ⟨hc.1, by omega, ?_⟩, post _ rfl⟩
      have h1 := hc.2.2.1
      have h2 := hc.2.2.2
      omega
    · cases hg
  · cases hg
theorem snd_lt {K : PySem.W.Frag} : SndOp K (rI0 fun i j => .bl (decide (i < j))) ltD := by
  intro Hm H x y d e Q out sm rd re hg post
  unfold ltD at hg
  split at hg
  · cases hg
    exact ⟨_, _, rd, re, post _ rfl⟩
  · cases hg
theorem snd_le {K : PySem.W.Frag} : SndOp K (rI0 fun i j => .bl (decide (i ≤ j))) leD := by
  intro Hm H x y d e Q out sm rd re hg post
  unfold leD at hg
  split at hg
  · cases hg
    exact ⟨_, _, rd, re, post _ rfl⟩
  · cases hg
theorem snd_gt {K : PySem.W.Frag} : SndOp K (rI0 fun i j => .bl (decide (j < i))) gtD := by
  intro Hm H x y d e Q out sm rd re hg post
  unfold gtD at hg
  split at hg
  · cases hg
    exact ⟨_, _, rd, re, post _ rfl⟩
  · cases hg
theorem snd_ge {K : PySem.W.Frag} : SndOp K (rI0 fun i j => .bl (decide (j ≤ i))) geD := by
  intro Hm H x y d e Q out sm rd re hg post
  unfold geD at hg
  split at hg
  · cases hg
    exact ⟨_, _, rd, re, post _ rfl⟩
  · cases hg
theorem eqB_some {d e : D} {b : Bool} (h : eqB d e = some b) : ∃ p q, pyD d = some p ∧ pyD e = some q ∧ SeqAt.shaped p = true ∧ SeqAt.shaped q = true ∧ PyData.eqv p q = b := by
  unfold eqB at h
  cases e1 : pyD d with
  | none => rw [e1] at h; cases h
  | some p =>
    cases e2 : pyD e with
    | none => rw [e1, e2] at h; cases h
    | some q =>
      rw [e1, e2] at h
      simp only at h
      split at h
      · rename_i hc
        cases h
        rw [Bool.and_eq_true] at hc
        exact ⟨p, q, rfl, rfl, hc.1, hc.2, rfl⟩
      · cases h
theorem snd_eq {K : PySem.W.Frag} : SndOp K (rEqD K) eqD := by
  intro Hm H x y d e Q out sm rd re hg post
  unfold eqD at hg
  cases q : eqB d e with
  | none => rw [q] at hg; cases hg
  | some b =>
    rw [q] at hg
    cases hg
    obtain ⟨p, q, e1, e2, s1, s2, e3⟩ := eqB_some q
    exact ⟨p, q, Rp.dp e1 (rd.full sm), Rp.dp e2 (re.full sm), s1, s2, by rw [e3]; exact post _ rfl⟩
theorem snd_ne {K : PySem.W.Frag} : SndOp K (rNeD K) neD := by
  intro Hm H x y d e Q out sm rd re hg post
  unfold neD at hg
  cases q : eqB d e with
  | none => rw [q] at hg; cases hg
  | some b =>
    rw [q] at hg
    cases hg
    obtain ⟨p, q, e1, e2, s1, s2, e3⟩ := eqB_some q
    exact ⟨p, q, Rp.dp e1 (rd.full sm), Rp.dp e2 (re.full sm), s1, s2, by rw [e3]; exact post _ rfl⟩
theorem isNon_of {K : PySem.W.Frag} {H : Hp} {d : D} {v : V} (r : Rp K H d v) : decide (v = .non) = isNonB d := by
  cases d with
  | non => rw [show v = .non from r]; rfl
  | bl b => rw [show v = .bl b from r]; rfl
  | int b => rw [show v = .int b from r]; rfl
  | str b => rw [show v = .str b from r]; rfl
  | lst ds => obtain ⟨a, xs, h1, _⟩ := r; rw [h1]; rfl
  | tup ds => obtain ⟨a, xs, h1, _⟩ := r; rw [h1]; rfl
  | ins C fs => obtain ⟨a, dx, vs, h1, _⟩ := r; rw [h1]; rfl
  | dic kvs => obtain ⟨a, vs, h1, _⟩ := r; rw [h1]; rfl
  | scr ns => obtain ⟨a, h1, _⟩ := r; rw [h1]; rfl
  | prs ds => obtain ⟨a, xs, h1, _⟩ := r; rw [h1]; rfl
theorem snd_isN {K : PySem.W.Frag} : SndOp K (fun x y H Q => y = .non ∧ Q (.bl (decide (x = .non))) H) isND := by
  intro Hm H x y d e Q out sm rd re hg post
  unfold isND at hg
  split at hg
  · cases hg
    exact ⟨re, by rw [isNon_of (rd.full sm)]; exact post _ rfl⟩
  · cases hg
theorem snd_notN {K : PySem.W.Frag} : SndOp K (fun x y H Q => y = .non ∧ Q (.bl (!decide (x = .non))) H) notND := by
  intro Hm H x y d e Q out sm rd re hg post
  unfold notND at hg
  split at hg
  · cases hg
    exact ⟨re, by rw [isNon_of (rd.full sm)]; exact post _ rfl⟩
  · cases hg
theorem snd_isB {K : PySem.W.Frag} : SndOp K rIsB isBD := by
  intro Hm H x y d e Q out sm rd re hg post
  unfold isBD at hg
  split at hg
  · cases hg
    exact ⟨_, _, rd, re, post _ rfl⟩
  · cases hg
theorem snd_notB {K : PySem.W.Frag} : SndOp K rNotB notBD := by
  intro Hm H x y d e Q out sm rd re hg post
  unfold notBD at hg
  split at hg
  · cases hg
    exact ⟨_, _, rd, re, post _ rfl⟩
  · cases hg
theorem snd_in {K : PySem.W.Frag} : SndOp K (rIn K false) inSD := by
  intro Hm H x y d e Q out sm rd re hg post
  unfold inSD at hg
  split at hg
  · rename_i ds q
    split at hg
    · rename_i hc
      cases hg
      rw [Bool.and_eq_true] at hc
      obtain ⟨a, xs, h1, h2, h3⟩ := items_of q sm re
      refine ⟨a, xs, h1, h2, ?_, ?_, ?_⟩
      · rw [toV_of hc.1 (rd.full sm)]; exact flatV_toV hc.1
      · rw [toV_all hc.2 h3]; exact flatV_all hc.2
      · rw [toV_of hc.1 (rd.full sm), toV_all hc.2 h3]; exact post _ rfl
    · cases hg
  · cases hg
theorem snd_notIn {K : PySem.W.Frag} : SndOp K (rIn K true) notInSD := by
  intro Hm H x y d e Q out sm rd re hg post
  unfold notInSD at hg
  split at hg
  · rename_i ds q
    split at hg
    · rename_i hc
      cases hg
      rw [Bool.and_eq_true] at hc
      obtain ⟨a, xs, h1, h2, h3⟩ := items_of q sm re
      refine ⟨a, xs, h1, h2, ?_, ?_, ?_⟩
      · rw [toV_of hc.1 (rd.full sm)]; exact flatV_toV hc.1
      · rw [toV_all hc.2 h3]; exact flatV_all hc.2
      · rw [toV_of hc.1 (rd.full sm), toV_all hc.2 h3]; exact post _ rfl
    · cases hg
  · cases hg
theorem ixA : IxR X (fun x y H Q => rIxL X.K x y H Q ∨ rIxT X.K x y H Q) := ix_list.or ix_tup
theorem snd_ix {K : PySem.W.Frag} : SndOp K (fun x y H Q => rIxL K x y H Q ∨ rIxT K x y H Q) ixD := by
  intro Hm H x y d e Q out sm rd re hg post
  unfold ixD at hg
  split at hg
  · rename_i i
    split at hg
    · rename_i ds q
      obtain ⟨a, xs, h1, h2, h3⟩ := items_of q sm rd
      cases q2 : atI ds i with
      | none => rw [q2] at hg; cases hg
      | some z =>
        rw [q2] at hg
        cases hg
        obtain ⟨v, e1, r⟩ := atI_get' h3 q2
        rcases h2 with h2 | h2
        · exact .inl ⟨a, xs, i, v, h1, re, h2, e1, post v r⟩
        · exact .inr ⟨a, xs, i, v, h1, re, h2, e1, post v r⟩
    · cases hg
  · cases hg
end
end DL

namespace DL
open PySem PySem.Spec PyProof.Rows L2
section
variable {X : Cx} {F : Fr} {E : XK} {e a b c : Expr} {es : List Expr} {pos p2 : Pos} {G Ga Gb : List Ent → R Kd} {GA : List Ent → R (List Kd)}
theorem je_ix (ha : PE X a (tE X.K F E Ga)) (hb : PE X b (tE X.K F E Gb)) (hs : PlainIx b := by exact fun _ _ => rfl) : PE X (.Subscript a b pos) (tE X.K F E (binR ixD Ga Gb)) :=
  peI (pe_ix ixA (je_fz ha) (je_fz hb) hs) fun _ _ _ h => tOp_of snd_ix h
theorem rpl_ints {K : PySem.W.Frag} {H : Hp} : ∀ ns : List Int, RpL K H (ns.map .int) (ns.map V.int)
  | [] => rfl
  | n :: ns => ⟨_, _, rfl, rfl, rpl_ints ns⟩
/-! ### slices -/
def partN : List Ent → R (Option Int) := fun ρ => .ok none ρ
def partS (G : List Ent → R Kd) (ρ : List Ent) : R (Option Int) := match G ρ with
  | .ok (.va (.int i)) ρ' => .ok (some i) ρ'
  | .ex x ρ' => .ex x ρ'
  | _ => .bad
def slD (lo hi : Option Int) : D → Option Out
  | .lst ds => some (.newL (cutD ds lo hi))
  | .scr ns => some (.newL (cutD (ns.map .int) lo hi))
  | .tup ds => if HT.sIx ds.length 0 lo = 0 ∧ HT.sIx ds.length ds.length hi = ds.length then some (.same (.tup ds)) else none
  | _ => none
def sliceR (G : List Ent → R Kd) (A B : List Ent → R (Option Int)) (ρ : List Ent) : R Kd := (fz (G ρ)).bind fun k ρ1 => (A ρ1).bind fun lo ρ2 => (B ρ2).bind fun hi ρ3 => match cont ρ3 k with
  | some d => outO (slD lo hi d) ρ3
  | none => .bad
def PostO (K : PySem.W.Frag) (F : Fr) (E : XK) (T : HT) (σ : L2.St) (Q : Option Int → Hp → Prop) : R (Option Int) → Prop
  | .ok b ρ => ∀ H', Ok K F T H' σ ρ → Q b H'
  | .ex x ρ => PostX K F E T σ x ρ
  | .bad => False
def tO (K : PySem.W.Frag) (F : Fr) (E : XK) (G : List Ent → R (Option Int)) : TO := fun σ H Q => ∃ ρ T, Mono T ∧ Ok K F T H σ ρ ∧ PostO K F E T σ Q (G ρ)
theorem poI {e : Option Expr} {t t' : TO} (h : PO X e t) (w : ∀ σ H Q, t' σ H Q → t σ H Q) : PO X e t' := ⟨fun pins s σ H Q I q => h.run pins s σ H Q I (w σ H Q q)⟩
theorem jo_none : PO X none (tO X.K F E partN) := poI po_none fun σ H Q ⟨ρ, T, m, o, p⟩ => p H o
theorem jo_some (h : PE X e (tE X.K F E G)) : PO X (some e) (tO X.K F E (partS G)) := poI (po_some h) fun σ H Q ⟨ρ, T, m, o, p⟩ => by
  refine ⟨ρ, T, m, o, ?_⟩
  unfold partS at p
  split at p
  · rename_i i ρ' q
    rw [q]
    exact fun v H' o' => ⟨i, o'.t.2, p H' (o'.weak fun _ z => z.1)⟩
  · rename_i x ρ' q
    rw [q]
    exact p
  · exact p.elim
theorem bdO {β : Type} {K : PySem.W.Frag} {σ : L2.St} {T : HT} {H : Hp} {ρ : List Ent} {P : HT → R β → Prop} (pf : PF K F E σ P) {G : List Ent → R (Option Int)} {f : Option Int → List Ent → R β} (m : Mono T) (o : Ok K F T H σ ρ) (p : P T ((G ρ).bind f))
    {Q2 : Option Int → Hp → Prop} (c : ∀ b H1 ρ1, Ok K F T H1 σ ρ1 → P T (f b ρ1) → Q2 b H1) : tO K F E G σ H Q2 := by
  refine ⟨ρ, T, m, o, ?_⟩
  cases hg : G ρ with
  | ok k ρ' => rw [hg] at p; exact fun H' o' => c _ _ ρ' o' p
  | ex x ρ' => rw [hg] at p; exact pf.px _ _ _ p
  | bad => rw [hg] at p; exact (pf.pb _ p).elim
theorem sl_A : SlR X (fun x lo hi H Q => rSlL X.K x lo hi H Q ∨ rSlA X.K x lo hi H Q) := sl_list.or sl_tupA
theorem je_slice {lo hi : Option Expr} {A B : List Ent → R (Option Int)} (h : PE X e (tE X.K F E G)) (hl : PO X lo (tO X.K F E A)) (hh : PO X hi (tO X.K F E B)) : PE X (.Subscript e (.Slice lo hi none p2) pos) (tE X.K F E (sliceR G A B)) :=
  peI (pe_slice sl_A (je_fz h) hl hh) fun σ H Q ⟨ρ, T, m, o, p⟩ => by
    refine bdE (pf_E Q) m o p fun x H1 k ρ1 o1 p1 => ?_
    have m1 : Mono fun h => T h ∧ KAt X.K σ h k x := m.and mono_kat
    refine bdO (T := fun h => T h ∧ KAt X.K σ h k x) (pf_E Q) m1 o1 ((pf_E Q).pw _ _ _ (fun _ z => z.1) p1) fun lo' H2 ρ2 o2 p2 => ?_
    refine bdO (pf_E Q) m1 o2 p2 fun hi' H3 ρ3 o3 p3 => ?_
    have p3 : PostE X.K F E (fun h => T h ∧ KAt X.K σ h k x) σ Q (match cont ρ3 k with
      | some d => outO (slD lo' hi' d) ρ3
      | none => .bad) := p3
    cases q : cont ρ3 k with
    | none => rw [q] at p3; exact p3.elim
    | some d =>
      rw [q] at p3
      have r := kat_top (T := T) o3 q
      cases d with
      | lst ds =>
        obtain ⟨a, xs, h1, h2, h3⟩ := r
        exact .inl ⟨a, xs, h1, SqL.of h2, fun p hp => outP_of (out := .newL (cutD ds lo' hi')) m1 o3 p3 p _ hp (h3.cut _ _)⟩
      | tup ds =>
        obtain ⟨a, xs, h1, h2, h3⟩ := id r
        have p3 : PostE X.K F E (fun h => T h ∧ KAt X.K σ h k x) σ Q (outO (if HT.sIx ds.length 0 lo' = 0 ∧ HT.sIx ds.length ds.length hi' = ds.length then some (.same (.tup ds)) else none) ρ3) := p3
        have hl := h3.len
        refine .inr ⟨a, xs, h1, SqT.mono wo_le h2.sq, fun hw => ?_, fun hw p hp => ?_⟩
        · rw [hl] at hw
          rw [if_pos hw] at p3
          exact outP_of (out := .same (.tup ds)) m1 o3 p3 _ (by rw [← h1]; exact r)
        · rw [hl] at hw
          rw [if_neg hw] at p3
          exact p3.elim
      | non => exact p3.elim
      | bl _ => exact p3.elim
      | int _ => exact p3.elim
      | str _ => exact p3.elim
      | ins _ _ => exact p3.elim
      | prs _ => exact p3.elim
      | dic _ => exact p3.elim
      | scr ns =>
        obtain ⟨a, h1, h2⟩ := id r
        exact .inl ⟨a, _, h1, wo_le.seq h2, fun p hp => outP_of (out := .newL (cutD (ns.map .int) lo' hi')) m1 o3 p3 p _ hp (RpL.cut (rpl_ints ns) _ _)⟩
/-! ### arguments -/
def consR (G : List Ent → R Kd) (GA : List Ent → R (List Kd)) (ρ : List Ent) : R (List Kd) := (fz (G ρ)).bind fun k ρ1 => (GA ρ1).bind fun ks ρ2 => .ok (k :: ks) ρ2
def consV (G : List Ent → R Kd) (GA : List Ent → R (List Kd)) (ρ : List Ent) : R (List Kd) := (toVa (G ρ)).bind fun k ρ1 => (GA ρ1).bind fun ks ρ2 => .ok (k :: ks) ρ2
theorem ja_nil : PA X [] (tA X.K F E fun ρ => .ok [] ρ) := paI pa_nil fun σ H Q ⟨ρ, T, m, o, p⟩ => p [] H (o.to ⟨o.t, rfl⟩)
theorem ja_cons (h : PE X e (tE X.K F E G)) (hr : PA X es (tA X.K F E GA)) (hs : starEach (e :: es) X.env = (false, eval e X.env) :: starEach es X.env := by rfl) : PA X (e :: es) (tA X.K F E (consR G GA)) :=
  paI (pa_cons (je_fz h) hr hs) fun σ H Q ⟨ρ, T, m, o, p⟩ => by
    refine bdE (pf_A Q) m o p fun x H1 k ρ1 o1 p1 => ?_
    refine bdA (T := fun h => T h ∧ KAt X.K σ h k x) (pf_A Q) (m.and mono_kat) o1 ((pf_A Q).pw _ _ _ (fun _ z => z.1) p1) fun xs H2 ks ρ2 o2 p2 => ?_
    exact p2 _ H2 (o2.weak fun _ z => ⟨z.1, x, xs, rfl, z.1.2, z.2⟩)
theorem ja_consV (h : PE X e (tE X.K F E G)) (hr : PA X es (tA X.K F E GA)) (hs : starEach (e :: es) X.env = (false, eval e X.env) :: starEach es X.env := by rfl) : PA X (e :: es) (tA X.K F E (consV G GA)) :=
  paI (pa_cons (je_toVa h) hr hs) fun σ H Q ⟨ρ, T, m, o, p⟩ => by
    refine bdV (pf_A Q) m o p fun x H1 d ρ1 o1 p1 => ?_
    refine bdA (T := fun h => T h ∧ Rp X.K h d x) (pf_A Q) (m.and mono_rp) o1 ((pf_A Q).pw _ _ _ (fun _ z => z.1) p1) fun xs H2 ks ρ2 o2 p2 => ?_
    exact p2 _ H2 (o2.weak fun _ z => ⟨z.1, x, xs, rfl, z.1.2, z.2⟩)
/-- all of them shared data -/
def vas : List Kd → Option (List D)
  | [] => some []
  | .va d :: ks => (vas ks).map (d :: ·)
  | _ :: _ => none
theorem vas_rp {K : PySem.W.Frag} {σ : L2.St} {H : Hp} : ∀ {ks : List Kd} {ds : List D} {vs : List V}, vas ks = some ds → KAts K σ H ks vs → RpL K H ds vs
  | [], ds, vs, h, r => by cases h; exact r
  | .va d :: ks, ds, vs, h, ⟨y, ys, h1, h2, h3⟩ => by
    simp only [vas] at h
    cases q : vas ks with
    | none => rw [q] at h; cases h
    | some ds' =>
      rw [q] at h
      cases h
      exact ⟨y, ys, h1, h2, vas_rp q h3⟩
  | .ow d :: ks, ds, vs, h, _ => by cases h
  | .al i :: ks, ds, vs, h, _ => by cases h
def conts (ρ : List Ent) : List Kd → Option (List D)
  | [] => some []
  | k :: ks => match cont ρ k with
    | some d => (conts ρ ks).map (d :: ·)
    | none => none
def RpTops (K : PySem.W.Frag) (Hm H : Hp) : List D → List V → Prop
  | [], vs => vs = []
  | d :: ds, vs => ∃ y ys, vs = y :: ys ∧ RpTop K Hm H d y ∧ RpTops K Hm H ds ys
theorem kats_top {K : PySem.W.Frag} {σ : L2.St} {T : HT} {H : Hp} {ρ : List Ent} (m : Mono T) : ∀ {ks : List Kd} {vs : List V} {ds : List D}, Ok K F (fun h => T h ∧ KAts K σ h ks vs) H σ ρ → conts ρ ks = some ds → RpTops K (wo H (Ms F σ ρ)) H ds vs
  | [], vs, ds, o, c => by cases c; exact o.t.2
  | k :: ks, vs, ds, o, c => by
    obtain ⟨y, ys, h1, h2, h3⟩ := o.t.2
    simp only [conts] at c
    cases q : cont ρ k with
    | none => rw [q] at c; cases c
    | some d =>
      rw [q] at c
      simp only at c
      cases q2 : conts ρ ks with
      | none => rw [q2] at c; cases c
      | some ds' =>
        rw [q2] at c
        cases c
        exact ⟨y, ys, h1, kat_top (T := T) (o.to ⟨o.t.1, h2⟩) q, kats_top m (ks := ks) (o.to ⟨o.t.1, h3⟩) q2⟩
/-! ### displays -/
def listR (GA : List Ent → R (List Kd)) (ρ : List Ent) : R Kd := (GA ρ).bind fun ks ρ1 => match vas ks with
  | some ds => if ds.length ≤ big then outR (.newL ds) ρ1 else .bad
  | none => .bad
def tupR (GA : List Ent → R (List Kd)) (ρ : List Ent) : R Kd := (GA ρ).bind fun ks ρ1 => match vas ks with
  | some ds => if ds.length ≤ big then outR (.newT ds) ρ1 else .bad
  | none => .bad
theorem je_list (h : PA X es (tA X.K F E GA)) : PE X (.List es pos) (tE X.K F E (listR GA)) := peI (pe_lst h) fun σ H Q ⟨ρ, T, m, o, p⟩ => by
  refine bdA (pf_E Q) m o p fun vs H1 ks ρ1 o1 p1 => ?_
  split at p1
  · rename_i ds q
    split at p1
    · rename_i hz
      have r := vas_rp q o1.t.2
      exact ⟨big_ok (by rw [r.len]; exact hz), fun p hp => outP_of (out := .newL ds) m (o1.weak fun _ z => z.1) p1 p _ hp r⟩
    · exact p1.elim
  · exact p1.elim
theorem je_tup {x1 : Nat} (h : PA X es (tA X.K F E GA)) : PE X (.Tuple es x1 pos) (tE X.K F E (tupR GA)) := peI (pe_tupF h) fun σ H Q ⟨ρ, T, m, o, p⟩ => by
  refine bdA (pf_E Q) m o p fun vs H1 ks ρ1 o1 p1 => ?_
  split at p1
  · rename_i ds q
    split at p1
    · rename_i hz
      have r := vas_rp q o1.t.2
      exact ⟨big_ok (by rw [r.len]; exact hz), fun p ob hp hd => outP_of (out := .newT ds) m (o1.weak fun _ z => z.1) p1 p ob _ hp hd r⟩
    · exact p1.elim
  · exact p1.elim
/-! ### built-ins by values -/
def SndC (K : PySem.W.Frag) (r : List V → Hp → VK → Prop) (g : List D → Option Out) : Prop := ∀ (Hm H : Hp) (xs : List V) (ds : List D) (Q : VK) (out : Out), Same Hm H → RpTops K Hm H ds xs → g ds = some out → OutP K Hm H Q out → r xs H Q
def callR (g : List D → Option Out) (GA : List Ent → R (List Kd)) (ρ : List Ent) : R Kd := (GA ρ).bind fun ks ρ1 => match conts ρ1 ks with
  | some ds => outO (g ds) ρ1
  | none => .bad
theorem tCB_of {r : List V → Hp → VK → Prop} {g : List D → Option Out} {K : PySem.W.Frag} {σ : L2.St} {H : Hp} {Q : VK} (s : SndC K r g) (h : tE K F E (callR g GA) σ H Q) : tCB r (tA K F E GA) σ H Q := by
  obtain ⟨ρ, T, m, o, p⟩ := h
  refine bdA (pf_E Q) m o p fun vs H1 ks ρ1 o1 p1 => ?_
  split at p1
  · rename_i ds q
    cases hg : g ds with
    | none => rw [hg] at p1; exact p1.elim
    | some out =>
      rw [hg] at p1
      exact s _ _ _ _ _ _ wo_le (kats_top m o1 q) hg (outP_of m (o1.weak fun _ z => z.1) p1)
  · exact p1.elim
theorem je_callB {x : Str} {p : Pos} {id : String} {r : List V → Hp → VK → Prop} {g : List D → Option Out} (hc : CallR X (.builtin id) r) (s : SndC X.K r g) (hg : Gl X x) (hm : X.mg x = none) (hv : bootBuiltins x = some (.builtin id)) (ha : PA X (e :: es) (tA X.K F E GA)) (hn : x ≠ "__name__" := by decide)
    (hdb : (x == ("__debug__" : Str)) = false := by decide) (he : starEach (e :: es) X.env = (false, eval e X.env) :: starEach es X.env := by rfl) (hpl : (backTo pos (starEach es X.env)).any (·.1) = false := by rfl) : PE X (.Call (.Name x p) (e :: es) [] pos) (tE X.K F E (callR g GA)) :=
  peI (pe_callB hc hg hm hv ha hn hdb he hpl) fun _ _ _ h => tCB_of s h
theorem je_callTy {x : Str} {p : Pos} {id : String} {r : List V → Hp → VK → Prop} {g : List D → Option Out} (hc : CallR X (.type id) r) (s : SndC X.K r g) (hg : Gl X x) (hm : X.mg x = none) (hv : bootBuiltins x = some (.type id)) (ha : PA X (e :: es) (tA X.K F E GA)) (hn : x ≠ "__name__" := by decide)
    (hdb : (x == ("__debug__" : Str)) = false := by decide) (he : starEach (e :: es) X.env = (false, eval e X.env) :: starEach es X.env := by rfl) (hpl : (backTo pos (starEach es X.env)).any (·.1) = false := by rfl) : PE X (.Call (.Name x p) (e :: es) [] pos) (tE X.K F E (callR g GA)) :=
  peI (pe_callTy hc hg hm hv ha hn hdb he hpl) fun _ _ _ h => tCB_of s h
end
/-! ### the built-ins -/
section
variable {X : Cx} {K : PySem.W.Frag}
def lenD : List D → Option Out
  | [x] => (itemsD x).map fun ds => .same (.int (ds.length : Int))
  | _ => none
theorem snd_len : SndC K (fun xs H Q => ∃ p ys, xs = [.ref p] ∧ (SqL K H p ys ∨ SqT K H p ys) ∧ Q (.int ys.length) H) lenD := by
  intro Hm H xs ds Q out sm r hg post
  unfold lenD at hg
  split at hg
  · rename_i x
    cases q : itemsD x with
    | none => rw [q] at hg; cases hg
    | some ds =>
      rw [q] at hg
      cases hg
      obtain ⟨y, ys, h1, h2, h3⟩ := r
      obtain ⟨a, us, e1, e2, e3⟩ := items_of q sm h2
      refine ⟨a, us, ?_, e2, by rw [e3.len]; exact post _ rfl⟩
      rw [h1, show ys = [] from h3, e1]
  · cases hg
def listD : List D → Option Out
  | [x] => (itemsD x).map .newL
  | _ => none
theorem snd_list : SndC K (fun xs H Q => ∃ p ys, xs = [.ref p] ∧ (SqL K H p ys ∨ SqT K H p ys) ∧ ∀ l, H l = none → Q (.ref l) (upd H l (.lst ys))) listD := by
  intro Hm H xs ds Q out sm r hg post
  unfold listD at hg
  split at hg
  · rename_i x
    cases q : itemsD x with
    | none => rw [q] at hg; cases hg
    | some ds =>
      rw [q] at hg
      cases hg
      obtain ⟨y, ys, h1, h2, h3⟩ := r
      obtain ⟨a, us, e1, e2, e3⟩ := items_of q sm h2
      exact ⟨a, us, by rw [h1, show ys = [] from h3, e1], e2, fun l hl => post l us hl e3⟩
  · cases hg
def tupleD : List D → Option Out
  | [.lst ds] => some (.newT ds)
  | [.tup ds] => some (.same (.tup ds))
  | _ => none
theorem snd_tuple : SndC K (fun xs H Q => ∃ p ys, xs = [.ref p] ∧ ((SqL K H p ys ∧ ∀ l (o : Obj), H l = none → o.dict = none → Q (.ref l) (upd H l (.frz o (.tup ys)))) ∨ (SqT K H p ys ∧ Q (.ref p) H))) tupleD := by
  intro Hm H xs ds Q out sm r hg post
  unfold tupleD at hg
  split at hg
  · cases hg
    obtain ⟨y, ys, h1, ⟨a, us, e1, e2, e3⟩, h3⟩ := r
    exact ⟨a, us, by rw [h1, show ys = [] from h3, e1], .inl ⟨SqL.of e2, fun l ob hl hd => post l ob us hl hd e3⟩⟩
  · cases hg
    obtain ⟨y, ys, h1, h2, h3⟩ := r
    obtain ⟨a, us, e1, e2, e3⟩ := h2
    exact ⟨a, us, by rw [h1, show ys = [] from h3, e1], .inr ⟨SqT.mono sm e2.sq, post _ ⟨a, us, rfl, e2, e3⟩⟩⟩
  · cases hg
def intD : List D → Option Out
  | [.int i] => some (.same (.int i))
  | [.bl b] => some (.same (.int (if b then 1 else 0)))
  | _ => none
theorem snd_int : SndC K (fun xs H Q => (∃ i, xs = [.int i] ∧ Q (.int i) H) ∨ ∃ k, xs = [.bl k] ∧ Q (.int (if k then 1 else 0)) H) intD := by
  intro Hm H xs ds Q out sm r hg post
  unfold intD at hg
  split at hg
  · cases hg
    obtain ⟨y, ys, h1, h2, h3⟩ := r
    exact .inl ⟨_, by rw [h1, show ys = [] from h3, show y = _ from h2], post _ rfl⟩
  · cases hg
    obtain ⟨y, ys, h1, h2, h3⟩ := r
    exact .inr ⟨_, by rw [h1, show ys = [] from h3, show y = _ from h2], post _ rfl⟩
  · cases hg
def boolsD : List D → Option (List Bool)
  | [] => some []
  | .bl b :: ds => (boolsD ds).map (b :: ·)
  | _ :: _ => none
def intsD : List D → Option (List Int)
  | [] => some []
  | .int b :: ds => (intsD ds).map (b :: ·)
  | _ :: _ => none
theorem bools_rp {H : Hp} : ∀ {ds : List D} {bs : List Bool} {xs : List V}, boolsD ds = some bs → RpL K H ds xs → xs = bs.map V.bl
  | [], bs, xs, h, r => by cases h; exact r
  | .bl b :: ds, bs, xs, h, ⟨y, ys, h1, h2, h3⟩ => by
    simp only [boolsD] at h
    cases q : boolsD ds with
    | none => rw [q] at h; cases h
    | some bs' =>
      rw [q] at h
      cases h
      rw [h1, show y = _ from h2, bools_rp q h3]
      rfl
  | .non :: ds, bs, xs, h, _ => by cases h
  | .int _ :: ds, bs, xs, h, _ => by cases h
  | .str _ :: ds, bs, xs, h, _ => by cases h
  | .lst _ :: ds, bs, xs, h, _ => by cases h
  | .tup _ :: ds, bs, xs, h, _ => by cases h
  | .ins _ _ :: ds, bs, xs, h, _ => by cases h
  | .prs _ :: ds, bs, xs, h, _ => by cases h
  | .dic _ :: ds, bs, xs, h, _ => by cases h
  | .scr _ :: ds, bs, xs, h, _ => by cases h
theorem ints_rp {H : Hp} : ∀ {ds : List D} {bs : List Int} {xs : List V}, intsD ds = some bs → RpL K H ds xs → xs = bs.map V.int
  | [], bs, xs, h, r => by cases h; exact r
  | .int b :: ds, bs, xs, h, ⟨y, ys, h1, h2, h3⟩ => by
    simp only [intsD] at h
    cases q : intsD ds with
    | none => rw [q] at h; cases h
    | some bs' =>
      rw [q] at h
      cases h
      rw [h1, show y = _ from h2, ints_rp q h3]
      rfl
  | .non :: ds, bs, xs, h, _ => by cases h
  | .bl _ :: ds, bs, xs, h, _ => by cases h
  | .str _ :: ds, bs, xs, h, _ => by cases h
  | .lst _ :: ds, bs, xs, h, _ => by cases h
  | .tup _ :: ds, bs, xs, h, _ => by cases h
  | .ins _ _ :: ds, bs, xs, h, _ => by cases h
  | .prs _ :: ds, bs, xs, h, _ => by cases h
  | .dic _ :: ds, bs, xs, h, _ => by cases h
  | .scr _ :: ds, bs, xs, h, _ => by cases h
def allD : List D → Option Out
  | [.lst ds] => (boolsD ds).map fun bs => .same (.bl (bs.all id))
  | _ => none
def anyD : List D → Option Out
  | [.lst ds] => (boolsD ds).map fun bs => .same (.bl (bs.any id))
  | _ => none
def sumD : List D → Option Out
  | [.lst ds] => (intsD ds).map fun bs => .same (.int bs.sum)
  | _ => none
theorem snd_all : SndC K (rAll K) allD := by
  intro Hm H xs ds Q out sm r hg post
  unfold allD at hg
  split at hg
  · rename_i ds
    cases q : boolsD ds with
    | none => rw [q] at hg; cases hg
    | some bs =>
      rw [q] at hg
      cases hg
      obtain ⟨y, ys, h1, ⟨a, us, e1, e2, e3⟩, h3⟩ := r
      exact ⟨a, bs, by rw [h1, show ys = [] from h3, e1], SqL.of (by rw [← bools_rp q e3]; exact e2), post _ rfl⟩
  · cases hg
theorem snd_any : SndC K (rAny K) anyD := by
  intro Hm H xs ds Q out sm r hg post
  unfold anyD at hg
  split at hg
  · rename_i ds
    cases q : boolsD ds with
    | none => rw [q] at hg; cases hg
    | some bs =>
      rw [q] at hg
      cases hg
      obtain ⟨y, ys, h1, ⟨a, us, e1, e2, e3⟩, h3⟩ := r
      exact ⟨a, bs, by rw [h1, show ys = [] from h3, e1], SqL.of (by rw [← bools_rp q e3]; exact e2), post _ rfl⟩
  · cases hg
theorem snd_sum : SndC K (rSum K) sumD := by
  intro Hm H xs ds Q out sm r hg post
  unfold sumD at hg
  split at hg
  · rename_i ds
    cases q : intsD ds with
    | none => rw [q] at hg; cases hg
    | some bs =>
      rw [q] at hg
      cases hg
      obtain ⟨y, ys, h1, ⟨a, us, e1, e2, e3⟩, h3⟩ := r
      exact ⟨a, bs, by rw [h1, show ys = [] from h3, e1], SqL.of (by rw [← ints_rp q e3]; exact e2), post _ rfl⟩
  · cases hg
end
end DL

namespace DL
open PySem PySem.Spec PyProof.Rows L2

/-- a def's promise by its function on slots' tellings: its arguments' in, its result and its own arguments' out -/
def spD (K : PySem.W.Frag) (n : Nat) (G : List Ent → R Kd) : Sp := fun vs H Q E => vs.length = n ∧ ∃ (F : Fr) (es : List Ent) (T : HT), F.H0 = H ∧ F.ps = vs ∧ Mono T ∧ Ok K F T H (vs.map some) es ∧ PostE K F E T (vs.map some) Q (G es)

section
variable {K : PySem.W.Frag} {F F' : Fr} {T T2 U : HT} {H1 H' : Hp} {σ vs2 : List (Option V)} {ρ es2 : List Ent}
/-- behind a call that wrote nothing -/
theorem back0 (o1 : Ok K F T H1 σ ρ) (m : Mono T) (o2 : Ok K F' T2 H' vs2 es2) (h0 : F'.H0 = H1) (hw : ∀ a, ¬ F'.W a) (hm : ∀ a, Ms F σ ρ a → F'.M0 a) (m2 : Mono T2) : Ok K F T2 H' σ ρ := by
  have k : ∀ a o, H1 a = some o → H' a = some o := fun a o e => o2.kp a o (by rw [h0]; exact e) (hw a)
  have hs : Same (wo H1 (Ms F σ ρ)) (wo H' (Ms F σ ρ)) := wo_mono fun a o n e => ⟨n, k a o e⟩
  have c := o1.change m hs (fun a o _ _ e => k a o e) (fun a o e => ⟨o, k a o e⟩) o1.len (fun i e v h1 h2 => (o1.cells i e v h1 h2).move hs fun _ _ a o _ _ q => k a o q) o1.inj o1.w
  exact c.to (m2 _ _ (wo_mono fun a o n e => ⟨fun z => n (.inl (hm a z)), e⟩) o2.t)
theorem back0H {v : V} {d : D} (o1 : Ok K F T H1 σ ρ) (m : Mono T) (o2 : Ok K F' T2 H' (some v :: vs2) (.ow none d :: es2)) (h0 : F'.H0 = H1) (hw : ∀ a, ¬ F'.W a) (hm : ∀ a, Ms F σ ρ a → F'.M0 a) (m2 : Mono T2) : Ok K F T2 H' (some v :: σ) (.ow none d :: ρ) := by
  have k : ∀ a o, H1 a = some o → H' a = some o := fun a o e => o2.kp a o (by rw [h0]; exact e) (hw a)
  obtain ⟨p, e1, mu, r⟩ := o2.own (i := 0) (n := none) (d := d) rfl
  cases e1
  have hp : H1 p = none := by rw [← h0]; exact (o2.w 0 p none d rfl rfl).2.2.1 rfl
  have hs2 : Same (wo H' (Ms F' (some (.ref p) :: vs2) (.ow none d :: es2))) (wo H' (Ms F (some (.ref p) :: σ) (.ow none d :: ρ))) := wo_mono fun a o n e => ⟨fun z => by
    rcases z with z | z
    · exact n (.inl (hm a (.inl z)))
    · rcases z.of_cons with ⟨z, _⟩ | z
      · cases z; exact n (.inr Owns.head)
      · exact n (.inl (hm a (.inr z))), e⟩
  have hs : Same (wo H1 (Ms F σ ρ)) (wo H' (Ms F (some (.ref p) :: σ) (.ow none d :: ρ))) := wo_mono fun a o n e => ⟨fun z => by
    rcases z with z | z
    · exact n (.inl z)
    · rcases z.of_cons with ⟨z, _⟩ | z
      · cases z; rw [hp] at e; cases e
      · exact n (.inr z), k a o e⟩
  have np : ∀ (i : Nat) (n : Option Nat) (d' : D), ρ[i]? = some (Ent.ow n d') → ¬ σ[i]? = some (some (V.ref p)) := fun i n d' h1 h2 => o1.m_new hp (.inr ⟨i, n, d', h1, h2⟩)
  have c := o1.change (vs' := some (.ref p) :: σ) (es' := .ow none d :: ρ) m hs (fun a o _ _ e => k a o e) (fun a o e => ⟨o, k a o e⟩) (by simp [o1.len]) (fun i e v h1 h2 => ?_) (fun i j a n m' d1 d2 h1 h2 h3 h4 => ?_) fun i a n d1 h1 h2 => ?_
  · exact c.to (m2 _ _ hs2 o2.t)
  · cases i with
    | zero =>
      simp at h1 h2
      subst h1; subst h2
      exact ⟨_, rfl, mu, r.move hs2 mu fun _ _ _ q => q⟩
    | succ i => exact (o1.cells i e v (by simpa using h1) (by simpa using h2)).move hs fun _ _ a u _ _ q => k a u q
  · cases i with
    | zero =>
      cases j with
      | zero => rfl
      | succ j =>
        simp at h1 h3
        subst h3
        exact (np j m' d2 (by simpa using h2) (by simpa using h4)).elim
    | succ i =>
      cases j with
      | zero =>
        simp at h2 h4
        subst h4
        exact (np i n d1 (by simpa using h1) (by simpa using h3)).elim
      | succ j => rw [o1.inj i j a n m' d1 d2 (by simpa using h1) (by simpa using h2) (by simpa using h3) (by simpa using h4)]
  · cases i with
    | zero =>
      have h1 : Ent.ow none d = .ow n d1 := by simpa using h1
      have h2 : p = a := by simpa using h2
      cases h1
      subst h2
      exact ⟨fun z => o1.m_new hp (.inl z), .inr (o1.new_h0 hp), fun _ => o1.new_h0 hp, fun k z => nomatch z⟩
    | succ i => exact o1.w i a n d1 (by simpa using h1) (by simpa using h2)
/-- what a slot's own thing tells is changed -/
theorem Ok.setOw {b : Addr} {i : Nat} {n : Option Nat} {d d' : D} (o1 : Ok K F T H1 σ ρ) (m : Mono T) (hi : ρ[i]? = some (.ow n d)) (hv : σ[i]? = some (some (.ref b))) (k : ∀ a o, a ≠ b → H1 a = some o → H' a = some o) (hb : ∃ o, H' b = some o)
    (mu : isMut d') (r : Same (wo H1 (Ms F σ ρ)) (wo H' (Ms F σ (ρ.set i (.ow n d')))) → RpTop K (wo H' (Ms F σ (ρ.set i (.ow n d')))) H' d' (.ref b)) : Ok K F T H' σ (ρ.set i (.ow n d')) ∧ ∀ a, Ms F σ (ρ.set i (.ow n d')) a ↔ Ms F σ ρ a := by
  have hl : i < ρ.length := (List.getElem?_eq_some_iff.mp hi).1
  have back : ∀ {j : Nat} {l : Option Nat} {e : D}, (ρ.set i (.ow n d'))[j]? = some (.ow l e) → ∃ e', ρ[j]? = some (.ow l e') := fun {j l e} q => by
    by_cases hj : i = j
    · subst hj
      rw [List.getElem?_set_self hl] at q
      cases q
      exact ⟨d, hi⟩
    · rw [List.getElem?_set_ne hj] at q
      exact ⟨e, q⟩
  have hM : ∀ a, Ms F σ (ρ.set i (.ow n d')) a ↔ Ms F σ ρ a := fun a => by
    refine ⟨fun z => z.elim .inl fun ⟨j, l, e, h1, h2⟩ => ?_, fun z => z.elim .inl fun ⟨j, l, e, h1, h2⟩ => ?_⟩
    · obtain ⟨e', q⟩ := back h1
      exact .inr ⟨j, l, e', q, h2⟩
    · by_cases hj : i = j
      · subst hj
        exact .inr ⟨i, n, d', List.getElem?_set_self hl, h2⟩
      · exact .inr ⟨j, l, e, by rw [List.getElem?_set_ne hj]; exact h1, h2⟩
  have mb : Ms F σ ρ b := .inr ⟨i, n, d, hi, hv⟩
  have hs : Same (wo H1 (Ms F σ ρ)) (wo H' (Ms F σ (ρ.set i (.ow n d')))) := wo_mono fun a o q e => ⟨fun z => q ((hM a).mp z), k a o (fun z => q (z ▸ mb)) e⟩
  refine ⟨o1.change m hs (fun a o h0 nw e => k a o (fun z => ?_) e) (fun a o e => ?_) (by rw [List.length_set]; exact o1.len) (fun j e v h1 h2 => ?_) (fun j l a p q d1 d2 h1 h2 h3 h4 => ?_) fun j a l d1 h1 h2 => ?_, hM⟩
  · subst z
    rcases (o1.w i a n d hi hv).2.1 with z | z
    · exact nw z
    · rw [h0] at z; cases z
  · by_cases hab : a = b
    · subst hab; exact hb
    · exact ⟨o, k a o hab e⟩
  · by_cases hj : i = j
    · subst hj
      rw [List.getElem?_set_self hl] at h1
      cases h1
      rw [hv] at h2
      cases h2
      exact ⟨_, rfl, mu, r hs⟩
    · rw [List.getElem?_set_ne hj] at h1
      refine (o1.cells j e v h1 h2).move hs fun l e' a u ee ev q => k a u (fun z => ?_) q
      subst z; subst ee; subst ev
      exact hj (o1.inj i j a n l d e' hi h1 hv h2)
  · obtain ⟨e1, q1⟩ := back h1
    obtain ⟨e2, q2⟩ := back h2
    exact o1.inj j l a p q e1 e2 q1 q2 h3 h4
  · obtain ⟨e1, q1⟩ := back h1
    exact o1.w j a l e1 q1 h2
end

/-! ### a call, all arguments shared -/
def retU (ρ : List Ent) : R Kd → R Kd
  | .ok (.va d) _ => .ok (.va d) ρ
  | .ok (.ow d) _ => .ok (.ow d) ρ
  | .ex x _ => .ex x ρ
  | _ => .bad
def callU (n : Nat) (G : List Ent → R Kd) (dds : List D) (GA : List Ent → R (List Kd)) (ρ : List Ent) : R Kd := (GA ρ).bind fun ks ρ1 => match vas ks with
  | some ds => if (ds ++ dds).length = n then retU ρ1 (G ((ds ++ dds).map .va)) else .bad
  | none => .bad
theorem vas_no {ds : List D} {i : Nat} {n : Option Nat} {d : D} (h : (ds.map Ent.va)[i]? = some (.ow n d)) : False := by
  rw [List.getElem?_map] at h
  cases q : ds[i]? with
  | none => rw [q] at h; cases h
  | some e => rw [q] at h; cases h
section
variable {K : PySem.W.Frag} {F : Fr} {E : XK} {T : HT} {H1 : Hp} {σ : L2.St} {ρ : List Ent} {ds : List D} {vs : List V} {Q : VK} {G : List Ent → R Kd}
theorem ok_vas (o1 : Ok K F T H1 σ ρ) (m : Mono T) (r : RpL K (wo H1 (Ms F σ ρ)) ds vs) : Ok K ⟨Ms F σ ρ, fun _ => False, H1, vs⟩ T H1 (vs.map some) (ds.map .va) := by
  have hs : Same (wo H1 (Ms F σ ρ)) (wo H1 (Ms ⟨Ms F σ ρ, fun _ => False, H1, vs⟩ (vs.map some) (ds.map .va))) := wo_mono fun a o n e => ⟨fun z => z.elim n fun ⟨i, l, d, h1, _⟩ => vas_no h1, e⟩
  refine ⟨by rw [List.length_map, List.length_map, r.len], fun i e v h1 h2 => ?_, fun i j a n l d e h1 => (vas_no h1).elim, fun i a n d h1 => (vas_no h1).elim, fun a o e _ => e, fun a o e => ⟨o, e⟩, fun a z => ⟨id, o1.m_some z⟩, fun a z => z.elim, m _ _ hs o1.t⟩
  rw [List.getElem?_map] at h1 h2
  cases q : ds[i]? with
  | none => rw [q] at h1; cases h1
  | some d =>
    rw [q] at h1
    cases h1
    obtain ⟨x, e1, r1⟩ := r.get q
    rw [e1] at h2
    cases h2
    exact ⟨x, rfl, r1.mono hs⟩
/-- the promise is kept for shared arguments -/
theorem sp_vas {n : Nat} (o1 : Ok K F T H1 σ ρ) (m : Mono T) (r : RpL K (wo H1 (Ms F σ ρ)) ds vs) (hn : vs.length = n) (p : PostE K F E T σ Q (retU ρ (G (ds.map .va)))) : spD K n G vs H1 Q E := by
  refine ⟨hn, _, _, T, rfl, rfl, m, ok_vas o1 m r, ?_⟩
  cases hg : G (ds.map .va) with
  | ok k es' =>
    rw [hg] at p
    cases k with
    | va d => exact fun v H' o2 => p v H' (back0 o1 m o2 rfl (fun _ => id) (fun _ z => z) (m.and mono_kat))
    | ow d => exact fun v H' o2 => p v H' (back0H o1 m o2 rfl (fun _ => id) (fun _ z => z) m)
    | al i => exact p.elim
  | ex x es' =>
    rw [hg] at p
    exact fun d H' o2 => p d H' (back0 o1 m o2 rfl (fun _ => id) (fun _ z => z) (m.and fun _ _ e ⟨fs, h1, h2⟩ => ⟨fs, e _ _ h1, h2.mono e⟩))
  | bad => rw [hg] at p; exact p.elim
theorem mono_ext {x : Exn} {d : Addr} : Mono (ExT K x d) := fun _ _ e ⟨fs, h1, h2⟩ => ⟨fs, e _ _ h1, h2.mono e⟩
end
section
variable {X : Cx} {F : Fr} {E : XK} {CX : CXT} {k : Nat} {f : Addr} {fd : FuncData} {ps : List Str} {dvs : List V} {dds : List D} {dfs : List Value} {x : Str} {p pos : Pos} {e : Expr} {es : List Expr} {G Ga : List Ent → R Kd} {GA : List Ent → R (List Kd)}
theorem tCall_of {K : PySem.W.Frag} {σ : L2.St} {H : Hp} {Q : VK} {n : Nat} (hd : ∀ H, RpL K H dds dvs) (h : tE K F E (callU n G dds GA) σ H Q) : tCall (spD K n G) dvs E (tA K F E GA) σ H Q := by
  obtain ⟨ρ, T, m, o, p⟩ := h
  refine bdA (pf_E Q) m o p fun vs H1 ks ρ1 o1 p1 => ?_
  cases q : vas ks with
  | none => rw [q] at p1; exact p1.elim
  | some ds =>
    rw [q] at p1
    have p1 : PostE K F E T σ Q (if (ds ++ dds).length = n then retU ρ1 (G ((ds ++ dds).map .va)) else .bad) := p1
    split at p1
    · rename_i hn
      have r := (vas_rp q o1.t.2).append (hd _)
      exact sp_vas (o1.weak fun _ z => z.1) m r (by rw [r.len]; exact hn) p1
    · exact p1.elim
/-- f(e, ..) of shared arguments -/
theorem je_call {n : Nat} (hF : FnOk X.prog X.w X.K X.mg X.base CX k f fd ps (spD X.K n G)) (hr : Room k X.A) (hg : Gl X x) (hm : X.mg x = some (.ref f)) (hk : PySem.W.keepIn X.K (.ref f) = true) (hb : Binds X.K fd ps dfs) (hv : Vals dvs dfs) (hd : ∀ H, RpL X.K H dds dvs) (hx : Passes CX X E)
    (ha : PA X (e :: es) (tA X.K F E GA)) (hdb : (x == ("__debug__" : Str)) = false := by decide) (he : starEach (e :: es) X.env = (false, eval e X.env) :: starEach es X.env := by rfl) (hpl : (backTo pos (starEach es X.env)).any (·.1) = false := by rfl) :
    PE X (.Call (.Name x p) (e :: es) [] pos) (tE X.K F E (callU n G dds GA)) :=
  peI (pe_call hF hr hg hm hk hb hv hx ha hdb he hpl) fun _ _ _ h => tCall_of hd h
/-! ### a call whose first argument is a slot's own thing -/
def retB (i : Nat) (n : Option Nat) (ρ : List Ent) : R Kd → R Kd
  | .ok (.va d) (.ow (some 0) d' :: _) => .ok (.va d) (ρ.set i (.ow n d'))
  | .ok (.ow d) (.ow (some 0) d' :: _) => .ok (.ow d) (ρ.set i (.ow n d'))
  | .ex x (.ow (some 0) d' :: _) => .ex x (ρ.set i (.ow n d'))
  | _ => .bad
def ownR (n : Nat) (G : List Ent → R Kd) (i : Nat) (ds : List D) (ρ : List Ent) : R Kd := match ρ[i]? with
  | some (.ow l d) => if (ds.length + 1) = n then retB i l ρ (G (.ow (some 0) d :: ds.map .va)) else .bad
  | _ => .bad
def callB (n : Nat) (G : List Ent → R Kd) (dds : List D) (GA : List Ent → R (List Kd)) (ρ : List Ent) : R Kd := (GA ρ).bind fun ks ρ1 => match ks with
  | .al i :: ks => match vas ks with
    | some ds => ownR n G i (ds ++ dds) ρ1
    | none => .bad
  | _ => .bad
/-- the promise is kept where the first argument is a slot's own thing -/
theorem sp_own {K : PySem.W.Frag} {T : HT} {H1 : Hp} {σ : L2.St} {ρ : List Ent} {ds : List D} {v : V} {vs : List V} {Q : VK} {n i : Nat} (o1 : Ok K F T H1 σ ρ) (m : Mono T) (hv : σ[i]? = some (some v)) (r : RpL K (wo H1 (Ms F σ ρ)) ds vs) (p : PostE K F E T σ Q (ownR n G i ds ρ)) :
    spD K n G (v :: vs) H1 Q E := by
  unfold ownR at p
  split at p
  · rename_i l d hi
    split at p
    · rename_i hn
      obtain ⟨b, hb, mu, rt⟩ := o1.own hi
      rw [hv] at hb
      cases hb
      have mb : Ms F σ ρ b := .inr ⟨i, l, d, hi, hv⟩
      obtain ⟨ob, hob, nt⟩ := o1.m_some mb
      have hM : ∀ a, Ms ⟨fun a => Ms F σ ρ a ∧ a ≠ b, fun a => a = b, H1, .ref b :: vs⟩ (some (.ref b) :: vs.map some) (.ow (some 0) d :: ds.map .va) a → Ms F σ ρ a := fun a z => by
        rcases z with z | z
        · exact z.1
        · rcases z.of_cons with ⟨z, _⟩ | ⟨j, n', d', h1, _⟩
          · cases z; exact mb
          · exact (vas_no h1).elim
      have hs : Same (wo H1 (Ms F σ ρ)) (wo H1 (Ms ⟨fun a => Ms F σ ρ a ∧ a ≠ b, fun a => a = b, H1, .ref b :: vs⟩ (some (.ref b) :: vs.map some) (.ow (some 0) d :: ds.map .va))) := wo_mono fun a o n e => ⟨fun z => n (hM a z), e⟩
      have oc : Ok K ⟨fun a => Ms F σ ρ a ∧ a ≠ b, fun a => a = b, H1, .ref b :: vs⟩ T H1 (some (.ref b) :: vs.map some) (.ow (some 0) d :: ds.map .va) := by
        refine ⟨by rw [List.length_cons, List.length_cons, List.length_map, List.length_map, r.len], fun j e u h1 h2 => ?_, fun j j2 a n1 n2 d1 d2 h1 h2 h3 h4 => ?_, fun j a n1 d1 h1 h2 => ?_, fun a o e _ => e, fun a o e => ⟨o, e⟩, fun a z => ⟨z.2, o1.m_some z.1⟩, fun a z => ⟨ob, z ▸ hob⟩, m _ _ hs o1.t⟩
        · cases j with
          | zero =>
            simp at h1 h2
            subst h1; subst h2
            exact ⟨_, rfl, mu, rt.move hs mu fun _ _ _ q => q⟩
          | succ j =>
            have h1 : (ds.map Ent.va)[j]? = some e := by simpa using h1
            have h2 : (vs.map some)[j]? = some u := by simpa using h2
            rw [List.getElem?_map] at h1 h2
            cases q : ds[j]? with
            | none => rw [q] at h1; cases h1
            | some d =>
              rw [q] at h1
              cases h1
              obtain ⟨x, e1, r1⟩ := r.get q
              rw [e1] at h2
              cases h2
              exact ⟨x, rfl, r1.mono hs⟩
        · cases j with
          | zero => cases j2 with
            | zero => rfl
            | succ j2 => exact (vas_no (show (ds.map Ent.va)[j2]? = some (.ow n2 d2) by simpa using h2)).elim
          | succ j => exact (vas_no (show (ds.map Ent.va)[j]? = some (.ow n1 d1) by simpa using h1)).elim
        · cases j with
          | zero =>
            have h1 : Ent.ow (some 0) d = .ow n1 d1 := by simpa using h1
            have h2 : b = a := by simpa using h2
            cases h1
            subst h2
            exact ⟨fun z => z.2 rfl, .inl rfl, (fun z => nomatch z), fun k z => by cases z; rfl⟩
          | succ j => exact (vas_no (show (ds.map Ent.va)[j]? = some (.ow n1 d1) by simpa using h1)).elim
      refine ⟨by rw [List.length_cons, r.len]; exact hn, _, _, T, rfl, rfl, m, oc, ?_⟩
      -- behind it
      have after : ∀ {T2 : HT} {H' : Hp} {d' : D} {es2 : List Ent}, Mono T2 → Ok K ⟨fun a => Ms F σ ρ a ∧ a ≠ b, fun a => a = b, H1, .ref b :: vs⟩ T2 H' ((V.ref b :: vs).map some) (.ow (some 0) d' :: es2) → Ok K F T2 H' σ (ρ.set i (.ow l d')) := fun {T2 H' d' es2} m2 o2 => by
        obtain ⟨b', e1, mu', r'⟩ := o2.own (i := 0) (n := some 0) (d := d') rfl
        cases e1
        have kk : ∀ a o, a ≠ b → H1 a = some o → H' a = some o := fun a o nb e => o2.kp a o e nb
        obtain ⟨ob', hob', _⟩ := o2.own_some (a := b) ⟨0, some 0, d', rfl, rfl⟩
        have mle : ∀ a, Ms F σ ρ a → Ms ⟨fun a => Ms F σ ρ a ∧ a ≠ b, fun a => a = b, H1, .ref b :: vs⟩ ((V.ref b :: vs).map some) (.ow (some 0) d' :: es2) a := fun a z => by
          by_cases hab : a = b
          · subst hab; exact .inr ⟨0, some 0, d', rfl, rfl⟩
          · exact .inl ⟨z, hab⟩
        obtain ⟨o3, hM3⟩ := o1.setOw (H' := H') (d' := d') m hi hv kk ⟨ob', hob'⟩ mu' fun _ => r'.move (wo_mono fun a o q e => ⟨fun z => q (mle a (by
          rcases z with z | ⟨j, l', e', z1, z2⟩
          · exact .inl z
          · by_cases hj : i = j
            · subst hj
              exact .inr ⟨i, l, d, hi, z2⟩
            · exact .inr ⟨j, l', e', by rw [List.getElem?_set_ne hj] at z1; exact z1, z2⟩)), e⟩) mu' fun _ _ _ q => q
        exact o3.to (m2 _ _ (wo_mono fun a o q e => ⟨fun z => q (mle a ((hM3 a).mp z)), e⟩) o2.t)
      have afterH : ∀ {T2 : HT} {H' : Hp} {w : V} {d1 d' : D} {es2 : List Ent}, Mono T2 → Ok K ⟨fun a => Ms F σ ρ a ∧ a ≠ b, fun a => a = b, H1, .ref b :: vs⟩ T2 H' (some w :: (V.ref b :: vs).map some) (.ow none d1 :: .ow (some 0) d' :: es2) → Ok K F T2 H' (some w :: σ) (.ow none d1 :: ρ.set i (.ow l d')) := fun {T2 H' w d1 d' es2} m2 o2 => by
        obtain ⟨q, e0, mq, rq⟩ := o2.own (i := 0) (n := none) (d := d1) rfl
        cases e0
        have hq : H1 q = none := (o2.w 0 q none d1 rfl rfl).2.2.1 rfl
        have qb : q ≠ b := fun z => by rw [z, hob] at hq; cases hq
        obtain ⟨b', e1, mu', r'⟩ := o2.own (i := 1) (n := some 0) (d := d') rfl
        cases e1
        have kk : ∀ a o, a ≠ b → H1 a = some o → H' a = some o := fun a o nb e => o2.kp a o e nb
        obtain ⟨ob', hob', _⟩ := o2.own_some (a := b) ⟨1, some 0, d', rfl, rfl⟩
        have mle : ∀ a, Ms F σ ρ a → Ms ⟨fun a => Ms F σ ρ a ∧ a ≠ b, fun a => a = b, H1, .ref b :: vs⟩ (some (V.ref q) :: (V.ref b :: vs).map some) (.ow none d1 :: .ow (some 0) d' :: es2) a := fun a z => by
          by_cases hab : a = b
          · subst hab; exact .inr ⟨1, some 0, d', rfl, rfl⟩
          · exact .inl ⟨z, hab⟩
        have back : ∀ a, Ms F σ (ρ.set i (.ow l d')) a → Ms F σ ρ a := fun a z => by
          rcases z with z | ⟨j, l', e', z1, z2⟩
          · exact .inl z
          · by_cases hj : i = j
            · subst hj
              exact .inr ⟨i, l, d, hi, z2⟩
            · exact .inr ⟨j, l', e', by rw [List.getElem?_set_ne hj] at z1; exact z1, z2⟩
        obtain ⟨o3, hM3⟩ := o1.setOw (H' := H') (d' := d') m hi hv kk ⟨ob', hob'⟩ mu' fun _ => r'.move (wo_mono fun a o q e => ⟨fun z => q (mle a (back a z)), e⟩) mu' fun _ _ _ q => q
        -- the head joins
        have hs3 : Same (wo H' (Ms F σ (ρ.set i (.ow l d')))) (wo H' (Ms F σ (ρ.set i (.ow l d')))) := fun _ _ e => e
        have nq : ∀ (j : Nat) (n : Option Nat) (d2 : D), (ρ.set i (.ow l d'))[j]? = some (Ent.ow n d2) → ¬ σ[j]? = some (some (V.ref q)) := fun j n d2 h1 h2 => o1.m_new hq (back q (.inr ⟨j, n, d2, h1, h2⟩))
        have hsh : Same (wo H' (Ms ⟨fun a => Ms F σ ρ a ∧ a ≠ b, fun a => a = b, H1, .ref b :: vs⟩ (some (V.ref q) :: (V.ref b :: vs).map some) (.ow none d1 :: .ow (some 0) d' :: es2))) (wo H' (Ms F (some (V.ref q) :: σ) (.ow none d1 :: ρ.set i (.ow l d')))) := wo_mono fun a o n e => ⟨fun z => by
          rcases z with z | z
          · exact n (mle a (.inl z))
          · rcases z.of_cons with ⟨z, _⟩ | z
            · cases z; exact n (.inr ⟨0, none, d1, rfl, rfl⟩)
            · exact n (mle a (back a (.inr z))), e⟩
        have hs1 : Same (wo H1 (Ms F σ ρ)) (wo H' (Ms F (some (V.ref q) :: σ) (.ow none d1 :: ρ.set i (.ow l d')))) := wo_mono fun a o n e => ⟨fun z => by
          rcases z with z | z
          · exact n (.inl z)
          · rcases z.of_cons with ⟨z, _⟩ | z
            · cases z; rw [hq] at e; cases e
            · exact n (back a (.inr z)), kk a o (fun z => n (z ▸ mb)) e⟩
        have hl : i < ρ.length := (List.getElem?_eq_some_iff.mp hi).1
        have c := o1.change (vs' := some (V.ref q) :: σ) (es' := .ow none d1 :: ρ.set i (.ow l d')) m hs1 (fun a o h0 nw e => o3.kp a o h0 nw) (fun a o e => by
            by_cases hab : a = b
            · subst hab; exact ⟨ob', hob'⟩
            · exact ⟨o, kk a o hab e⟩) (by simp [o1.len]) (fun j e u h1 h2 => ?_) (fun j j2 a n1 n2 e1 e2 h1 h2 h3 h4 => ?_) fun j a n1 e1 h1 h2 => ?_
        · exact c.to (m2 _ _ hsh o2.t)
        · cases j with
          | zero =>
            simp at h1 h2
            subst h1; subst h2
            exact ⟨_, rfl, mq, rq.move hsh mq fun _ _ _ q => q⟩
          | succ j =>
            have h1 : (ρ.set i (.ow l d'))[j]? = some e := by simpa using h1
            have h2 : σ[j]? = some u := by simpa using h2
            by_cases hj : i = j
            · subst hj
              rw [List.getElem?_set_self hl] at h1
              cases h1
              rw [hv] at h2
              cases h2
              exact ⟨_, rfl, mu', r'.move hsh mu' fun _ _ _ q => q⟩
            · rw [List.getElem?_set_ne hj] at h1
              refine (o1.cells j e u h1 h2).move hs1 fun n2 e2 a u2 ee ev q => kk a u2 (fun z => ?_) q
              subst z; subst ee; subst ev
              exact hj (o1.inj i j a l n2 d e2 hi h1 hv h2)
        · cases j with
          | zero =>
            cases j2 with
            | zero => rfl
            | succ j2 =>
              simp at h1 h3
              subst h3
              exact (nq j2 n2 e2 (by simpa using h2) (by simpa using h4)).elim
          | succ j =>
            cases j2 with
            | zero =>
              simp at h2 h4
              subst h4
              exact (nq j n1 e1 (by simpa using h1) (by simpa using h3)).elim
            | succ j2 => rw [o3.inj j j2 a n1 n2 e1 e2 (by simpa using h1) (by simpa using h2) (by simpa using h3) (by simpa using h4)]
        · cases j with
          | zero =>
            have h1 : Ent.ow none d1 = .ow n1 e1 := by simpa using h1
            have h2 : q = a := by simpa using h2
            cases h1
            subst h2
            exact ⟨fun z => o1.m_new hq (.inl z), .inr (o1.new_h0 hq), fun _ => o1.new_h0 hq, fun k z => nomatch z⟩
          | succ j => exact o3.w j a n1 e1 (by simpa using h1) (by simpa using h2)
      cases hg : G (.ow (some 0) d :: ds.map .va) with
      | bad => rw [hg] at p; exact p.elim
      | ex x es' =>
        rw [hg] at p
        match es', p with
        | .ow (some 0) d' :: es2, p => exact fun dd H' o2 => p dd H' (after (m.and mono_ext) o2)
        | [], p => exact p.elim
        | .no :: _, p => exact p.elim
        | .va _ :: _, p => exact p.elim
        | .ow none _ :: _, p => exact p.elim
        | .ow (some (_ + 1)) _ :: _, p => exact p.elim
      | ok k es' =>
        rw [hg] at p
        cases k with
        | al j => exact (show False by cases es' <;> exact p).elim
        | va d0 =>
          match es', p with
          | .ow (some 0) d' :: es2, p => exact fun u H' o2 => p u H' (after (m.and mono_kat) o2)
          | [], p => exact p.elim
          | .no :: _, p => exact p.elim
          | .va _ :: _, p => exact p.elim
          | .ow none _ :: _, p => exact p.elim
          | .ow (some (_ + 1)) _ :: _, p => exact p.elim
        | ow d0 =>
          match es', p with
          | .ow (some 0) d' :: es2, p => exact fun u H' o2 => p u H' (afterH m o2)
          | [], p => exact p.elim
          | .no :: _, p => exact p.elim
          | .va _ :: _, p => exact p.elim
          | .ow none _ :: _, p => exact p.elim
          | .ow (some (_ + 1)) _ :: _, p => exact p.elim
    · exact p.elim
  · exact p.elim
theorem tCallB_of {K : PySem.W.Frag} {σ : L2.St} {H : Hp} {Q : VK} {n : Nat} (hd : ∀ H, RpL K H dds dvs) (h : tE K F E (callB n G dds GA) σ H Q) : tCall (spD K n G) dvs E (tA K F E GA) σ H Q := by
  obtain ⟨ρ, T, m, o, p⟩ := h
  refine bdA (pf_E Q) m o p fun vs H1 ks ρ1 o1 p1 => ?_
  split at p1
  · rename_i i ks'
    obtain ⟨y, ys, e1, h2, h3⟩ := o1.t.2
    cases q : vas ks' with
    | none => rw [q] at p1; exact p1.elim
    | some ds =>
      rw [q] at p1
      subst e1
      have r := (vas_rp q h3).append (hd _)
      exact sp_own (o1.weak fun _ z => z.1) m h2 r p1
  · exact p1.elim
theorem je_callB1 {n : Nat} (hF : FnOk X.prog X.w X.K X.mg X.base CX k f fd ps (spD X.K n G)) (hr : Room k X.A) (hg : Gl X x) (hm : X.mg x = some (.ref f)) (hk : PySem.W.keepIn X.K (.ref f) = true) (hb : Binds X.K fd ps dfs) (hv : Vals dvs dfs) (hd : ∀ H, RpL X.K H dds dvs) (hx : Passes CX X E)
    (ha : PA X (e :: es) (tA X.K F E GA)) (hdb : (x == ("__debug__" : Str)) = false := by decide) (he : starEach (e :: es) X.env = (false, eval e X.env) :: starEach es X.env := by rfl) (hpl : (backTo pos (starEach es X.env)).any (·.1) = false := by rfl) :
    PE X (.Call (.Name x p) (e :: es) [] pos) (tE X.K F E (callB n G dds GA)) :=
  peI (pe_call hF hr hg hm hk hb hv hx ha hdb he hpl) fun _ _ _ h => tCallB_of hd h
end
end DL

namespace DL
open PySem PySem.Spec PyProof.Rows L2

section
variable {K : PySem.W.Frag} {F F' : Fr} {E : XK} {T T2 U : HT} {H H' : Hp} {σ vs vs' : List (Option V)} {ρ es es' : List Ent}
/-- fewer slots, slots at other places -/
theorem Ok.sub (h : Ok K F T H vs es) (m : Mono T) (len : vs'.length = es'.length) (φ : Nat → Nat) (hφ : ∀ (j : Nat) (e : Ent) (v : Option V), es'[j]? = some e → e ≠ .no → vs'[j]? = some v → es[φ j]? = some e ∧ vs[φ j]? = some v) (inj : ∀ i j, φ i = φ j → i = j) : Ok K F T H vs' es' := by
  have ne : ∀ {n : Option Nat} {d : D}, Ent.ow n d ≠ .no := fun z => by cases z
  have hs : Same (wo H (Ms F vs es)) (wo H (Ms F vs' es')) := wo_mono fun a o q e => ⟨fun z => q (z.elim .inl fun ⟨j, n, d, h1, h2⟩ => by
    obtain ⟨k1, k2⟩ := hφ j _ _ h1 ne h2
    exact .inr ⟨φ j, n, d, k1, k2⟩), e⟩
  refine h.change m hs (fun _ _ _ _ e => e) (fun a o e => ⟨o, e⟩) len (fun j e v h1 h2 => ?_) (fun i j a n l d e h1 h2 h3 h4 => ?_) fun i a n d h1 h2 => ?_
  · cases e with
    | no => exact True.intro
    | va d =>
      obtain ⟨k1, k2⟩ := hφ j _ _ h1 (fun z => by cases z) h2
      exact (h.cells _ _ _ k1 k2).move hs fun _ _ _ _ _ _ q => q
    | ow n d =>
      obtain ⟨k1, k2⟩ := hφ j _ _ h1 ne h2
      exact (h.cells _ _ _ k1 k2).move hs fun _ _ _ _ _ _ q => q
  · obtain ⟨k1, k2⟩ := hφ i _ _ h1 ne h3
    obtain ⟨k3, k4⟩ := hφ j _ _ h2 ne h4
    exact inj _ _ (h.inj _ _ a n l d e k1 k3 k2 k4)
  · obtain ⟨k1, k2⟩ := hφ i _ _ h1 ne h2
    exact h.w _ a n d k1 k2
/-- a slot takes shared data -/
theorem Ok.setVa {i : Nat} {v : V} {d : D} (h : Ok K F (fun h => T h ∧ Rp K h d v) H σ ρ) (m : Mono T) : Ok K F T H (σ.set i (some v)) (ρ.set i (.va d)) := by
  have ne : ∀ {n : Option Nat} {e : D} {j : Nat}, (ρ.set i (.va d))[j]? = some (.ow n e) → i ≠ j ∧ ρ[j]? = some (.ow n e) := fun {n e j} q => by
    by_cases hj : i = j
    · subst hj
      by_cases hl : i < ρ.length
      · rw [List.getElem?_set_self hl] at q; cases q
      · rw [List.getElem?_eq_none (by rw [List.length_set]; omega)] at q; cases q
    · rw [List.getElem?_set_ne hj] at q
      exact ⟨hj, q⟩
  have hs : Same (wo H (Ms F σ ρ)) (wo H (Ms F (σ.set i (some v)) (ρ.set i (.va d)))) := wo_mono fun a o q e => ⟨fun z => q (z.elim .inl fun z => .inr (z.of_set (e := .va d) True.intro)), e⟩
  have c := h.change (vs' := σ.set i (some v)) (es' := ρ.set i (.va d)) (m.and mono_rp) hs (fun _ _ _ _ e => e) (fun a o e => ⟨o, e⟩) (by rw [List.length_set, List.length_set]; exact h.len) (fun j e u h1 h2 => ?_) (fun j l a n k d1 d2 h1 h2 h3 h4 => ?_) fun j a n d1 h1 h2 => ?_
  · exact c.weak fun _ z => z.1
  · by_cases hj : i = j
    · subst hj
      have hl : i < ρ.length := by have := (List.getElem?_eq_some_iff.mp h1).1; rw [List.length_set] at this; exact this
      rw [List.getElem?_set_self hl] at h1
      rw [List.getElem?_set_self (by rw [h.len]; exact hl)] at h2
      cases h1; cases h2
      exact ⟨v, rfl, h.t.2.mono hs⟩
    · rw [List.getElem?_set_ne hj] at h1 h2
      exact (h.cells j e u h1 h2).move hs fun _ _ _ _ _ _ q => q
  · obtain ⟨n1, q1⟩ := ne h1
    obtain ⟨n2, q2⟩ := ne h2
    rw [List.getElem?_set_ne n1] at h3
    rw [List.getElem?_set_ne n2] at h4
    exact h.inj j l a n k d1 d2 q1 q2 h3 h4
  · obtain ⟨n1, q1⟩ := ne h1
    rw [List.getElem?_set_ne n1] at h2
    exact h.w j a n d1 q1 h2
/-- a slot takes the head's own thing -/
theorem Ok.setHd {i : Nat} {v : V} {n : Option Nat} {d : D} (h : Ok K F T H (some v :: σ) (.ow n d :: ρ)) (m : Mono T) : Ok K F T H (σ.set i (some v)) (ρ.set i (.ow n d)) := by
  have hlen : σ.length = ρ.length := by simpa using h.len
  refine h.sub m (by rw [List.length_set, List.length_set]; exact hlen) (fun j => if j = i then 0 else j + 1) (fun j e u h1 _ h2 => ?_) (fun a b q => ?_)
  · by_cases hj : i = j
    · subst hj
      have hl : i < ρ.length := by have := (List.getElem?_eq_some_iff.mp h1).1; rw [List.length_set] at this; exact this
      rw [List.getElem?_set_self hl] at h1
      rw [List.getElem?_set_self (by rw [hlen]; exact hl)] at h2
      cases h1; cases h2
      rw [if_pos rfl]
      exact ⟨rfl, rfl⟩
    · rw [List.getElem?_set_ne hj] at h1 h2
      rw [if_neg (fun z => hj z.symm)]
      exact ⟨by simpa using h1, by simpa using h2⟩
  · by_cases ha : a = i
    · by_cases hb : b = i
      · rw [ha, hb]
      · simp only [ha, if_true, if_neg hb] at q
        omega
    · by_cases hb : b = i
      · simp only [hb, if_true, if_neg ha] at q
        omega
      · simp only [if_neg ha, if_neg hb] at q
        omega
/-- the head is dropped -/
theorem Ok.tail {v : Option V} {e : Ent} (h : Ok K F T H (v :: σ) (e :: ρ)) (m : Mono T) : Ok K F T H σ ρ :=
  h.sub m (by simpa using h.len) (· + 1) (fun j e u h1 _ h2 => ⟨by simpa using h1, by simpa using h2⟩) fun a b q => by omega
end

/-! ### blocks and statements -/
def seqR (A B : List Ent → R Fl) (ρ : List Ent) : R Fl := (A ρ).bind fun fl ρ1 => match fl with
  | .nx => B ρ1
  | fl => .ok fl ρ1
def setR (i : Nat) (G : List Ent → R Kd) (ρ : List Ent) : R Fl := (toVa (G ρ)).bind fun k ρ1 => match k with
  | .va d => .ok .nx (ρ1.set i (.va d))
  | _ => .bad
def setO (i : Nat) (G : List Ent → R Kd) (ρ : List Ent) : R Fl := (G ρ).bind fun k ρ1 => match k with
  | .ow d => .ok .nx (ρ1.set i (.ow none d))
  | _ => .bad
def retR (G : List Ent → R Kd) (ρ : List Ent) : R Fl := (G ρ).bind fun k ρ1 => match k with
  | .ow d => .ok (.rt (.ow d)) ρ1
  | .va d => .ok (.rt (.va d)) ρ1
  | .al _ => .bad
def dropR (G : List Ent → R Kd) (ρ : List Ent) : R Fl := (G ρ).bind fun _ ρ1 => .ok .nx ρ1
def ifS (A : List Ent → R Bool) (B C : List Ent → R Fl) (ρ : List Ent) : R Fl := (A ρ).bind fun b ρ1 => if b then B ρ1 else C ρ1
section
variable {X : Cx} {F : Fr} {E : XK} {e c : Expr} {st : Stmt} {rest s1 s2 : List Stmt} {pos pos' : Pos} {G : List Ent → R Kd} {A : List Ent → R Bool} {B C : List Ent → R Fl}
theorem PostS.nxD {K : PySem.W.Frag} {T : HT} {σ : L2.St} {D D' : Ends} {r : R Fl} (h : ∀ ρ, r ≠ .ok .nx ρ) (p : PostS K F E T σ D r) (h1 : D'.rt = D.rt) (h2 : D'.bk = D.bk) (h3 : D'.ct = D.ct) : PostS K F E T σ D' r := by
  obtain ⟨a1, a2, a3, a4⟩ := D
  obtain ⟨b1, b2, b3, b4⟩ := D'
  simp only at h1 h2 h3
  subst h1; subst h2; subst h3
  cases r with
  | ok fl ρ =>
    cases fl with
    | nx => exact absurd rfl (h ρ)
    | bk => exact p
    | ct => exact p
    | rt k => cases k <;> exact p
  | ex x ρ => exact p
  | bad => exact p
theorem js_nil : PSs X [] (tS X.K F E fun ρ => .ok .nx ρ) := pssI pss_nil fun D σ H ⟨ρ, T, m, o, p⟩ => p σ H o
theorem js_one (h : PS X st (tS X.K F E B)) : PSs X [st] (tS X.K F E B) := pss_one h
theorem js_cons (h : PS X st (tS X.K F E B)) (hr : PSs X rest (tS X.K F E C)) : PSs X (st :: rest) (tS X.K F E (seqR B C)) :=
  pssI (pss_cons h hr) fun D σ H ⟨ρ, T, m, o, p⟩ => by
    refine ⟨ρ, T, m, o, ?_⟩
    have p : PostS X.K F E T σ D ((B ρ).bind fun fl ρ1 => match fl with
      | .nx => C ρ1
      | fl => .ok fl ρ1) := p
    cases q : B ρ with
    | ok fl ρ1 =>
      rw [q] at p
      cases fl with
      | nx =>
        refine fun σ' H' o' => ⟨ρ1, T, m, o', ?_⟩
        have p : PostS X.K F E T σ D (C ρ1) := p
        cases q2 : C ρ1 with
        | ok fl2 ρ2 =>
          rw [q2] at p
          cases fl2 with
          | nx => exact p
          | bk => exact p
          | ct => exact p
          | rt k => cases k <;> exact p
        | ex x ρ2 => rw [q2] at p; exact p
        | bad => rw [q2] at p; exact p.elim
      | bk => exact p
      | ct => exact p
      | rt k => cases k <;> exact p
    | ex x ρ1 => rw [q] at p; exact p
    | bad => rw [q] at p; exact p.elim
theorem js_pass : PS X (.Pass pos) (tS X.K F E fun ρ => .ok .nx ρ) := psI ps_pass fun D σ H ⟨ρ, T, m, o, p⟩ => p σ H o
theorem js_break : PS X (.Break pos) (tS X.K F E fun ρ => .ok .bk ρ) := psI ps_break fun D σ H ⟨ρ, T, m, o, p⟩ => p σ H o
theorem js_continue : PS X (.Continue pos) (tS X.K F E fun ρ => .ok .ct ρ) := psI ps_continue fun D σ H ⟨ρ, T, m, o, p⟩ => p σ H o
theorem js_doc {x j} : PS X (.Expr (.Constant (.str x) j pos) pos') (tS X.K F E fun ρ => .ok .nx ρ) := psI ps_doc fun D σ H ⟨ρ, T, m, o, p⟩ => p σ H o
theorem js_if (hc : PT X c (tT X.K F E A)) (h1 : PSs X s1 (tS X.K F E B)) (h2 : PSs X s2 (tS X.K F E C)) : PS X (.If c s1 s2 pos) (tS X.K F E (ifS A B C)) :=
  psI (ps_if hc h1 h2) fun D σ H ⟨ρ, T, m, o, p⟩ => bdB (pf_S D) m o p fun b H1 ρ1 o1 p1 => by
    cases b with
    | true => exact ⟨ρ1, T, m, o1, p1⟩
    | false => exact ⟨ρ1, T, m, o1, p1⟩
theorem js_set (i : Nat) {x : Str} (hN : X.N.Nodup) (he : PE X e (tE X.K F E G)) (hi : X.N[i]? = some x := by rfl) (hx : Loc X.env.scope x := by first | exact Or.inl rfl | exact Or.inr rfl) (hs : swapsWith e (some (.Name x pos')) pos.line X.env = pure false := by rfl)
    (hf : X.fn x = true ∨ X.env.scope.names.lookup x = some .local := by first | exact .inl rfl | exact .inr rfl | assumption) : PS X (.Assign [.Name x pos'] e pos) (tS X.K F E (setR i G)) :=
  psI (ps_set hN hi hx (je_toVa he) hs hf) fun D σ H ⟨ρ, T, m, o, p⟩ => bdV (pf_S D) m o p fun x H1 d ρ1 o1 p1 => p1 _ H1 (o1.setVa m)
theorem js_setO (i : Nat) {x : Str} (hN : X.N.Nodup) (he : PE X e (tE X.K F E G)) (hi : X.N[i]? = some x := by rfl) (hx : Loc X.env.scope x := by first | exact Or.inl rfl | exact Or.inr rfl) (hs : swapsWith e (some (.Name x pos')) pos.line X.env = pure false := by rfl)
    (hf : X.fn x = true ∨ X.env.scope.names.lookup x = some .local := by first | exact .inl rfl | exact .inr rfl | assumption) : PS X (.Assign [.Name x pos'] e pos) (tS X.K F E (setO i G)) :=
  psI (ps_set hN hi hx he hs hf) fun D σ H ⟨ρ, T, m, o, p⟩ => by
    refine ⟨ρ, T, m, o, ?_⟩
    have p : PostS X.K F E T σ D ((G ρ).bind fun k ρ1 => match k with
      | .ow d => .ok .nx (ρ1.set i (.ow none d))
      | _ => .bad) := p
    cases q : G ρ with
    | ok k ρ1 =>
      rw [q] at p
      cases k with
      | ow d => exact fun v H' o' => p _ H' (o'.setHd m)
      | va d => exact p.elim
      | al j => exact p.elim
    | ex x ρ1 => rw [q] at p; exact fun d H' o' => p d σ H' o'
    | bad => rw [q] at p; exact p.elim
theorem js_ret (he : PE X e (tE X.K F E G)) : PS X (.Return (some e) pos) (tS X.K F E (retR G)) :=
  psI (ps_ret he) fun D σ H ⟨ρ, T, m, o, p⟩ => by
    refine ⟨ρ, T, m, o, ?_⟩
    have p : PostS X.K F E T σ D ((G ρ).bind fun k ρ1 => match k with
      | .ow d => .ok (.rt (.ow d)) ρ1
      | .va d => .ok (.rt (.va d)) ρ1
      | .al _ => .bad) := p
    cases q : G ρ with
    | ok k ρ1 =>
      rw [q] at p
      cases k with
      | ow d => exact fun v H' o' => p v σ H' o'
      | va d => exact fun v H' o' => p v σ H' o'
      | al j => exact p.elim
    | ex x ρ1 => rw [q] at p; exact fun d H' o' => p d σ H' o'
    | bad => rw [q] at p; exact p.elim
theorem js_retN : PS X (.Return none pos) (tS X.K F E fun ρ => .ok (.rt (.va .non)) ρ) := psI ps_retN fun D σ H ⟨ρ, T, m, o, p⟩ => p .non σ H (o.to ⟨o.t, rfl⟩)
theorem js_expr (he : PE X e (tE X.K F E G)) (hs : swapsWith e none pos.line X.env = pure false := by rfl) : PS X (.Expr e pos) (tS X.K F E (dropR G)) :=
  psI (ps_expr he hs) fun D σ H ⟨ρ, T, m, o, p⟩ => by
    refine ⟨ρ, T, m, o, ?_⟩
    have p : PostS X.K F E T σ D ((G ρ).bind fun _ ρ1 => .ok .nx ρ1) := p
    cases q : G ρ with
    | ok k ρ1 =>
      rw [q] at p
      cases k with
      | ow d => exact fun v H' o' => p _ H' (o'.tail m)
      | va d => exact fun v H' o' => p _ H' (o'.weak fun _ z => z.1)
      | al j => exact fun v H' o' => p _ H' (o'.weak fun _ z => z.1)
    | ex x ρ1 => rw [q] at p; exact fun d H' o' => p d σ H' o'
    | bad => rw [q] at p; exact p.elim
/-! changing a slot's own list -/
def lstAt (i : Nat) (ρ : List Ent) : Bool := match ρ[i]? with
  | some (.ow _ (.lst _)) => true
  | _ => false
def appR (Gx G : List Ent → R Kd) (ρ : List Ent) : R Kd := (Gx ρ).bind fun k ρ0 => match k with
  | .al i => if lstAt i ρ0 then (toVa (G ρ0)).bind fun k ρ1 => match k with
    | .va d => match ρ1[i]? with
      | some (.ow n (.lst ds)) => if ds.length < big then .ok (.va .non) (ρ1.set i (.ow n (.lst (ds ++ [d])))) else .bad
      | _ => .bad
    | _ => .bad
    else .bad
  | _ => .bad
theorem je_append {o : Expr} {apos : Pos} {Gx : List Ent → R Kd} (ho : PE X o (tE X.K F E Gx)) (he : PE X e (tE X.K F E G))
    (hbase : attributeBase o "append" X.env (eval o X.env) = eval o X.env := by rfl)
    (hfew : ((backTo pos (starEach [e] X.env)).all (fun x => !x.1) && (backToKw pos (keywordEach [] X.env)).all (fun x => x.1.isSome)
      && decide ([e].length + ([] : List Keyword).length + (if ([] : List Keyword).isEmpty then 0 else 1) < 30)) = true := by rfl)
    (hline : (apos.endLine == pos.line) = true := by rfl) (hs : starEach [e] X.env = (false, eval e X.env) :: starEach [] X.env := by rfl) (hplain : (backTo pos (starEach [] X.env)).any (·.1) = false := by rfl) :
    PE X (.Call (.Attribute o "append" apos) [e] [] pos) (tE X.K F E (appR Gx G)) :=
  peI (pe_bm PySem.F.plainAttrs_list PySem.F.slot_list_append PySem.F.type_list_append mt_append ho (pa_cons (je_toVa he) pa_nil hs) hbase hfew hline hs hplain) fun σ H Q ⟨ρ, T, m, o, p⟩ => by
    refine ⟨ρ, T, m, o, ?_⟩
    unfold appR at p
    cases q : Gx ρ with
    | bad => rw [q] at p; exact p.elim
    | ex x ρ1 => rw [q] at p; exact p
    | ok k ρ0 =>
      rw [q] at p
      cases k with
      | va d => exact p.elim
      | ow d => exact p.elim
      | al i =>
        intro v H0 o0
        have hv : σ[i]? = some (some v) := o0.t.2
        have p : PostE X.K F E T σ Q (if lstAt i ρ0 then (toVa (G ρ0)).bind fun k ρ1 => match k with
          | .va d => match ρ1[i]? with
            | some (.ow n (.lst ds)) => if ds.length < big then .ok (.va .non) (ρ1.set i (.ow n (.lst (ds ++ [d])))) else .bad
            | _ => .bad
          | _ => .bad
          else .bad) := p
        split at p
        case isFalse => exact p.elim
        rename_i hl
        -- the receiver is a list as it stands
        have ty : tyV X.K "list" v H0 := by
          unfold lstAt at hl
          split at hl
          · rename_i n ds hi
            obtain ⟨a, h1, mu, a', xs, h2, h3, h4⟩ := o0.own hi
            rw [hv] at h1
            cases h1
            cases h2
            exact .inl ⟨rfl, xs, SqL.of h3⟩
          · cases hl
        refine ⟨ty, bdV (pf_E Q) m (o0.weak fun _ z => z.1) p fun x H1 d ρ1 o1 p1 => ?_⟩
        have p1 : PostE X.K F E T σ Q (match ρ1[i]? with
          | some (.ow n (.lst ds)) => if ds.length < big then .ok (.va .non) (ρ1.set i (.ow n (.lst (ds ++ [d])))) else .bad
          | _ => .bad) := p1
        split at p1
        · rename_i n ds hi
          split at p1
          · rename_i hz
            obtain ⟨a, h1, mu, a', xs, h2, h3, h4⟩ := o1.own hi
            rw [hv] at h1
            cases h1
            cases h2
            refine ⟨a, xs, x, rfl, rfl, h3, big_lt (by rw [h4.len]; exact hz), ?_⟩
            obtain ⟨o2, _⟩ := o1.setOw (H' := upd H1 a (.lst (xs ++ [x]))) (d' := .lst (ds ++ [d])) (m.and mono_rp) hi hv (fun b o nb e => by rw [upd_ne nb]; exact e) ⟨_, upd_same⟩ True.intro fun s => ⟨a, _, rfl, upd_same, (h4.mono s).append (RpL.one (o1.t.2.mono s))⟩
            exact p1 _ _ (o2.weak fun _ z => ⟨z.1, rfl⟩)
          · exact p1.elim
        · exact p1.elim
end
end DL

namespace DL
open PySem PySem.Spec PyProof.Rows L2

/-! ### x[i] = e of a slot's own list -/
def setIx (Gx Gi G : List Ent → R Kd) (ρ : List Ent) : R Fl := (toVa (G ρ)).bind fun k ρ0 => match k with
  | .va d => (Gx ρ0).bind fun kx ρ1 => match kx with
    | .al i => (fz (Gi ρ1)).bind fun ki ρ2 => match cont ρ2 ki with
      | some (.int z) => match ρ2[i]? with
        | some (.ow n (.lst ds)) => match ixN ds.length z with
          | some j => .ok .nx (ρ2.set i (.ow n (.lst (ds.set j d))))
          | none => .bad
        | _ => .bad
      | _ => .bad
    | _ => .bad
  | _ => .bad
section
variable {X : Cx} {F : Fr} {E : XK} {e o ix : Expr} {pos p2 : Pos} {G Gx Gi : List Ent → R Kd}
theorem js_setIx (he : PE X e (tE X.K F E G)) (ho : PE X o (tE X.K F E Gx)) (hi : PE X ix (tE X.K F E Gi)) (hs : swapsWithSole [.Subscript o ix p2] e pos.line X.env = pure false := by rfl) (hw : swappedStores [.Subscript o ix p2] e X.env = pure none := by rfl)
    (h1 : (assignEach [.Subscript o ix p2] X.env).map (·.2) = [assign (.Subscript o ix p2) X.env] := by rfl)
    (ha : ∀ v, assign (.Subscript o ix p2) X.env v = (do
      let ov ← holding [v] (eval o X.env)
      let iv ← holding [v, ov] (eval ix X.env)
      standAt p2
      holding [v, ov, iv] (setItem ov iv v)
      release [v, ov, iv] []) := by intro _; rfl) : PS X (.Assign [.Subscript o ix p2] e pos) (tS X.K F E (setIx Gx Gi G)) :=
  psI (ps_asg (je_toVa he) (pg_sub ho (je_fz hi) set_list ha) hs hw h1) fun D σ H ⟨ρ, T, m, o, p⟩ => bdV (pf_S D) m o p fun x H1 d ρ0 o0 p0 => by
    have m0 : Mono fun h => T h ∧ Rp X.K h d x := m.and mono_rp
    have p0 : PostS X.K F E T σ D ((Gx ρ0).bind fun kx ρ1 => match kx with
      | .al i => (fz (Gi ρ1)).bind fun ki ρ2 => match cont ρ2 ki with
        | some (.int z) => match ρ2[i]? with
          | some (.ow n (.lst ds)) => match ixN ds.length z with
            | some j => .ok .nx (ρ2.set i (.ow n (.lst (ds.set j d))))
            | none => .bad
          | _ => .bad
        | _ => .bad
      | _ => .bad) := p0
    refine ⟨ρ0, _, m0, o0, ?_⟩
    cases q : Gx ρ0 with
    | bad => rw [q] at p0; exact p0.elim
    | ex y ρ1 => rw [q] at p0; exact fun d' H' o' => p0 d' σ H' (o'.weak fun _ z => ⟨z.1.1, z.2⟩)
    | ok k ρ1 =>
      rw [q] at p0
      cases k with
      | va d' => exact p0.elim
      | ow d' => exact p0.elim
      | al i =>
        intro v H2 o2
        have hv : σ[i]? = some (some v) := o2.t.2
        have p0 : PostS X.K F E T σ D ((fz (Gi ρ1)).bind fun ki ρ2 => match cont ρ2 ki with
          | some (.int z) => match ρ2[i]? with
            | some (.ow n (.lst ds)) => match ixN ds.length z with
              | some j => .ok .nx (ρ2.set i (.ow n (.lst (ds.set j d))))
              | none => .bad
            | _ => .bad
          | _ => .bad) := p0
        refine bdE (T := fun h => T h ∧ Rp X.K h d x) (pf_S D) m0 (o2.weak fun _ z => z.1) ((pf_S D).pw _ _ _ (fun _ z => z.1) p0) fun w H3 ki ρ2 o3 p3 => ?_
        split at p3
        · rename_i z c
          split at p3
          · rename_i n ds hi
            split at p3
            · rename_i j hj
              have rz := kat_top (T := fun h => T h ∧ Rp X.K h d x) o3 c
              obtain ⟨a, h1, mu, a', xs, h2, h3, h4⟩ := o3.own hi
              rw [hv] at h1
              cases h1
              cases h2
              refine ⟨a, xs, z, j, rfl, rz, h3, by rw [h4.len]; exact hj, ?_⟩
              obtain ⟨o4, _⟩ := o3.setOw (H' := upd H3 a (.lst (xs.set j x))) (d' := .lst (ds.set j d)) (m0.and mono_kat) hi hv (fun b o nb e => by rw [upd_ne nb]; exact e) ⟨_, upd_same⟩ True.intro fun s => ⟨a, _, rfl, upd_same, RpL.set j (h4.mono s) (o3.t.1.2.mono s)⟩
              exact p3 _ _ (o4.weak fun _ z => z.1)
            · exact p3.elim
          · exact p3.elim
        · exact p3.elim
end

/-! ### what is walked -/
structure WalkD (K : PySem.W.Frag) (J : It) (ds : List D) (TG : HT) : Prop where
  stop : ∀ (H : Hp) (M : Addr → Prop), TG (wo H M) → J.stop ds.length H
  go : ∀ (i : Nat) (d : D) (H : Hp) (M : Addr → Prop), ds[i]? = some d → TG (wo H M) → J.go i H
  yld : ∀ (i : Nat) (d : D) (x : V) (H H' : Hp) (F : Fr) (vs : List (Option V)) (es : List Ent) (T : HT), ds[i]? = some d → Mono T → Ok K F (fun h => T h ∧ TG h) H vs es → J.yld i H x H' → Ok K F (fun h => (T h ∧ TG h) ∧ Rp K h d x) H' vs es
def PostI (K : PySem.W.Frag) (F : Fr) (E : XK) (T : HT) (σ : L2.St) (Rr : It → Hp → Prop) : R (List D) → Prop
  | .ok ds ρ => ∀ (J : It) (H' : Hp) (TG : HT), Mono TG → WalkD K J ds TG → Ok K F (fun h => T h ∧ TG h) H' σ ρ → Rr J H'
  | .ex x ρ => PostX K F E T σ x ρ
  | .bad => False
def tI (K : PySem.W.Frag) (F : Fr) (E : XK) (G : List Ent → R (List D)) : TI := fun σ H Rr => ∃ ρ T, Mono T ∧ Ok K F T H σ ρ ∧ PostI K F E T σ Rr (G ρ)
theorem piI {X : Cx} {tg e : Expr} {t t' : TI} (h : PI X tg e t) (w : ∀ σ H Q, t' σ H Q → t σ H Q) : PI X tg e t' := ⟨fun pins s σ H Q I q => h.run pins s σ H Q I (w σ H Q q)⟩
section
variable {K : PySem.W.Frag}
theorem walkD_list {a : Addr} {xs : List V} {ds : List D} : WalkD K (Itl K a) ds (fun h => h a = some (.lst xs) ∧ RpL K h ds xs) where
  stop := fun H M z => ⟨xs, SqL.of ((wo_some z.1).2), by rw [z.2.len]; exact Nat.le_refl _⟩
  go := fun i d H M q z => by
    obtain ⟨x, e, _⟩ := z.2.get q
    exact ⟨xs, x, SqL.of ((wo_some z.1).2), e⟩
  yld := fun i d x H H' F vs es T q m o y => by
    obtain ⟨e1, e2⟩ := y
    subst e1
    have h1 := e2 xs (SqL.of ((wo_some o.t.2.1).2))
    obtain ⟨x', e3, r⟩ := o.t.2.2.get q
    rw [h1] at e3
    cases e3
    exact o.to ⟨o.t, r⟩
theorem walkD_tup {a : Addr} {xs : List V} {ds : List D} : WalkD K (Itt K a) ds (fun h => SqT K h a xs ∧ RpL K h ds xs) where
  stop := fun H M z => ⟨xs, SqT.mono wo_le z.1, by rw [z.2.len]; exact Nat.le_refl _⟩
  go := fun i d H M q z => by
    obtain ⟨x, e, _⟩ := z.2.get q
    exact ⟨xs, x, SqT.mono wo_le z.1, e⟩
  yld := fun i d x H H' F vs es T q m o y => by
    obtain ⟨e1, e2⟩ := y
    subst e1
    have h1 := e2 xs (SqT.mono wo_le o.t.2.1)
    obtain ⟨x', e3, r⟩ := o.t.2.2.get q
    rw [h1] at e3
    cases e3
    exact o.to ⟨o.t, r⟩
def rangeD (lo : Int) (n : Nat) : List D := (List.range n).map fun i => .int (lo + (i : Nat))
theorem walkD_range {lo : Int} {n : Nat} : WalkD K (Itr lo n) (rangeD lo n) (fun _ => True) where
  stop := fun H M z => by show n ≤ (rangeD lo n).length; unfold rangeD; simp
  go := fun i d H M q z => by
    have := (List.getElem?_eq_some_iff.mp q).1
    unfold rangeD at this
    show i < n
    simpa using this
  yld := fun i d x H H' F vs es T q m o y => by
    obtain ⟨e1, e2⟩ := y
    subst e1
    refine o.to ⟨o.t, ?_⟩
    unfold rangeD at q
    rw [List.getElem?_map] at q
    cases h : (List.range n)[i]? with
    | none => rw [h] at q; cases q
    | some j =>
      rw [h] at q
      cases q
      have := List.getElem?_eq_some_iff.mp h
      simp at this
      rw [e2, ← this.2]
      rfl
/-- a pair is made anew -/
theorem Ok.newPair {F : Fr} {T : HT} {H : Hp} {vs : List (Option V)} {es : List Ent} {p : Addr} {x y : V} {d e : D} (o : Ok K F T H vs es) (m : Mono T) (hp : H p = none) (r1 : Rp K (wo H (Ms F vs es)) d x) (r2 : Rp K (wo H (Ms F vs es)) e y) :
    Ok K F (fun h => T h ∧ Rp K h (.prs [d, e]) (.ref p)) (upd H p (.tup [x, y])) vs es := by
  obtain ⟨o', s, hw⟩ := o.new (o := .tup [x, y]) m hp
  exact o'.to ⟨o'.t, p, _, rfl, .inl (.inl hw), x, [y], rfl, r1.mono s, y, [], rfl, r2.mono s, rfl⟩
def zipD (xs ys : List D) : List D := (xs.zip ys).map fun p => .prs [p.1, p.2]
theorem zipD_get {xs ys : List D} {i : Nat} {d : D} (h : (zipD xs ys)[i]? = some d) : ∃ x y, xs[i]? = some x ∧ ys[i]? = some y ∧ d = .prs [x, y] := by
  unfold zipD at h
  rw [List.getElem?_map] at h
  cases q : (xs.zip ys)[i]? with
  | none => rw [q] at h; cases h
  | some p =>
    rw [q] at h
    cases h
    have := List.getElem?_zip_eq_some.mp q
    exact ⟨p.1, p.2, this.1, this.2, rfl⟩
theorem zipD_len (xs ys : List D) : (zipD xs ys).length = min xs.length ys.length := by unfold zipD; simp
theorem walkD_zip {a b : Addr} {xs ys : List V} {ds es : List D} : WalkD K (Itz K a b) (zipD ds es) (fun h => (h a = some (.lst xs) ∧ RpL K h ds xs) ∧ (h b = some (.lst ys) ∧ RpL K h es ys)) where
  stop := fun H M z => (walk_zip rfl).stops H ⟨SqL.of ((wo_some z.1.1).2), SqL.of ((wo_some z.2.1).2)⟩ |> fun h => by rw [zipD_len, ← z.1.2.len, ← z.2.2.len]; exact h
  go := fun i d H M q z => by
    refine (walk_zip (n := min xs.length ys.length) rfl).goes i H ?_ ⟨SqL.of ((wo_some z.1.1).2), SqL.of ((wo_some z.2.1).2)⟩
    have := (List.getElem?_eq_some_iff.mp q).1
    rw [zipD_len, ← z.1.2.len, ← z.2.2.len] at this
    exact this
  yld := fun i d x H H' F vs es' T q m o y => by
    have hl := (List.getElem?_eq_some_iff.mp q).1
    rw [zipD_len, ← o.t.2.1.2.len, ← o.t.2.2.2.len] at hl
    obtain ⟨p, u, v, e1, hp, e2, e3, e4⟩ := (walk_zip (K := K) (a := a) (b := b) (xs := xs) (ys := ys) (n := min xs.length ys.length) rfl).yields i H x H' hl ⟨SqL.of ((wo_some o.t.2.1.1).2), SqL.of ((wo_some o.t.2.2.1).2)⟩ y
    obtain ⟨d1, d2, q1, q2, q3⟩ := zipD_get q
    subst e1; subst e2; subst q3
    obtain ⟨u', k1, r1⟩ := o.t.2.1.2.get q1
    obtain ⟨v', k2, r2⟩ := o.t.2.2.2.get q2
    have e3 : xs[i]? = some u := e3
    have e4 : ys[i]? = some v := e4
    rw [e3] at k1
    rw [e4] at k2
    cases k1; cases k2
    exact o.newPair (m.and fun h h' s z => ⟨⟨s _ _ z.1.1, z.1.2.mono s⟩, s _ _ z.2.1, z.2.2.mono s⟩) hp r1 r2
def enumD (xs : List D) : List D := xs.mapIdx fun i d => .prs [.int (i : Nat), d]
theorem enumD_get {xs : List D} {i : Nat} {d : D} (h : (enumD xs)[i]? = some d) : ∃ x, xs[i]? = some x ∧ d = .prs [.int (i : Nat), x] := by
  unfold enumD at h
  rw [List.getElem?_mapIdx] at h
  cases q : xs[i]? with
  | none => rw [q] at h; cases h
  | some p => rw [q] at h; cases h; exact ⟨p, rfl, rfl⟩
theorem walkD_enum {a : Addr} {xs : List V} {ds : List D} : WalkD K (Ite K a) (enumD ds) (fun h => h a = some (.lst xs) ∧ RpL K h ds xs) where
  stop := fun H M z => by
    have := (walk_enum (K := K) (a := a) (xs := xs)).stops H (SqL.of ((wo_some z.1).2))
    rw [show (enumD ds).length = xs.length by unfold enumD; rw [z.2.len]; simp]
    exact this
  go := fun i d H M q z => by
    refine (walk_enum (K := K) (a := a) (xs := xs)).goes i H ?_ (SqL.of ((wo_some z.1).2))
    have := (List.getElem?_eq_some_iff.mp q).1
    unfold enumD at this
    rw [z.2.len]
    simpa using this
  yld := fun i d x H H' F vs es' T q m o y => by
    have hl := (List.getElem?_eq_some_iff.mp q).1
    have hl : i < xs.length := by unfold enumD at hl; rw [o.t.2.2.len]; simpa using hl
    obtain ⟨p, u, v, e1, hp, e2, e3, e4⟩ := (walk_enum (K := K) (a := a) (xs := xs)).yields i H x H' hl (SqL.of ((wo_some o.t.2.1).2)) y
    obtain ⟨d2, q2, q3⟩ := enumD_get q
    subst e1; subst e2; subst q3
    obtain ⟨v', k2, r2⟩ := o.t.2.2.get q2
    have e4 : xs[i]? = some v := e4
    rw [e4] at k2
    cases k2; cases e3
    exact o.newPair (m.and fun h h' s z => ⟨s _ _ z.1, z.2.mono s⟩) hp rfl r2
end
def seqI (G : List Ent → R Kd) (ρ : List Ent) : R (List D) := (toVa (G ρ)).bind fun k ρ1 => match k with
  | .va d => match itemsD d with
    | some ds => .ok ds ρ1
    | none => .bad
  | _ => .bad
def rng1I (GA : List Ent → R (List Kd)) (ρ : List Ent) : R (List D) := (GA ρ).bind fun ks ρ1 => match ks with
  | [.va (.int j)] => if -(2 ^ 62) ≤ j ∧ j < 2 ^ 62 then .ok (rangeD 0 j.toNat) ρ1 else .bad
  | _ => .bad
def rng2I (GA : List Ent → R (List Kd)) (ρ : List Ent) : R (List D) := (GA ρ).bind fun ks ρ1 => match ks with
  | [.va (.int i), .va (.int j)] => if -(2 ^ 62) ≤ i ∧ i < 2 ^ 62 ∧ -(2 ^ 62) ≤ j ∧ j < 2 ^ 62 then .ok (rangeD i (j - i).toNat) ρ1 else .bad
  | _ => .bad
def zipI (GA : List Ent → R (List Kd)) (ρ : List Ent) : R (List D) := (GA ρ).bind fun ks ρ1 => match ks with
  | [.va (.lst xs), .va (.lst ys)] => .ok (zipD xs ys) ρ1
  | [.va (.tup xs), .va (.tup ys)] => .ok (zipD xs ys) ρ1
  | _ => .bad
def enumI (GA : List Ent → R (List Kd)) (ρ : List Ent) : R (List D) := (GA ρ).bind fun ks ρ1 => match ks with
  | [.va (.lst xs)] => .ok (enumD xs) ρ1
  | _ => .bad
section
variable {X : Cx} {F : Fr} {E : XK} {e a b tg : Expr} {pos p : Pos} {G : List Ent → R Kd} {GA : List Ent → R (List Kd)}
theorem pf_I {K : PySem.W.Frag} {σ : L2.St} (Q : It → Hp → Prop) : PF K F E σ (fun T r => PostI K F E T σ Q r) := ⟨fun _ _ _ p => p, fun _ p => p, fun T T' r w p => by
  cases r with
  | ok ds ρ' => exact fun J H' TG mg wk o => p J H' TG mg wk (o.weak fun h z => ⟨w h z.1, z.2⟩)
  | ex x ρ' => exact PostX.weak p w
  | bad => exact p⟩
theorem ji_seq (he : PE X e (tE X.K F E G)) : PI X tg e (tI X.K F E (seqI G)) := by
  refine ⟨fun pins s σ H Rr I ⟨ρ, T, m, o, p⟩ => ?_⟩
  have he' := je_toVa he
  have p : PostI X.K F E T σ Rr ((toVa (G ρ)).bind fun k ρ1 => match k with
    | .va d => match itemsD d with
      | some ds => .ok ds ρ1
      | none => .bad
    | _ => .bad) := p
  cases q : toVa (G ρ) with
  | ok k ρ1 =>
    rw [q] at p
    cases k with
    | va d =>
      cases d with
      | lst ds =>
        refine (pi_list he').run pins s σ H Rr I ⟨ρ, T, m, o, ?_⟩
        show PostE X.K F E T σ _ (toVa (G ρ))
        rw [q]
        intro v H' o'
        obtain ⟨a, xs, e1, e2, e3⟩ := o'.t.2
        exact ⟨a, e1, ⟨xs, SqL.of ((wo_some e2).2)⟩, p _ H' _ (fun h h' s z => ⟨s _ _ z.1, z.2.mono s⟩) walkD_list (o'.to ⟨o'.t.1, e2, e3⟩)⟩
      | tup ds =>
        refine (pi_tup he').run pins s σ H Rr I ⟨ρ, T, m, o, ?_⟩
        show PostE X.K F E T σ _ (toVa (G ρ))
        rw [q]
        intro v H' o'
        obtain ⟨a, xs, e1, e2, e3⟩ := o'.t.2
        exact ⟨a, e1, ⟨xs, SqT.mono wo_le e2.sq⟩, p _ H' _ (fun h h' s z => ⟨SqT.mono s z.1, z.2.mono s⟩) walkD_tup (o'.to ⟨o'.t.1, e2.sq, e3⟩)⟩
      | non => exact p.elim
      | bl _ => exact p.elim
      | int _ => exact p.elim
      | str _ => exact p.elim
      | ins _ _ => exact p.elim
      | prs _ => exact p.elim
      | dic _ => exact p.elim
      | scr _ => exact p.elim
    | ow d => exact p.elim
    | al i => exact p.elim
  | ex x ρ1 =>
    rw [q] at p
    refine (pi_list he').run pins s σ H Rr I ⟨ρ, T, m, o, ?_⟩
    show PostE X.K F E T σ _ (toVa (G ρ))
    rw [q]
    exact p
  | bad => rw [q] at p; exact p.elim
theorem ji_range1 (hg : Gl X "range") (hm : X.mg "range" = none) (ha : PA X [a] (tA X.K F E GA)) (hs : starEach [a] X.env = [(false, eval a X.env)] := by rfl) : PI X tg (.Call (.Name "range" p) [a] [] pos) (tI X.K F E (rng1I GA)) :=
  piI (pi_range1 hg hm ha hs) fun σ H Rr ⟨ρ, T, m, o, p⟩ => bdA (pf_I Rr) m o p fun vs H1 ks ρ1 o1 p1 => by
    split at p1
    · rename_i j
      split at p1
      · rename_i hj
        obtain ⟨y, ys, e1, e2, e3⟩ := o1.t.2
        exact ⟨j, by rw [e1, show ys = [] from e3, show y = _ from e2], hj.1, hj.2, p1 _ _ _ (fun _ _ _ z => z) walkD_range (o1.weak fun _ z => ⟨z.1, True.intro⟩)⟩
      · exact p1.elim
    · exact p1.elim
theorem ji_range2 (hg : Gl X "range") (hm : X.mg "range" = none) (ha : PA X [a, b] (tA X.K F E GA)) (hs : starEach [a, b] X.env = [(false, eval a X.env), (false, eval b X.env)] := by rfl) (hs2 : starEach [b] X.env = [(false, eval b X.env)] := by rfl) : PI X tg (.Call (.Name "range" p) [a, b] [] pos) (tI X.K F E (rng2I GA)) :=
  piI (pi_range2 hg hm ha hs hs2) fun σ H Rr ⟨ρ, T, m, o, p⟩ => bdA (pf_I Rr) m o p fun vs H1 ks ρ1 o1 p1 => by
    split at p1
    · rename_i i j
      split at p1
      · rename_i hj
        obtain ⟨y, ys, e1, e2, y2, ys2, e3, e4, e5⟩ := o1.t.2
        exact ⟨i, j, by rw [e1, e3, show ys2 = [] from e5, show y = _ from e2, show y2 = _ from e4], hj, p1 _ _ _ (fun _ _ _ z => z) walkD_range (o1.weak fun _ z => ⟨z.1, True.intro⟩)⟩
      · exact p1.elim
    · exact p1.elim
end
end DL

namespace DL
open PySem PySem.Spec PyProof.Rows L2

/-! ### zip, enumerate -/
section
variable {K : PySem.W.Frag}
theorem walkD_zipT {a b : Addr} {xs ys : List V} {ds es : List D} : WalkD K (RZ.ItzT K a b) (zipD ds es) (fun h => (SqT K h a xs ∧ RpL K h ds xs) ∧ (SqT K h b ys ∧ RpL K h es ys)) where
  stop := fun H M z => ⟨xs, ys, SqT.mono wo_le z.1.1, SqT.mono wo_le z.2.1, by rw [zipD_len, ← z.1.2.len, ← z.2.2.len]; omega⟩
  go := fun i d H M q z => by
    obtain ⟨d1, d2, q1, q2, _⟩ := zipD_get q
    obtain ⟨u, k1, _⟩ := z.1.2.get q1
    obtain ⟨v, k2, _⟩ := z.2.2.get q2
    exact ⟨xs, ys, u, v, SqT.mono wo_le z.1.1, SqT.mono wo_le z.2.1, k1, k2⟩
  yld := fun i d x H H' F vs es' T q m o y => by
    obtain ⟨p, u, v, e1, hp, e2, e3, e4⟩ := y
    obtain ⟨d1, d2, q1, q2, q3⟩ := zipD_get q
    subst e1; subst e2; subst q3
    obtain ⟨u', k1, r1⟩ := o.t.2.1.2.get q1
    obtain ⟨v', k2, r2⟩ := o.t.2.2.2.get q2
    have e3 := e3 xs (SqT.mono wo_le o.t.2.1.1)
    have e4 := e4 ys (SqT.mono wo_le o.t.2.2.1)
    rw [e3] at k1
    rw [e4] at k2
    cases k1; cases k2
    exact o.newPair (m.and fun h h' s z => ⟨⟨SqT.mono s z.1.1, z.1.2.mono s⟩, SqT.mono s z.2.1, z.2.2.mono s⟩) hp r1 r2
end
section
variable {X : Cx} {F : Fr} {E : XK} {e a b tg : Expr} {pos p tpos : Pos} {elts : List Expr} {kk : Nat} {G : List Ent → R Kd} {GA : List Ent → R (List Kd)}
theorem ji_zip (hg : Gl X "zip") (hm : X.mg "zip" = none) (ha : PA X [a, b] (tA X.K F E GA)) (hs : starEach [a, b] X.env = (false, eval a X.env) :: starEach [b] X.env := by rfl) (hpl : (backTo pos (starEach [b] X.env)).any (·.1) = false := by rfl) :
    PI X (.Tuple elts kk tpos) (.Call (.Name "zip" p) [a, b] [] pos) (tI X.K F E (zipI GA)) :=
  piI (RZ.pi_zipA hg hm ha hs hpl) fun σ H Rr ⟨ρ, T, m, o, p⟩ => bdA (pf_I Rr) m o p fun vs H1 ks ρ1 o1 p1 => by
    split at p1
    · rename_i xs ys
      obtain ⟨y, ys', e1, ⟨a1, us, f1, f2, f3⟩, y2, ys2, e3, ⟨a2, ws, g1, g2, g3⟩, e5⟩ := o1.t.2
      exact ⟨a1, a2, us, ws, by rw [e1, e3, show ys2 = [] from e5, f1, g1], .inl ⟨SqL.of ((wo_some f2).2), SqL.of ((wo_some g2).2), p1 _ _ _ (fun h h' s z => ⟨⟨s _ _ z.1.1, z.1.2.mono s⟩, s _ _ z.2.1, z.2.2.mono s⟩) walkD_zip (o1.to ⟨o1.t.1, ⟨f2, f3⟩, g2, g3⟩)⟩⟩
    · rename_i xs ys
      obtain ⟨y, ys', e1, ⟨a1, us, f1, f2, f3⟩, y2, ys2, e3, ⟨a2, ws, g1, g2, g3⟩, e5⟩ := o1.t.2
      exact ⟨a1, a2, us, ws, by rw [e1, e3, show ys2 = [] from e5, f1, g1], .inr ⟨SqT.mono wo_le f2.sq, SqT.mono wo_le g2.sq, p1 _ _ _ (fun h h' s z => ⟨⟨SqT.mono s z.1.1, z.1.2.mono s⟩, SqT.mono s z.2.1, z.2.2.mono s⟩) walkD_zipT (o1.to ⟨o1.t.1, ⟨f2.sq, f3⟩, g2.sq, g3⟩)⟩⟩
    · exact p1.elim
theorem ji_enum (hg : Gl X "enumerate") (hm : X.mg "enumerate" = none) (ha : PA X [a] (tA X.K F E GA)) (hs : starEach [a] X.env = [(false, eval a X.env)] := by rfl) :
    PI X (.Tuple elts kk tpos) (.Call (.Name "enumerate" p) [a] [] pos) (tI X.K F E (enumI GA)) :=
  piI (pi_enum hg hm ha hs) fun σ H Rr ⟨ρ, T, m, o, p⟩ => bdA (pf_I Rr) m o p fun vs H1 ks ρ1 o1 p1 => by
    split at p1
    · rename_i xs
      obtain ⟨y, ys', e1, ⟨a1, us, f1, f2, f3⟩, e5⟩ := o1.t.2
      exact ⟨a1, us, by rw [e1, show ys' = [] from e5, f1], SqL.of ((wo_some f2).2), p1 _ _ _ (fun h h' s z => ⟨s _ _ z.1, z.2.mono s⟩) walkD_enum (o1.to ⟨o1.t.1, f2, f3⟩)⟩
    · exact p1.elim
end

/-! ### targets: what is stored where -/
def TgD (K : PySem.W.Frag) (g : TG) (js : List Nat) (f : D → List Ent → Option (List Ent)) : Prop :=
  ∀ (F : Fr) (d : D) (v : V) (σ : L2.St) (H : Hp) (ρ ρ' : List Ent) (T : HT) (Q : L2.St → Hp → Prop), Mono T → Ok K F (fun h => T h ∧ Rp K h d v) H σ ρ → f d ρ = some ρ' → (∀ σ' H', (∀ i, i ∉ js → σ'[i]? = σ[i]?) → σ'.length = σ.length → Ok K F T H' σ' ρ' → Q σ' H') → g v σ H Q
def nameT (i : Nat) (d : D) (ρ : List Ent) : Option (List Ent) := some (ρ.set i (.va d))
theorem tgD_name {K : PySem.W.Frag} (i : Nat) : TgD K (gName i) [i] (nameT i) := fun F d v σ H ρ ρ' T Q m o e q => by
  cases e
  exact q _ H (fun j hj => List.getElem?_set_ne (fun z => hj (by rw [z]; exact List.mem_singleton.mpr rfl))) (List.length_set ..) (o.setVa m)
def pairT (f1 f2 : D → List Ent → Option (List Ent)) (d : D) (ρ : List Ent) : Option (List Ent) := match d with
  | .tup [d1, d2] => match f1 d1 ρ with
    | some ρ1 => f2 d2 ρ1
    | none => none
  | _ => none
theorem tgD_pair {K : PySem.W.Frag} {g1 g2 : TG} {js1 js2 : List Nat} {f1 f2 : D → List Ent → Option (List Ent)} (h1 : TgD K g1 js1 f1) (h2 : TgD K g2 js2 f2) : TgD K (gTup K 2 (gCons g1 (gCons g2 gNil))) (js1 ++ js2) (pairT f1 f2) := fun F d v σ H ρ ρ' T Q m o e q => by
  unfold pairT at e
  split at e
  · rename_i d1 d2
    cases e1 : f1 d1 ρ with
    | none => rw [e1] at e; cases e
    | some ρ1 =>
      rw [e1] at e
      obtain ⟨a, xs, k1, k2, x1, xs1, k3, r1, x2, xs2, k4, r2, k5⟩ := o.t.2
      refine ⟨a, xs, k1, SqT.mono wo_le k2.sq, by rw [k3, k4, show xs2 = [] from k5]; rfl, x1, xs1, k3, ?_⟩
      refine h1 F d1 x1 σ H ρ ρ1 (fun h => T h ∧ Rp K h d2 x2) _ (m.and mono_rp) (o.to ⟨⟨o.t.1, r2⟩, r1⟩) e1 fun σ1 H1 s1 l1 o1 => ?_
      refine ⟨x2, xs2, k4, h2 F d2 x2 σ1 H1 ρ1 ρ' T _ m o1 e fun σ2 H2 s2 l2 o2 => ⟨k5, q σ2 H2 (fun i hi => ?_) (l2.trans l1) o2⟩⟩
      rw [s2 i (fun z => hi (List.mem_append_right _ z)), s1 i (fun z => hi (List.mem_append_left _ z))]
  · cases e
section
variable {X : Cx} {F : Fr} {E : XK} {pos : Pos} {e1 e2 : Expr} {k : Nat} {g1 g2 : TG}
theorem jg_name (i : Nat) {x : Str} (hN : X.N.Nodup) (hi : X.N[i]? = some x := by rfl) (hx : Loc X.env.scope x := by first | exact Or.inl rfl | exact Or.inr rfl) (hf : X.fn x = true ∨ X.env.scope.names.lookup x = some .local := by first | exact .inl rfl | exact .inr rfl | assumption) : PG X (.Name x pos) (gName i) := pg_name hN hi hx hf
theorem jg_pair (hc : X.calm = true) (h1 : PG X e1 g1) (h2 : PG X e2 g2) (hs1 : (assignEach [e1, e2] X.env).map (·.2) = assign e1 X.env :: (assignEach [e2] X.env).map (·.2) := by rfl) (hs2 : (assignEach [e2] X.env).map (·.2) = assign e2 X.env :: (assignEach [] X.env).map (·.2) := by rfl)
    (hn : (assignEach [e1, e2] X.env).length = 2 := by rfl) (hst : (assignEach [e1, e2] X.env).findIdx? (·.1) = none := by rfl) : PG X (.Tuple [e1, e2] k pos) (gTup X.K 2 (gCons g1 (gCons g2 gNil))) := pg_tup hc (pgs_cons h1 (pgs_cons h2 pgs_nil hs2) hs1) hn hst
end
/-! ### for -/
def forR (f : D → List Ent → Option (List Ent)) (B : List Ent → R Fl) : List D → List Ent → R Fl
  | [], ρ => .ok .nx ρ
  | d :: ds, ρ => match f d ρ with
    | some ρ1 => match B ρ1 with
      | .ok .nx ρ2 => forR f B ds ρ2
      | .ok .ct ρ2 => forR f B ds ρ2
      | .ok .bk ρ2 => .ok .nx ρ2
      | r => r
    | none => .bad
def forS (Gi : List Ent → R (List D)) (f : D → List Ent → Option (List Ent)) (B : List Ent → R Fl) (ρ : List Ent) : R Fl := (Gi ρ).bind fun ds ρ1 => forR f B ds ρ1
section
variable {X : Cx} {F : Fr} {E : XK} {e iter tg c : Expr} {body : List Stmt} {pos : Pos} {Gi : List Ent → R (List D)} {f : D → List Ent → Option (List Ent)} {B : List Ent → R Fl} {g : TG} {js : List Nat} {A : List Ent → R Bool}
theorem bdI {β : Type} {K : PySem.W.Frag} {σ : L2.St} {T : HT} {H : Hp} {ρ : List Ent} {P : HT → R β → Prop} (pf : PF K F E σ P) {h : List D → List Ent → R β} (m : Mono T) (o : Ok K F T H σ ρ) (p : P T ((Gi ρ).bind h)) {Q2 : It → Hp → Prop}
    (c : ∀ J H1 TG ds ρ1, Mono TG → WalkD K J ds TG → Ok K F (fun h => T h ∧ TG h) H1 σ ρ1 → P T (h ds ρ1) → Q2 J H1) : tI K F E Gi σ H Q2 := by
  refine ⟨ρ, T, m, o, ?_⟩
  cases hg : Gi ρ with
  | ok k ρ' => rw [hg] at p; exact fun J H' TG mg wk o' => c J H' TG k ρ' mg wk o' p
  | ex x ρ' => rw [hg] at p; exact pf.px _ _ _ p
  | bad => rw [hg] at p; exact (pf.pb _ p).elim
theorem PostS.irr {K : PySem.W.Frag} {T : HT} {σ σ' : L2.St} {D : Ends} {r : R Fl} (p : PostS K F E T σ D r) : PostS K F E T σ' D r := by
  cases r with
  | ok fl ρ => cases fl with
    | nx => exact p
    | bk => exact p
    | ct => exact p
    | rt k => cases k <;> exact p
  | ex x ρ => exact p
  | bad => exact p
theorem js_for (hp : PassesOwn (model X.prog X.w) X.A X.env X.xe) (hc : X.calm = true) (hi : PI X tg iter (tI X.K F E Gi)) (hg : PG X tg g) (ht : TgD X.K g js f) (hb : PSs X body (tS X.K F E B)) (hs : ∀ x, foldedSetIterable iter X.env x = pure x := by intro _; rfl) :
    PS X (.For tg iter body [] pos) (tS X.K F E (forS Gi f B)) :=
  psI (ps_for hp hc hi hg hb hs) fun D σ H ⟨ρ, T, m, o, p⟩ => bdI (pf_S D) m o p fun J H1 TG ds ρ1 mg wk o1 p1 => by
    refine ⟨fun i n σ H => n = ds.length - i ∧ i ≤ ds.length ∧ ∃ ρ, Ok X.K F (fun h => T h ∧ TG h) H σ ρ ∧ PostS X.K F E T σ D (forR f B (ds.drop i) ρ), ⟨ds.length, by simp, Nat.zero_le _, ρ1, o1, p1.irr⟩, ?_⟩
    rintro i n σ2 H2 ⟨rfl, hi, ρ2, o2, p2⟩
    by_cases hlt : i < ds.length
    · have hd : ds[i]? = some ds[i] := by simp [hlt]
      rw [List.drop_eq_getElem_cons hlt] at p2
      simp only [forR] at p2
      cases e1 : f ds[i] ρ2 with
      | none => rw [e1] at p2; exact p2.elim
      | some ρ3 =>
        rw [e1] at p2
        simp only at p2
        refine .inr ⟨wk.go i _ H2 _ hd o2.t.2, fun σ' H' => ds.length - (i + 1) < ds.length - i ∧ ∃ ρ, Ok X.K F (fun h => T h ∧ TG h) H' σ' ρ ∧ PostS X.K F E T σ' D (forR f B (ds.drop (i + 1)) ρ), fun σ' H' ⟨h1, h2⟩ => ⟨ds.length - (i + 1), h1, rfl, hlt, h2⟩, fun x H' y => ?_⟩
        have o3 := wk.yld i _ x H2 H' F σ2 ρ2 T hd m o2 y
        refine ht F ds[i] x σ2 H' ρ2 ρ3 (fun h => T h ∧ TG h) _ (m.and mg) o3 e1 fun σ4 H4 _ _ o4 => ⟨ρ3, _, m.and mg, o4, ?_⟩
        cases e2 : B ρ3 with
        | bad => rw [e2] at p2; exact p2.elim
        | ex x ρ5 => rw [e2] at p2; exact fun d σ' H' o' => p2 d σ' H' (o'.weak fun _ z => ⟨z.1.1, z.2⟩)
        | ok fl ρ5 =>
          rw [e2] at p2
          cases fl with
          | nx => exact fun σ' H' o' => ⟨by omega, ρ5, o', p2.irr⟩
          | ct => exact fun σ' H' o' => ⟨by omega, ρ5, o', p2.irr⟩
          | bk => exact fun σ' H' o' => p2 σ' H' (o'.weak fun _ z => z.1)
          | rt k => cases k with
            | ow d => exact fun v σ' H' o' => p2 v σ' H' (o'.weak fun _ z => z.1)
            | va d => exact fun v σ' H' o' => p2 v σ' H' (o'.weak fun _ z => ⟨z.1.1, z.2⟩)
            | al j => exact p2.elim
    · have e : i = ds.length := by omega
      subst e
      rw [List.drop_length] at p2
      exact .inl ⟨wk.stop H2 _ o2.t.2, p2 σ2 H2 (o2.weak fun _ z => z.1)⟩
/-! ### while -/
def whileR (A : List Ent → R Bool) (B : List Ent → R Fl) : Nat → List Ent → R Fl
  | 0, _ => .bad
  | n + 1, ρ => (A ρ).bind fun b ρ1 => if b then match B ρ1 with
    | .ok .nx ρ2 => whileR A B n ρ2
    | .ok .ct ρ2 => whileR A B n ρ2
    | .ok .bk ρ2 => .ok .nx ρ2
    | r => r
    else .ok .nx ρ1
theorem js_while (fuel : List Ent → Nat) (hp : PassesOwn (model X.prog X.w) X.A X.env X.xe) (hc : PT X c (tT X.K F E A)) (hb : PSs X body (tS X.K F E B)) : PS X (.While c body [] pos) (tS X.K F E fun ρ => whileR A B (fuel ρ) ρ) :=
  psI (ps_while hp hc hb) fun D σ H ⟨ρ, T, m, o, p⟩ => by
    refine ⟨fun n σ H => ∃ ρ, Ok X.K F T H σ ρ ∧ PostS X.K F E T σ D (whileR A B n ρ), ⟨fuel ρ, ρ, o, p⟩, ?_⟩
    rintro n σ1 H1 ⟨ρ1, o1, p1⟩
    cases n with
    | zero => exact p1.elim
    | succ n =>
      refine bdB (pf_S D) m o1 p1 fun b H2 ρ2 o2 p2 => ?_
      cases b with
      | false =>
        rw [if_neg Bool.false_ne_true]
        exact p2 σ1 H2 o2
      | true =>
        rw [if_pos rfl]
        have p2 : PostS X.K F E T σ1 D (match B ρ2 with
          | .ok .nx ρ2 => whileR A B n ρ2
          | .ok .ct ρ2 => whileR A B n ρ2
          | .ok .bk ρ2 => .ok .nx ρ2
          | r => r) := p2
        refine ⟨fun σ' H' => ∃ ρ, Ok X.K F T H' σ' ρ ∧ PostS X.K F E T σ' D (whileR A B n ρ), fun σ' H' h => ⟨n, Nat.lt_succ_self n, h⟩, ρ2, T, m, o2, ?_⟩
        cases e2 : B ρ2 with
        | bad => rw [e2] at p2; exact p2.elim
        | ex x ρ5 => rw [e2] at p2; exact p2
        | ok fl ρ5 =>
          rw [e2] at p2
          cases fl with
          | nx => exact fun σ' H' o' => ⟨ρ5, o', p2.irr⟩
          | ct => exact fun σ' H' o' => ⟨ρ5, o', p2.irr⟩
          | bk => exact p2
          | rt k => cases k <;> exact p2
end
end DL

namespace DL
open PySem PySem.Spec PyProof.Rows L2

/-! ### list comprehensions -/
def wipeE (ρ : List Ent) : List Nat → List Ent
  | [] => ρ
  | v :: vs => (wipeE ρ vs).set v .no
theorem wipeE_len (ρ : List Ent) : ∀ vs : List Nat, (wipeE ρ vs).length = ρ.length
  | [] => rfl
  | v :: vs => by unfold wipeE; rw [List.length_set, wipeE_len ρ vs]
theorem wipeE_get {ρ : List Ent} {j : Nat} {e : Ent} (ne : e ≠ .no) : ∀ {vs : List Nat}, (wipeE ρ vs)[j]? = some e → ρ[j]? = some e ∧ j ∉ vs
  | [], h => ⟨h, List.not_mem_nil⟩
  | v :: vs, h => by
    unfold wipeE at h
    by_cases hj : v = j
    · subst hj
      by_cases hl : v < (wipeE ρ vs).length
      · rw [List.getElem?_set_self hl] at h
        cases h
        exact absurd rfl ne
      · rw [List.getElem?_eq_none (by rw [List.length_set]; omega)] at h
        cases h
    · rw [List.getElem?_set_ne hj] at h
      obtain ⟨h1, h2⟩ := wipeE_get ne h
      exact ⟨h1, fun z => (List.mem_cons.mp z).elim (fun z => hj z.symm) h2⟩
theorem wipe_eq {σ σ' : L2.St} (hl : σ'.length = σ.length) {vs : List Nat} (h : ∀ i, i ∉ vs → σ'[i]? = σ[i]?) : wipe σ' vs = wipe σ vs := by
  apply List.ext_getElem?
  intro i
  by_cases hi : i ∈ vs
  · rw [wipe_in hl hi]
  · rw [wipe_out hi, wipe_out hi, h i hi]
where
  wipe_in {σ σ' : L2.St} (hl : σ'.length = σ.length) {i : Nat} : ∀ {vs : List Nat}, i ∈ vs → (wipe σ' vs)[i]? = (wipe σ vs)[i]?
    | v :: vs, h => by
      unfold wipe
      by_cases hv : v = i
      · subst hv
        by_cases hb : v < σ.length
        · rw [List.getElem?_set_self (by rw [wipe_length, hl]; exact hb), List.getElem?_set_self (by rw [wipe_length]; exact hb)]
        · rw [List.getElem?_eq_none (by rw [List.length_set, wipe_length]; omega), List.getElem?_eq_none (by rw [List.length_set, wipe_length]; omega)]
      · rw [List.getElem?_set_ne hv, List.getElem?_set_ne hv]
        exact wipe_in hl ((List.mem_cons.mp h).elim (fun z => absurd z.symm hv) id)
def noX {α : Type} : R α → R α
  | .ex _ _ => .bad
  | r => r
def lcLoop (f : D → List Ent → Option (List Ent)) (A : List Ent → R Bool) (G : List Ent → R Kd) (vs : List Nat) : List D → List D → List Ent → R (List D)
  | [], acc, ρ => .ok acc ρ
  | d :: ds, acc, ρ => match f d (wipeE ρ vs) with
    | some ρ1 => (noX (A ρ1)).bind fun b ρ2 => if b then (noX (toVa (G ρ2))).bind fun k ρ3 => match k with
        | .va e => if acc.length < big then lcLoop f A G vs ds (acc ++ [e]) ρ3 else .bad
        | _ => .bad
      else lcLoop f A G vs ds acc ρ2
    | none => .bad
def lcR (Gi : List Ent → R (List D)) (f : D → List Ent → Option (List Ent)) (A : List Ent → R Bool) (G : List Ent → R Kd) (vs : List Nat) (ρ : List Ent) : R Kd := (Gi ρ).bind fun ds ρ1 => (lcLoop f A G vs ds [] ρ1).bind fun acc ρ2 => .ok (.ow (.lst acc)) (wipeE ρ2 vs)
/-- the frame within a comprehension: the list that grows is not seen -/
def frD (F : Fr) (L : Addr) (xs : List V) : Fr := ⟨fun a => F.M0 a ∨ a = L, F.W, upd F.H0 L (.lst xs), F.ps⟩
section
variable {K : PySem.W.Frag} {F : Fr} {T : HT} {H : Hp} {σ : List (Option V)} {ρ : List Ent} {L : Addr} {xs ys : List V}
theorem ms_frD {a : Addr} : Ms (frD F L xs) σ ρ a ↔ Ms F σ ρ a ∨ a = L := by
  constructor
  · rintro ((z | z) | z)
    · exact .inl (.inl z)
    · exact .inr z
    · exact .inl (.inr z)
  · rintro ((z | z) | z)
    · exact .inl (.inl z)
    · exact .inr z
    · exact .inl (.inr z)
theorem Ok.enter (o : Ok K F T H σ ρ) (m : Mono T) (hL : H L = none) : Ok K (frD F L []) T (upd H L (.lst [])) σ ρ := by
  have h0 := o.new_h0 hL
  have nm := o.m_new hL
  have k : ∀ a u, H a = some u → upd H L (.lst []) a = some u := fun a u e => by rw [upd_ne (ne_of_none e hL)]; exact e
  have hs : Same (wo H (Ms F σ ρ)) (wo (upd H L (.lst [])) (Ms (frD F L []) σ ρ)) := wo_mono fun a u n e => ⟨fun z => (ms_frD.mp z).elim n fun z => (by rw [z, hL] at e; cases e), k a u e⟩
  refine ⟨o.len, fun i e v h1 h2 => (o.cells i e v h1 h2).move hs fun _ _ a u _ _ q => k a u q, o.inj, fun i a n d h1 h2 => ?_, fun a u e n => ?_, fun a u e => ?_, fun a z => ?_, fun a z => ?_, m _ _ hs o.t⟩
  · obtain ⟨w1, w2, w3, w4⟩ := o.w i a n d h1 h2
    have ne : a ≠ L := fun z => nm (z ▸ .inr ⟨i, n, d, h1, h2⟩)
    exact ⟨fun z => z.elim w1 ne, w2.elim .inl fun z => .inr (by show upd F.H0 L _ a = none; rw [upd_ne ne]; exact z), fun z => (by show upd F.H0 L _ a = none; rw [upd_ne ne]; exact w3 z), w4⟩
  · by_cases ha : a = L
    · subst ha
      have e : upd F.H0 a (.lst []) a = some u := e
      rw [upd_same] at e ⊢
      exact e
    · have e : upd F.H0 L (.lst []) a = some u := e
      rw [upd_ne ha] at e ⊢
      exact o.kp a u e n
  · by_cases ha : a = L
    · subst ha; exact ⟨_, upd_same⟩
    · have e : upd F.H0 L (.lst []) a = some u := e
      rw [upd_ne ha] at e ⊢
      exact o.tr a u e
  · rcases z with z | z
    · obtain ⟨q1, o', q2, q3⟩ := o.m0 a z
      have ne : a ≠ L := fun w => by rw [w, h0] at q2; cases q2
      exact ⟨q1, o', (by show upd F.H0 L _ a = _; rw [upd_ne ne]; exact q2), q3⟩
    · subst z
      exact ⟨fun w => (by obtain ⟨o', q⟩ := o.wt a w; rw [h0] at q; cases q), _, upd_same, fun ys z => (by cases z)⟩
  · obtain ⟨o', q⟩ := o.wt a z
    have ne : a ≠ L := fun w => by rw [w, h0] at q; cases q
    exact ⟨o', by show upd F.H0 L _ a = _; rw [upd_ne ne]; exact q⟩
theorem Ok.at_L (o : Ok K (frD F L xs) T H σ ρ) : H L = some (.lst xs) := o.kp L _ (by show upd F.H0 L _ L = _; rw [upd_same]) (o.m0 L (.inr rfl)).1
/-- the list grows -/
theorem Ok.turn (o : Ok K (frD F L xs) T H σ ρ) (m : Mono T) : Ok K (frD F L ys) T (upd H L (.lst ys)) σ ρ := by
  have hL := o.at_L
  have mL : Ms (frD F L xs) σ ρ L := .inl (.inr rfl)
  have hs : Same (wo H (Ms (frD F L xs) σ ρ)) (wo (upd H L (.lst ys)) (Ms (frD F L ys) σ ρ)) := wo_mono fun a u n e => ⟨fun z => n (ms_frD.mpr (ms_frD.mp z)), (by rw [upd_ne (fun z : a = L => n (by rw [z]; exact mL))]; exact e)⟩
  have nL : ∀ (i : Nat) (n : Option Nat) (d : D), ρ[i]? = some (Ent.ow n d) → ∀ a : Addr, σ[i]? = some (some (V.ref a)) → a ≠ L := fun i n d h1 a h2 z => (o.w i a n d h1 h2).1 (.inr z)
  refine ⟨o.len, fun i e v h1 h2 => (o.cells i e v h1 h2).move hs fun n d a u ee ev q => (by subst ee; subst ev; rw [upd_ne (nL i n d h1 a h2)]; exact q), o.inj, fun i a n d h1 h2 => ?_, fun a u e n => ?_, fun a u e => ?_, fun a z => ?_, fun a z => ?_, m _ _ hs o.t⟩
  · obtain ⟨w1, w2, w3, w4⟩ := o.w i a n d h1 h2
    have ne := nL i n d h1 a h2
    refine ⟨w1, w2.elim .inl fun z => .inr ?_, fun z => ?_, w4⟩
    · have z : upd F.H0 L (.lst xs) a = none := z
      show upd F.H0 L _ a = none
      rw [upd_ne ne] at z ⊢
      exact z
    · have z : upd F.H0 L (.lst xs) a = none := w3 z
      show upd F.H0 L _ a = none
      rw [upd_ne ne] at z ⊢
      exact z
  · have e : upd F.H0 L (.lst ys) a = some u := e
    by_cases ha : a = L
    · subst ha
      rw [upd_same] at e ⊢
      exact e
    · rw [upd_ne ha] at e ⊢
      exact o.kp a u (by show upd F.H0 L _ a = _; rw [upd_ne ha]; exact e) n
  · have e : upd F.H0 L (.lst ys) a = some u := e
    by_cases ha : a = L
    · subst ha; exact ⟨_, upd_same⟩
    · rw [upd_ne ha] at e ⊢
      exact o.tr a u (by show upd F.H0 L _ a = _; rw [upd_ne ha]; exact e)
  · obtain ⟨q1, o', q2, q3⟩ := o.m0 a z
    refine ⟨q1, ?_⟩
    by_cases ha : a = L
    · subst ha; exact ⟨_, upd_same, fun ys z => (by cases z)⟩
    · have q2 : upd F.H0 L (.lst xs) a = some o' := q2
      rw [upd_ne ha] at q2
      exact ⟨o', (by show upd F.H0 L _ a = _; rw [upd_ne ha]; exact q2), q3⟩
  · obtain ⟨o', q⟩ := o.wt a z
    by_cases ha : a = L
    · subst ha; exact ⟨_, upd_same⟩
    · have q : upd F.H0 L (.lst xs) a = some o' := q
      rw [upd_ne ha] at q
      exact ⟨o', by show upd F.H0 L _ a = _; rw [upd_ne ha]; exact q⟩
/-- it is handed on -/
theorem Ok.leave {ds : List D} (o : Ok K (frD F L xs) T H σ ρ) (m : Mono T) (r : RpL K (wo H (Ms (frD F L xs) σ ρ)) ds xs) (h0 : F.H0 L = none) (hm : ¬ F.M0 L) (m0 : ∀ a, F.M0 a → ¬ F.W a ∧ ∃ o, F.H0 a = some o ∧ ∀ xs, o ≠ .tup xs) (wt : ∀ a, F.W a → ∃ o, F.H0 a = some o) : Ok K F T H (some (.ref L) :: σ) (.ow none (.lst ds) :: ρ) := by
  have hL := o.at_L
  have nL : ∀ (i : Nat) (n : Option Nat) (d : D), ρ[i]? = some (Ent.ow n d) → ∀ a : Addr, σ[i]? = some (some (V.ref a)) → a ≠ L := fun i n d h1 a h2 z => (o.w i a n d h1 h2).1 (.inr z)
  have hs : Same (wo H (Ms (frD F L xs) σ ρ)) (wo H (Ms F (some (.ref L) :: σ) (.ow none (.lst ds) :: ρ))) := wo_mono fun a u n e => ⟨fun z => n (by
    rcases z with z | z
    · exact .inl (.inl z)
    · rcases z.of_cons with ⟨z, _⟩ | z
      · cases z; exact .inl (.inr rfl)
      · exact .inr z), e⟩
  have back : ∀ a, a ≠ L → upd F.H0 L (.lst xs) a = F.H0 a := fun a ha => upd_ne ha
  refine ⟨by simp [o.len], fun i e v h1 h2 => ?_, fun i j a n l d1 d2 h1 h2 h3 h4 => ?_, fun i a n d h1 h2 => ?_, fun a u e n => ?_, fun a u e => ?_, m0, wt, m _ _ hs o.t⟩
  · cases i with
    | zero =>
      simp at h1 h2
      subst h1; subst h2
      exact ⟨_, rfl, True.intro, L, xs, rfl, hL, r.mono hs⟩
    | succ i => exact (o.cells i e v (by simpa using h1) (by simpa using h2)).move hs fun _ _ _ _ _ _ q => q
  · cases i with
    | zero =>
      cases j with
      | zero => rfl
      | succ j =>
        simp at h3
        exact (nL j l d2 (by simpa using h2) a (by simpa using h4) h3.symm).elim
    | succ i =>
      cases j with
      | zero =>
        simp at h4
        exact (nL i n d1 (by simpa using h1) a (by simpa using h3) h4.symm).elim
      | succ j => rw [o.inj i j a n l d1 d2 (by simpa using h1) (by simpa using h2) (by simpa using h3) (by simpa using h4)]
  · cases i with
    | zero =>
      have h1 : Ent.ow none (.lst ds) = .ow n d := by simpa using h1
      have h2 : L = a := by simpa using h2
      cases h1
      subst h2
      exact ⟨hm, .inr h0, fun _ => h0, fun k z => nomatch z⟩
    | succ i =>
      have k1 : ρ[i]? = some (.ow n d) := by simpa using h1
      have k2 : σ[i]? = some (some (.ref a)) := by simpa using h2
      have ne := nL i n d k1 a k2
      obtain ⟨w1, w2, w3, w4⟩ := o.w i a n d k1 k2
      exact ⟨fun z => w1 (.inl z), w2.elim .inl fun z => .inr ((back a ne).symm.trans z), fun z => (back a ne).symm.trans (w3 z), w4⟩
  · have ne : a ≠ L := fun z => by rw [z, h0] at e; cases e
    exact o.kp a u ((back a ne).trans e) n
  · have ne : a ≠ L := fun z => by rw [z, h0] at e; cases e
    exact o.tr a u ((back a ne).trans e)
end
end DL

namespace DL
open PySem PySem.Spec PyProof.Rows L2

theorem ptsI {X : Cx} {e : List Expr} {t t' : TT} (h : PTs X e t) (w : ∀ σ H Q, t' σ H Q → t σ H Q) : PTs X e t' := ⟨fun pins s σ H Q I q => h.run pins s σ H Q I (w σ H Q q)⟩
abbrev noE : XK := fun _ _ _ => False
section
variable {X : Cx} {F : Fr} {E : XK} {c : Expr} {A : List Ent → R Bool}
theorem jts_nil : PTs X [] (tT X.K F E fun ρ => .ok true ρ) := ptsI pts_nil fun σ H Q ⟨ρ, T, m, o, p⟩ => p H o
theorem jts_one (h : PT X c (tT X.K F E A)) : PTs X [c] (tT X.K F E A) := pts_one h
end
section
variable {K : PySem.W.Frag} {F : Fr} {E : XK} {T : HT} {σ : L2.St} {Q : VK}
theorem PostE.bindNX {α : Type} {r : R α} {f : α → List Ent → R Kd} (p : PostE K F E T σ Q ((noX r).bind f)) : ∃ a ρ, r = .ok a ρ ∧ PostE K F E T σ Q (f a ρ) := by
  cases r with
  | ok a ρ => exact ⟨a, ρ, rfl, p⟩
  | ex x ρ => exact p.elim
  | bad => exact p.elim
theorem R.bind_assoc {α β γ : Type} (r : R α) (f : α → List Ent → R β) (g : β → List Ent → R γ) : (r.bind f).bind g = r.bind fun a ρ => (f a ρ).bind g := by cases r <;> rfl
/-- the reading of a comprehension -/
theorem tLc_of {Gi : List Ent → R (List D)} {f : D → List Ent → Option (List Ent)} {A : List Ent → R Bool} {G : List Ent → R Kd} {vs js : List Nat} {g : TG} {H : Hp} (ht : TgD K g js f) (hv : ∀ i ∈ js, i ∈ vs) (h : tE K F E (lcR Gi f A G vs) σ H Q) :
    tLc (tI K F E Gi) g (fun σ H Q => ∃ F', tT K F' noE A σ H Q) (fun σ H Q => ∃ F', tE K F' noE (fun ρ => toVa (G ρ)) σ H Q) vs σ H Q := by
  obtain ⟨ρ, T, m, o, p⟩ := h
  refine bdI (pf_E Q) m o p fun J H1 TG ds ρ1 mg wk o1 p1 => ?_
  intro L hL
  have h0 := o1.new_h0 hL
  have hm : ¬ F.M0 L := fun z => o1.m_new hL (.inl z)
  have hm0 := o1.m0
  have hwt := o1.wt
  have p1 : PostE K F E T σ Q ((lcLoop f A G vs ds [] ρ1).bind fun acc ρ2 => .ok (.ow (.lst acc)) (wipeE ρ2 vs)) := p1
  -- entries that are wiped
  have wip : ∀ {F' : Fr} {T' : HT} {H' : Hp} {σ2 : L2.St} {ρ2 : List Ent}, Ok K F' T' H' σ2 ρ2 → Mono T' → Ok K F' T' H' (wipe σ2 vs) (wipeE ρ2 vs) := fun {F' T' H' σ2 ρ2} o2 m2 =>
    o2.sub m2 (by rw [wipe_length, wipeE_len]; exact o2.len) id (fun j e v h1 ne h2 => by
      obtain ⟨k1, k2⟩ := wipeE_get ne h1
      rw [wipe_out k2] at h2
      exact ⟨k1, h2⟩) fun _ _ z => z
  let W : Nat → Nat → Hp → Prop := fun i n H2 => n = ds.length - i ∧ i ≤ ds.length ∧ ∃ (acc : List D) (ρ2 : List Ent) (xs : List V),
    Ok K (frD F L xs) (fun h => (T h ∧ TG h) ∧ RpL K h acc xs) H2 (wipe σ vs) (wipeE ρ2 vs) ∧ PostE K F E T σ Q ((lcLoop f A G vs (ds.drop i) acc ρ2).bind fun acc ρ2 => .ok (.ow (.lst acc)) (wipeE ρ2 vs))
  refine ⟨W, ⟨ds.length, by simp, Nat.zero_le _, [], ρ1, [], ?_, p1⟩, ?_⟩
  · have o2 := wip (o1.enter (L := L) (m.and mg) hL) (m.and mg)
    exact o2.to ⟨o2.t, rfl⟩
  · rintro i n H2 ⟨rfl, hi, acc, ρ2, xs, o2, p2⟩
    have m2 : ∀ {acc : List D} {xs : List V}, Mono fun h => (T h ∧ TG h) ∧ RpL K h acc xs := (m.and mg).and mono_rpl
    by_cases hlt : i < ds.length
    · have hd : ds[i]? = some ds[i] := by simp [hlt]
      rw [List.drop_eq_getElem_cons hlt] at p2
      simp only [lcLoop] at p2
      cases e1 : f ds[i] (wipeE ρ2 vs) with
      | none => rw [e1] at p2; exact p2.elim
      | some ρ3 =>
        rw [e1] at p2
        simp only at p2
        rw [R.bind_assoc] at p2
        refine .inr ⟨wk.go i _ H2 _ hd o2.t.1.2, fun H' => ds.length - (i + 1) < ds.length - i ∧ W (i + 1) (ds.length - (i + 1)) H', fun H' ⟨h1, h2⟩ => ⟨_, h1, h2⟩, fun x H' y => ?_⟩
        have o3 := wk.yld i _ x H2 H' (frD F L xs) (wipe σ vs) (wipeE ρ2 vs) (fun h => T h ∧ RpL K h acc xs) hd (m.and mono_rpl) (o2.weak fun _ z => ⟨⟨z.1.1, z.2⟩, z.1.2⟩) y
        refine ht (frD F L xs) ds[i] x (wipe σ vs) H' (wipeE ρ2 vs) ρ3 (fun h => (T h ∧ TG h) ∧ RpL K h acc xs) _ m2 (o3.weak fun _ z => ⟨⟨⟨z.1.1.1, z.1.2⟩, z.1.1.2⟩, z.2⟩) e1 fun σ4 H4 s4 l4 o4 => ?_
        have hw : wipe σ4 vs = wipe σ vs := by
          have w2 : wipe (wipe σ vs) vs = wipe σ vs := wipe_eq (wipe_length σ vs) fun i hi => wipe_out hi
          exact (wipe_eq l4 fun i hi => s4 i fun z => hi (hv i z)).trans w2
        refine ⟨hw, frD F L xs, ρ3, _, m2, o4, ?_⟩
        obtain ⟨b, ρ5, e5, p5⟩ := p2.bindNX
        rw [e5]
        intro H5 o5
        cases b with
        | false =>
          rw [if_neg Bool.false_ne_true]
          refine ⟨by omega, rfl, hlt, acc, ρ5, xs, ?_, p5⟩
          have := wip o5 m2
          rw [hw] at this
          exact this
        | true =>
          rw [if_pos rfl]
          have p5 : PostE K F E T σ Q (((noX (toVa (G ρ5))).bind fun k ρ3 => match k with
            | .va e => if acc.length < big then lcLoop f A G vs (ds.drop (i + 1)) (acc ++ [e]) ρ3 else .bad
            | _ => .bad).bind fun acc ρ2 => .ok (.ow (.lst acc)) (wipeE ρ2 vs)) := p5
          rw [R.bind_assoc] at p5
          obtain ⟨k, ρ6, e6, p6⟩ := p5.bindNX
          refine ⟨frD F L xs, ρ5, _, m2, o5, ?_⟩
          show PostE K (frD F L xs) noE _ σ4 _ (toVa (G ρ5))
          rw [e6]
          cases k with
          | ow d => exact p6.elim
          | al j => exact p6.elim
          | va d =>
            intro w H6 o6
            have p6 : PostE K F E T σ Q ((if acc.length < big then lcLoop f A G vs (ds.drop (i + 1)) (acc ++ [d]) ρ6 else .bad).bind fun acc ρ2 => .ok (.ow (.lst acc)) (wipeE ρ2 vs)) := p6
            split at p6
            · rename_i hz
              have hx : xs.length = acc.length := o6.t.1.2.len
              refine ⟨xs, o6.at_L, big_lt (by rw [hx]; exact hz), by omega, rfl, hlt, acc ++ [d], ρ6, xs ++ [w], ?_, p6⟩
              have o7 := (o6.weak (U := fun h => (T h ∧ TG h) ∧ RpL K h (acc ++ [d]) (xs ++ [w])) fun _ z => ⟨z.1.1, z.1.2.append (RpL.one z.2)⟩).turn (ys := xs ++ [w]) m2
              have := wip o7 m2
              rw [hw] at this
              exact this
            · exact p6.elim
    · have e : i = ds.length := by omega
      subst e
      rw [List.drop_length] at p2
      refine .inl ⟨wk.stop H2 _ o2.t.1.2, ?_⟩
      have o3 := o2.leave m2 o2.t.2 h0 hm hm0 hwt
      refine p2 _ H2 ((o3.weak fun _ z => z.1.1).sub m (by rw [List.length_cons, List.length_cons, wipeE_len]; have := o2.len; rw [wipe_length, wipeE_len] at this; rw [this]) id (fun j e v h1 ne h2 => ?_) fun _ _ z => z)
      cases j with
      | zero => exact ⟨h1, h2⟩
      | succ j =>
        have h1 : (wipeE ρ2 vs)[j]? = some e := by simpa using h1
        have h2 : σ[j]? = some v := by simpa using h2
        obtain ⟨k1, k2⟩ := wipeE_get ne h1
        exact ⟨by simpa using h1, by show (wipe σ vs)[j]? = some v; rw [wipe_out k2]; exact h2⟩
end
section
variable {X : Cx} {F : Fr} {E : XK} {elt tg iter : Expr} {ifs : List Expr} {scope : Scope} {own : List (Str × Nat)} {pos : Pos} {g : TG} {Gi : List Ent → R (List D)} {f : D → List Ent → Option (List Ent)} {A : List Ent → R Bool} {G : List Ent → R Kd} {js : List Nat}
theorem PE.union {e : Expr} {G : List Ent → R Kd} (h : ∀ F', PE X e (tE X.K F' E G)) : PE X e (fun σ H Q => ∃ F', tE X.K F' E G σ H Q) := ⟨fun pins s σ H Q I ⟨F', q⟩ => (h F').run pins s σ H Q I q⟩
theorem PTs.union {e : List Expr} {A : List Ent → R Bool} (h : ∀ F', PTs X e (tT X.K F' E A)) : PTs X e (fun σ H Q => ∃ F', tT X.K F' E A σ H Q) := ⟨fun pins s σ H Q I ⟨F', q⟩ => (h F').run pins s σ H Q I q⟩
theorem je_lc (hc : X.calm = true) (hN : X.N.Nodup) (hi : PI X tg iter (tI X.K F E Gi)) (ok : BlkOk X.N X.env.scope scope own)
    (hg : ∀ (s : Shared) (H : Hp) (C : Addr) (cl : List (Str × Addr)) (fp : List Addr), PG (X.blk s H scope (compEnvC scope cl C X.env) fp) tg g) (ht : TgD X.K g js f) (hv : ∀ i ∈ js, i ∈ own.map (·.2))
    (hA : ∀ (s : Shared) (H : Hp) (C : Addr) (cl : List (Str × Addr)) (fp : List Addr) (F' : Fr), PTs (X.blk s H scope (compEnvC scope cl C X.env) fp) ifs (tT X.K F' noE A))
    (hG : ∀ (s : Shared) (H : Hp) (C : Addr) (cl : List (Str × Addr)) (fp : List Addr) (F' : Fr), PE (X.blk s H scope (compEnvC scope cl C X.env) fp) elt (tE X.K F' noE G)) (hs : ∀ x, foldedSetIterable iter X.env x = pure x := by intro _; rfl) :
    PE X (.ListComp elt [⟨tg, iter, ifs, 0⟩] scope pos) (tE X.K F E (lcR Gi f A G (own.map (·.2)))) :=
  peI (pe_lc hc hN hi ok hg (fun s H C cl fp => PTs.union (X := X.blk s H scope (compEnvC scope cl C X.env) fp) fun F' => hA s H C cl fp F') (fun s H C cl fp => PE.union (X := X.blk s H scope (compEnvC scope cl C X.env) fp) fun F' => je_toVa (X := X.blk s H scope (compEnvC scope cl C X.env) fp) (hG s H C cl fp F')) hs) fun σ H Q h => tLc_of ht hv h
theorem tAsg_va {K : PySem.W.Frag} {i : Nat} {te : TE} {G : List Ent → R Kd} (w : ∀ σ H Q, tE K F E G σ H Q → te σ H Q) {D : Ends} {σ : L2.St} {H : Hp} (h : tS K F E (setR i G) D σ H) : tAsg te (gName i) D σ H := by
  obtain ⟨ρ, T, m, o, p⟩ := h
  refine w σ H _ ?_
  obtain ⟨ρ', T', m', o', p'⟩ := bdV (Q2 := fun x H1 => D.nx (σ.set i (some x)) H1) (pf_S D) m o p fun x H1 d ρ1 o1 p1 => p1 _ H1 (o1.setVa m)
  refine ⟨ρ', T', m', o', ?_⟩
  have p' : PostE K F E T' σ (fun x H1 => D.nx (σ.set i (some x)) H1) (toVa (G ρ')) := p'
  cases r : G ρ' with
  | ok k ρ2 =>
    rw [r] at p'
    cases k with
    | ow d => exact fun v H' o' => p' v H' (o'.freezeHd m')
    | va d => exact p'
    | al j =>
      intro v H' o2
      have hv : σ[j]? = some (some v) := o2.t.2
      have p' : PostE K F E T' σ (fun x H1 => D.nx (σ.set i (some x)) H1) (match ρ2[j]? with
        | some (.ow _ d) => .ok (.va d) (ρ2.set j (.va d))
        | some (.va d) => .ok (.va d) ρ2
        | _ => .bad) := p'
      split at p'
      · rename_i d q
        exact p' v H' ((o2.freeze (m'.and mono_kat) q hv).weak fun _ z => ⟨z.1.1, z.2⟩)
      · rename_i d q
        obtain ⟨v', h1, h2⟩ := o2.va q
        rw [hv] at h1
        cases h1
        exact p' v H' (o2.to ⟨o2.t.1, h2⟩)
      · exact p'.elim
  | ex x ρ2 => rw [r] at p'; exact p'
  | bad => rw [r] at p'; exact p'.elim
theorem tAsg_ow {K : PySem.W.Frag} {i : Nat} {te : TE} {G : List Ent → R Kd} (w : ∀ σ H Q, tE K F E G σ H Q → te σ H Q) {D : Ends} {σ : L2.St} {H : Hp} (h : tS K F E (setO i G) D σ H) : tAsg te (gName i) D σ H := by
  obtain ⟨ρ, T, m, o, p⟩ := h
  refine w σ H _ ⟨ρ, T, m, o, ?_⟩
  have p : PostS K F E T σ D ((G ρ).bind fun k ρ1 => match k with
    | .ow d => .ok .nx (ρ1.set i (.ow none d))
    | _ => .bad) := p
  cases q : G ρ with
  | ok k ρ1 =>
    rw [q] at p
    cases k with
    | ow d => exact fun v H' o' => p _ H' (o'.setHd m)
    | va d => exact p.elim
    | al j => exact p.elim
  | ex x ρ1 => rw [q] at p; exact fun d H' o' => p d σ H' o'
  | bad => rw [q] at p; exact p.elim
/-- y = [..], y's slot not owning -/
theorem js_setLc {i : Nat} {y : Str} {py spos : Pos} (hc : X.calm = true) (hN : X.N.Nodup) (hsw : swapsWith (.ListComp elt [⟨tg, iter, ifs, 0⟩] scope pos) (some (.Name y py)) spos.line X.env = pure true) (hi : PI X tg iter (tI X.K F E Gi)) (ok : BlkOk X.N X.env.scope scope own)
    (hg : ∀ (s : Shared) (H : Hp) (C : Addr) (cl : List (Str × Addr)) (fp : List Addr), PG (X.blk s H scope (compEnvC scope cl C X.env) fp) tg g) (ht : TgD X.K g js f) (hv : ∀ i ∈ js, i ∈ own.map (·.2))
    (hA : ∀ (s : Shared) (H : Hp) (C : Addr) (cl : List (Str × Addr)) (fp : List Addr) (F' : Fr), PTs (X.blk s H scope (compEnvC scope cl C X.env) fp) ifs (tT X.K F' noE A))
    (hG : ∀ (s : Shared) (H : Hp) (C : Addr) (cl : List (Str × Addr)) (fp : List Addr) (F' : Fr), PE (X.blk s H scope (compEnvC scope cl C X.env) fp) elt (tE X.K F' noE G)) (hy : X.N[i]? = some y := by rfl) (hyl : X.env.scope.names.lookup y = some .local := by rfl) (hs : ∀ x, foldedSetIterable iter X.env x = pure x := by intro _; rfl) :
    PS X (.Assign [.Name y py] (.ListComp elt [⟨tg, iter, ifs, 0⟩] scope pos) spos) (tS X.K F E (setR i (lcR Gi f A G (own.map (·.2))))) :=
  psI (ps_setLc hc hN hy hyl hsw hi ok hg (fun s H C cl fp => PTs.union (X := X.blk s H scope (compEnvC scope cl C X.env) fp) fun F' => hA s H C cl fp F') (fun s H C cl fp => PE.union (X := X.blk s H scope (compEnvC scope cl C X.env) fp) fun F' => je_toVa (X := X.blk s H scope (compEnvC scope cl C X.env) fp) (hG s H C cl fp F')) hs)
    fun D σ H h => tAsg_va (fun _ _ _ h => tLc_of ht hv h) h
theorem js_setLcO {i : Nat} {y : Str} {py spos : Pos} (hc : X.calm = true) (hN : X.N.Nodup) (hsw : swapsWith (.ListComp elt [⟨tg, iter, ifs, 0⟩] scope pos) (some (.Name y py)) spos.line X.env = pure true) (hi : PI X tg iter (tI X.K F E Gi)) (ok : BlkOk X.N X.env.scope scope own)
    (hg : ∀ (s : Shared) (H : Hp) (C : Addr) (cl : List (Str × Addr)) (fp : List Addr), PG (X.blk s H scope (compEnvC scope cl C X.env) fp) tg g) (ht : TgD X.K g js f) (hv : ∀ i ∈ js, i ∈ own.map (·.2))
    (hA : ∀ (s : Shared) (H : Hp) (C : Addr) (cl : List (Str × Addr)) (fp : List Addr) (F' : Fr), PTs (X.blk s H scope (compEnvC scope cl C X.env) fp) ifs (tT X.K F' noE A))
    (hG : ∀ (s : Shared) (H : Hp) (C : Addr) (cl : List (Str × Addr)) (fp : List Addr) (F' : Fr), PE (X.blk s H scope (compEnvC scope cl C X.env) fp) elt (tE X.K F' noE G)) (hy : X.N[i]? = some y := by rfl) (hyl : X.env.scope.names.lookup y = some .local := by rfl) (hs : ∀ x, foldedSetIterable iter X.env x = pure x := by intro _; rfl) :
    PS X (.Assign [.Name y py] (.ListComp elt [⟨tg, iter, ifs, 0⟩] scope pos) spos) (tS X.K F E (setO i (lcR Gi f A G (own.map (·.2))))) :=
  psI (ps_setLc hc hN hy hyl hsw hi ok hg (fun s H C cl fp => PTs.union (X := X.blk s H scope (compEnvC scope cl C X.env) fp) fun F' => hA s H C cl fp F') (fun s H C cl fp => PE.union (X := X.blk s H scope (compEnvC scope cl C X.env) fp) fun F' => je_toVa (X := X.blk s H scope (compEnvC scope cl C X.env) fp) (hG s H C cl fp F')) hs)
    fun D σ H h => tAsg_ow (fun _ _ _ h => tLc_of ht hv h) h
end
end DL

namespace DL
open PySem PySem.Spec PyProof.Rows L2

/-! ### a def -/
def ownP (n : Nat) (ρ : List Ent) : List Ent := (List.range n).map fun j => match ρ[j]? with
  | some (Ent.ow (some k) d) => if k = j then Ent.ow (some j) d else .no
  | _ => Ent.no
def fin (n : Nat) : R Fl → R Kd
  | .ok .nx ρ => .ok (.va .non) (ownP n ρ)
  | .ok (.rt (.va d)) ρ => .ok (.va d) (ownP n ρ)
  | .ok (.rt (.ow d)) ρ => .ok (.ow d) (ownP n ρ)
  | .ex x ρ => .ex x (ownP n ρ)
  | _ => .bad
section
variable {K : PySem.W.Frag} {F : Fr} {E : XK} {T : HT} {H : Hp} {σ vs : List (Option V)} {ρ es : List Ent}
theorem ownP_get {n j : Nat} {e : Ent} (h : (ownP n ρ)[j]? = some e) (ne : e ≠ .no) : ∃ d, e = .ow (some j) d ∧ ρ[j]? = some (.ow (some j) d) := by
  unfold ownP at h
  rw [List.getElem?_map] at h
  cases q : (List.range n)[j]? with
  | none => rw [q] at h; cases h
  | some j' =>
    have hj : j' = j := by
      have := List.getElem?_eq_some_iff.mp q
      simp at this
      exact this.2.symm
    subst hj
    rw [q] at h
    have h : (match ρ[j']? with
      | some (.ow (some k) d) => if k = j' then Ent.ow (some j') d else .no
      | _ => .no) = e := Option.some.inj h
    split at h
    · rename_i k d q2
      by_cases hk : k = j'
      · subst hk
        rw [if_pos rfl] at h
        exact ⟨d, h.symm, q2⟩
      · rw [if_neg hk] at h
        exact absurd h.symm ne
    · exact absurd h.symm ne
theorem ownP_len {n : Nat} : (ownP n ρ).length = n := by unfold ownP; simp
theorem Ok.close {n : Nat} (o : Ok K F T H σ ρ) (m : Mono T) (hn : F.ps.length = n) : Ok K F T H (F.ps.map some) (ownP n ρ) :=
  o.sub m (by rw [List.length_map, ownP_len, hn]) id (fun j e v h1 ne h2 => by
    obtain ⟨d, e1, q⟩ := ownP_get h1 ne
    subst e1
    refine ⟨q, ?_⟩
    obtain ⟨a, h3, _⟩ := o.own q
    have h4 := (o.w j a (some j) d q h3).2.2.2 j rfl
    rw [List.getElem?_map, h4] at h2
    cases h2
    exact h3) fun _ _ z => z
theorem Ok.closeHd {n : Nat} {v : V} {d : D} (o : Ok K F T H (some v :: σ) (.ow none d :: ρ)) (m : Mono T) (hn : F.ps.length = n) : Ok K F T H (some v :: F.ps.map some) (.ow none d :: ownP n ρ) :=
  o.sub m (by rw [List.length_cons, List.length_cons, List.length_map, ownP_len, hn]) id (fun j e u h1 ne h2 => by
    cases j with
    | zero => exact ⟨h1, h2⟩
    | succ j =>
      obtain ⟨d', e1, q⟩ := ownP_get (show (ownP n ρ)[j]? = some e by simpa using h1) ne
      subst e1
      have q' : (Ent.ow none d :: ρ)[j + 1]? = some (.ow (some j) d') := by simpa using q
      refine ⟨q', ?_⟩
      obtain ⟨a, h3, _⟩ := o.own q'
      have h4 := (o.w (j + 1) a (some j) d' q' h3).2.2.2 j rfl
      have h2 : (F.ps.map some)[j]? = some u := by simpa using h2
      rw [List.getElem?_map, h4] at h2
      cases h2
      exact h3) fun _ _ z => z
theorem Ok.extd (o : Ok K F T H vs es) (m : Mono T) (k : Nat) : Ok K F T H (vs ++ List.replicate k none) (es ++ List.replicate k .no) :=
  o.sub m (by simp [o.len]) id (fun j e v h1 ne h2 => by
    have hj : j < es.length := by
      refine Nat.lt_of_not_le fun hle => ne ?_
      rw [List.getElem?_append_right hle] at h1
      have := List.getElem?_eq_some_iff.mp h1
      simp at this
      exact this.2.symm
    rw [List.getElem?_append_left hj] at h1
    rw [List.getElem?_append_left (by rw [o.len]; exact hj)] at h2
    exact ⟨h1, h2⟩) fun _ _ z => z
/-- what a body's end asks, by what the def's end asks -/
theorem postS_fin {n : Nat} {Q : VK} {r : R Fl} (hn : F.ps.length = n) (m : Mono T) (p : PostE K F E T (F.ps.map some) Q (fin n r)) : PostS K F E T σ { nx := fun _ H' => Q .non H', rt := Q } r := by
  cases r with
  | bad => exact p.elim
  | ex x ρ => exact fun d σ' H' o => p d H' (o.close (m.and mono_ext) hn)
  | ok fl ρ =>
    cases fl with
    | nx => exact fun σ' H' o => p .non H' ((o.close m hn).to ⟨(o.close m hn).t, rfl⟩)
    | bk => exact p.elim
    | ct => exact p.elim
    | rt k =>
      cases k with
      | va d => exact fun v σ' H' o => p v H' (o.close (m.and mono_rp) hn)
      | ow d => exact fun v σ' H' o => p v H' (o.closeHd m hn)
      | al j => exact p.elim
end
section
variable {P : Program} {w : World} {K : PySem.W.Frag} {mg : Str → Option Value} {base : Heap}
theorem pass_cx {N : List Str} {qual : Str} {sc : Scope} {f : Addr} {cdv : Value} {A : Around} {outer : List Env} {s : Shared} {H : Hp} {E : XK} : Passes (L2.CX P w) (cxOf (L2.CX P w) P w K mg base N qual sc f cdv A outer s H E) E :=
  passes_call (takes_of rfl rfl rfl rfl) fun _ _ _ _ z => z
/-- THE RULE for a def -/
theorem jf_ok {x qual : Str} {st : Stmt} {f : Addr} {fd : FuncData} {N ps : List Str} {k n : Nat} {G : List Ent → R Fl} {Gf : List Ent → R Kd} (F : Fun K x qual st f fd) (S : FnScope N ps (defScope st)) (hn : ps.length = n)
    (body : ∀ (cdv : Value) (A : Around) (outer : List Env) (s : Shared) (H : Hp) (E : XK) (Fm : Fr), Room k (A.deeper (envOfC qual (defScope st) s.heap.objs.size f cdv)) → PSs (cxOf (L2.CX P w) P w K mg base N qual (defScope st) f cdv A outer s H E) (defBody st) (tS K Fm E G))
    (eq : ∀ es, es.length = n → Gf es ≠ .bad → fin n (G (es ++ List.replicate (N.length - n) .no)) = Gf es) : FnOk P w K mg base (L2.CX P w) (k + 1) f fd ps (spD K n Gf) :=
  F.okX S (fun vs H Q E h => by rw [h.1, hn]) fun cdv A outer s H vs Q E hr ⟨hl, Fm, es, T, h0, hps, m, o, p⟩ => by
    refine ⟨_, body cdv A outer s H E Fm hr, es ++ List.replicate (N.length - n) .no, T, m, ?_, ?_⟩
    · unfold L2.start
      rw [hl]
      exact o.extd m _
    · subst hps
      refine postS_fin hl m ?_
      have he : es.length = n := by rw [← o.len, List.length_map, hl]
      have hb : Gf es ≠ .bad := fun z => by rw [z] at p; exact p
      rw [eq es he hb]
      exact p
end
end DL

namespace DL
open PySem PySem.Spec PyProof.Rows L2

/-! ### isinstance against built-in types -/
inductive Ty where
  | bool | int | str | list | tuple | dict
def Ty.nm : Ty → String
  | .bool => "bool" | .int => "int" | .str => "str" | .list => "list" | .tuple => "tuple" | .dict => "dict"
inductive Tg where
  | non | bool | int | str | list | tuple | dict
def Tg.nm : Tg → String
  | .non => "NoneType" | .bool => "bool" | .int => "int" | .str => "str" | .list => "list" | .tuple => "tuple" | .dict => "dict"
def tag : D → Option Tg
  | .non => some .non | .bl _ => some .bool | .int _ => some .int | .str _ => some .str | .lst _ => some .list | .tup _ => some .tuple | .dic _ => some .dict | .ins _ _ => none | .scr _ => some .list | .prs _ => none
def isTg : Tg → Ty → Bool
  | .bool, .bool => true | .bool, .int => true | .int, .int => true | .str, .str => true | .list, .list => true | .tuple, .tuple => true | .dict, .dict => true | _, _ => false
theorem kit_all : ∀ (g : Tg) (t : Ty), kitB g.nm t.nm = some (isTg g t)
  | .non, .bool | .non, .int | .non, .str | .non, .list | .non, .tuple | .non, .dict | .bool, .bool | .bool, .int | .bool, .str | .bool, .list | .bool, .tuple | .bool, .dict
  | .int, .bool | .int, .int | .int, .str | .int, .list | .int, .tuple | .int, .dict | .str, .bool | .str, .int | .str, .str | .str, .list | .str, .tuple | .str, .dict
  | .list, .bool | .list, .int | .list, .str | .list, .list | .list, .tuple | .list, .dict | .tuple, .bool | .tuple, .int | .tuple, .str | .tuple, .list | .tuple, .tuple | .tuple, .dict
  | .dict, .bool | .dict, .int | .dict, .str | .dict, .list | .dict, .tuple | .dict, .dict => by decide +kernel
theorem tyX_of {K : PySem.W.Frag} {H : Hp} {d : D} {v : V} {g : Tg} (h : tag d = some g) (r : Rp K H d v) : TyX K H v (.type g.nm) := by
  cases d with
  | non => cases h; rw [show v = .non from r]; exact .base .non
  | bl b => cases h; rw [show v = .bl b from r]; exact .base (.bl b)
  | int b => cases h; rw [show v = .int b from r]; exact .base (.int b)
  | str b => cases h; rw [show v = .str b from r]; exact .base (.str b)
  | lst b => cases h; obtain ⟨a, xs, e, h2, _⟩ := r; rw [e]; exact .base (.lst h2)
  | tup b =>
    cases h
    obtain ⟨a, xs, e, h2, _⟩ := r
    rw [e]
    rcases h2.sq with (h2 | ⟨o, h2⟩) | ⟨o, its, n, hk, hc, _⟩
    · exact .base (.tup h2)
    · exact .fTuple h2
    · exact .kTuple hk hc
  | dic b => cases h; obtain ⟨a, xs, e, h2, _⟩ := r; rw [e]; exact .base (.dK h2)
  | scr ns =>
    cases h
    obtain ⟨a, e, h2⟩ := r
    rw [e]
    rcases h2 with (h2 | ⟨o, h2⟩) | ⟨o, its, n, hk, hc, _⟩
    · exact .base (.lst h2)
    · exact .base (.frz h2)
    · exact .kList hk hc
  | ins _ _ => cases h
  | prs _ => cases h
def isiR (ts : List Ty) (G : List Ent → R Kd) (ρ : List Ent) : R Kd := (fz (G ρ)).bind fun k ρ1 => match cont ρ1 k with
  | some d => match tag d with
    | some g => .ok (.va (.bl (ts.any (isTg g)))) ρ1
    | none => .bad
  | none => .bad
section
variable {X : Cx} {F : Fr} {E : XK} {e : Expr} {p pos p1 p2 p3 p4 : Pos} {G : List Ent → R Kd}
theorem kitAny_tys {K : PySem.W.Frag} {g : Tg} : ∀ ts : List Ty, PySem.W.kitAny K (.type g.nm) (ts.map fun t => Value.type t.nm) = some (ts.any (isTg g))
  | [] => rfl
  | t :: ts => kitAny_cons (b := isTg g t) (r := (t :: ts).any (isTg g)) (kit_ty (kit_all g t)) (fun hb => by rw [List.any_cons, hb, Bool.false_or]; exact kitAny_tys ts) fun hb => by rw [List.any_cons, hb, Bool.true_or]
theorem je_isi (t : Ty) {x : Str} (hx : x = Str.ofString t.nm) (hg : Gl X "isinstance") (hm : X.mg "isinstance" = none) (hgx : Gl X x) (hmx : X.mg x = none) (hv : bootBuiltins x = some (.type t.nm)) (he : PE X e (tE X.K F E G)) (hn : x ≠ "__name__" := by decide) (hd : (x == ("__debug__" : Str)) = false := by decide)
    (hs : starEach [e, .Name x p1] X.env = (false, eval e X.env) :: starEach [.Name x p1] X.env := by rfl) (hs2 : starEach [.Name x p1] X.env = (false, eval (.Name x p1) X.env) :: starEach [] X.env := by rfl) (hpl : (backTo pos (starEach [.Name x p1] X.env)).any (·.1) = false := by rfl) :
    PE X (.Call (.Name "isinstance" p) [e, .Name x p1] [] pos) (tE X.K F E (isiR [t] G)) :=
  peI (pe_callB call_isi hg hm boot_isinstance (pa_cons (je_fz he) (pa_cons (pe_bltn (v := .ty t.nm) hgx hmx hv rfl hn hd) pa_nil hs2) hs) (by decide) (by decide) hs hpl) fun σ H Q ⟨ρ, T, m, o, q⟩ => bdE (pf_E Q) m o q fun v H1 k ρ1 o1 q1 => by
    split at q1
    · rename_i d c
      split at q1
      · rename_i n hn
        exact ⟨v, .ty t.nm, .type n.nm, .type t.nm, _, rfl, .ty _, tyX_of hn ((kat_top o1 c).full wo_le), kit_ty (kit_all n t), q1 _ H1 (o1.to ⟨o1.t.1, by rw [List.any_cons, List.any_nil, Bool.or_false]; rfl⟩)⟩
      · exact q1.elim
    · exact q1.elim
theorem je_isi2 (t u : Ty) {x y : Str} (hx : x = Str.ofString t.nm) (hy : y = Str.ofString u.nm) (hg : Gl X "isinstance") (hm : X.mg "isinstance" = none) (hgx : Gl X x) (hmx : X.mg x = none) (hv : bootBuiltins x = some (.type t.nm)) (hgy : Gl X y) (hmy : X.mg y = none) (hvy : bootBuiltins y = some (.type u.nm))
    (he : PE X e (tE X.K F E G)) {kk : Nat} (hn : x ≠ "__name__" := by decide) (hd : (x == ("__debug__" : Str)) = false := by decide) (hn2 : y ≠ "__name__" := by decide) (hd2 : (y == ("__debug__" : Str)) = false := by decide)
    (hs : starEach [e, .Tuple [.Name x p1, .Name y p2] kk p3] X.env = (false, eval e X.env) :: starEach [.Tuple [.Name x p1, .Name y p2] kk p3] X.env := by rfl) (hs2 : starEach [.Tuple [.Name x p1, .Name y p2] kk p3] X.env = (false, eval (.Tuple [.Name x p1, .Name y p2] kk p3) X.env) :: starEach [] X.env := by rfl)
    (hs3 : starEach [.Name x p1, .Name y p2] X.env = (false, eval (.Name x p1) X.env) :: starEach [.Name y p2] X.env := by rfl) (hs4 : starEach [.Name y p2] X.env = (false, eval (.Name y p2) X.env) :: starEach [] X.env := by rfl)
    (hpl : (backTo pos (starEach [.Tuple [.Name x p1, .Name y p2] kk p3] X.env)).any (·.1) = false := by rfl) :
    PE X (.Call (.Name "isinstance" p) [e, .Tuple [.Name x p1, .Name y p2] kk p3] [] pos) (tE X.K F E (isiR [t, u] G)) :=
  peI (pe_callB call_isiT hg hm boot_isinstance (pa_cons (je_fz he) (pa_cons (pe_tup (pa_cons (pe_bltn (v := .ty t.nm) hgx hmx hv rfl hn hd) (pa_cons (pe_bltn (v := .ty u.nm) hgy hmy hvy rfl hn2 hd2) pa_nil hs4) hs3)) pa_nil hs2) hs) (by decide) (by decide) hs hpl) fun σ H Q ⟨ρ, T, m, o, q⟩ => bdE (pf_E Q) m o q fun v H1 k ρ1 o1 q1 => by
    split at q1
    · rename_i d c
      split at q1
      · rename_i n hn
        refine ⟨by show 2 ≤ sizeLine; decide, fun tp htp => ?_⟩
        obtain ⟨o2, s2, h2⟩ := o1.new (o := .tup [.ty t.nm, .ty u.nm]) (m.and mono_kat) htp
        have o2 := o2.weak (U := fun h => T h ∧ KAt X.K σ h k v) fun _ z => z
        exact ⟨v, tp, [.ty t.nm, .ty u.nm], .type n.nm, [.type t.nm, .type u.nm], _, rfl, upd_same, .cons (.ty _) (.cons (.ty _) .nil), tyX_of hn ((kat_top o2 c).full wo_le), kitAny_tys [t, u], q1 _ _ (o2.to ⟨o2.t.1, rfl⟩)⟩
      · exact q1.elim
    · exact q1.elim
end
/-! ### math.isqrt -/
def rIsqrt : List V → Hp → VK → Prop := fun vs H Q => ∃ a : Int, vs = [.int a] ∧ 0 ≤ a ∧ a < 2 ^ 64 ∧ Q (.int ((Float64.isqrt a.toNat : Nat) : Int)) H
theorem cr_isqrt {X : Cx} : CallR X (.builtin "math.isqrt") rIsqrt := by
  intro pins s σ H vs us Q I r h
  obtain ⟨a, rfl, h0, h1, q⟩ := h
  obtain ⟨u, rfl, t, rfl⟩ := vals1 r
  exact PySem.W.mg_isqrt h0 h1 ⟨.int _, H, I.tok _, ⟨_, rfl⟩, q⟩
def isqrtD : List D → Option Out
  | [.int a] => if 0 ≤ a ∧ a < 2 ^ 64 then some (.same (.int ((Float64.isqrt a.toNat : Nat) : Int))) else none
  | _ => none
theorem snd_isqrt {K : PySem.W.Frag} : SndC K rIsqrt isqrtD := by
  intro Hm H xs ds Q out sm r hg post
  unfold isqrtD at hg
  split at hg
  · split at hg
    · rename_i a hc
      cases hg
      obtain ⟨y, ys, h1, h2, h3⟩ := r
      exact ⟨a, by rw [h1, show ys = [] from h3, show y = _ from h2], hc.1, hc.2, post _ rfl⟩
    · cases hg
  · cases hg
section
variable {X : Cx} {F : Fr} {E : XK} {e : Expr} {es : List Expr} {x : Str} {p pos : Pos} {id : String} {r : List V → Hp → VK → Prop} {g : List D → Option Out} {GA : List Ent → R (List Kd)}
theorem je_callBf (hc : CallR X (.builtin id) r) (s : SndC X.K r g) (hg : Gl X x) (hm : X.mg x = some (.builtin id)) (ha : PA X (e :: es) (tA X.K F E GA)) (hdb : (x == ("__debug__" : Str)) = false := by decide)
    (he : starEach (e :: es) X.env = (false, eval e X.env) :: starEach es X.env := by rfl) (hpl : (backTo pos (starEach es X.env)).any (·.1) = false := by rfl) : PE X (.Call (.Name x p) (e :: es) [] pos) (tE X.K F E (callR g GA)) :=
  peI (pe_callBfun hc hg hm ha hdb he hpl) fun _ _ _ h => tCB_of s h
end
/-! ### instances -/
theorem RpF.look {K : PySem.W.Frag} {H : Hp} {f : Str} : ∀ {gs : List (Str × D)} {fs : List (Str × V)}, RpF K H gs fs → (∀ d, gs.lookup f = some d → ∃ v, fs.lookup f = some v ∧ Rp K H d v) ∧ (gs.lookup f = none → fs.lookup f = none)
  | [], fs, h => by
    rw [show fs = [] from h]
    exact ⟨(fun d q => nomatch q), fun _ => rfl⟩
  | (g, d) :: gs, fs, ⟨y, ys, h1, h2, h3⟩ => by
    rw [h1]
    have ih := RpF.look (f := f) h3
    simp only [List.lookup]
    cases q : f == g with
    | true => exact ⟨fun d' e => by cases e; exact ⟨y, rfl, h2⟩, fun e => by cases e⟩
    | false => exact ih
theorem RpF.len {K : PySem.W.Frag} {H : Hp} : ∀ {gs : List (Str × D)} {fs : List (Str × V)}, RpF K H gs fs → fs.length = gs.length
  | [], fs, h => by rw [show fs = [] from h]; rfl
  | (g, d) :: gs, fs, ⟨y, ys, h1, h2, h3⟩ => by rw [h1, List.length_cons, List.length_cons, RpF.len h3]
def putD (f : Str) (d : D) : List (Str × D) → List (Str × D)
  | [] => [(f, d)]
  | (g, e) :: r => if g = f then (g, d) :: r else (g, e) :: putD f d r
def fldR (C : Addr) (f : Str) (G : List Ent → R Kd) (ρ : List Ent) : R Kd := (fz (G ρ)).bind fun k ρ1 => match cont ρ1 k with
  | some (.ins C' gs) => if C' = C then match gs.lookup f with
    | some d => .ok (.va d) ρ1
    | none => .bad
    else .bad
  | _ => .bad
section
variable {X : Cx} {F : Fr} {E : XK} {e o : Expr} {es : List Expr} {pos apos p2 : Pos} {f m : Str} {C : Addr} {G Gx : List Ent → R Kd} {GA : List Ent → R (List Kd)}
theorem je_fld (c : Cls X.K C) (n : NoAttr X.K C f) (he : PE X e (tE X.K F E G)) (hb : attributeBase e f X.env (eval e X.env) = eval e X.env := by rfl) : PE X (.Attribute e f pos) (tE X.K F E (fldR C f G)) :=
  peI (pe_fld (je_fz he) hb) fun σ H Q ⟨ρ, T, m, o, q⟩ => bdE (pf_E Q) m o q fun v H1 k ρ1 o1 q1 => by
    split at q1
    · rename_i C' gs hc
      split at q1
      · rename_i hC
        subst hC
        obtain ⟨a, dx, fs, e1, e2, e3⟩ := kat_top o1 hc
        cases q2 : gs.lookup f with
        | none => rw [q2] at q1; exact q1.elim
        | some d =>
          rw [q2] at q1
          obtain ⟨w, h1, r⟩ := e3.look.1 d q2
          exact ⟨a, C', dx, fs, w, e1, e2, c, n, h1, q1 w H1 (o1.to ⟨o1.t.1, r⟩)⟩
      · exact q1.elim
    · exact q1.elim
/-! self.f = e of a slot's own instance -/
def setF (C : Addr) (f : Str) (Gx G : List Ent → R Kd) (ρ : List Ent) : R Fl := (toVa (G ρ)).bind fun k ρ0 => match k with
  | .va d => (Gx ρ0).bind fun kx ρ1 => match kx with
    | .al i => match ρ1[i]? with
      | some (.ow n (.ins C' gs)) => if C' = C ∧ gs.length < 900 then .ok .nx (ρ1.set i (.ow n (.ins C (putD f d gs)))) else .bad
      | _ => .bad
    | _ => .bad
  | _ => .bad
theorem RpF.put {K : PySem.W.Frag} {H : Hp} {f : Str} {d : D} {v : V} (r : Rp K H d v) : ∀ {gs : List (Str × D)} {fs : List (Str × V)}, RpF K H gs fs → RpF K H (putD f d gs) (putF f v fs)
  | [], fs, h => by rw [show fs = [] from h]; exact ⟨v, [], rfl, r, rfl⟩
  | (g, e) :: gs, fs, ⟨y, ys, h1, h2, h3⟩ => by
    rw [h1]
    show RpF K H (if g = f then (g, d) :: gs else (g, e) :: putD f d gs) (if g = f then (g, v) :: ys else (g, y) :: putF f v ys)
    by_cases hg : g = f
    · rw [if_pos hg, if_pos hg]
      exact ⟨v, ys, rfl, r, h3⟩
    · rw [if_neg hg, if_neg hg]
      exact ⟨y, putF f v ys, rfl, h2, RpF.put r h3⟩
theorem js_setF (c : Cls X.K C) (nf : NoAttr X.K C f) (ho : PE X o (tE X.K F E Gx)) (he : PE X e (tE X.K F E G)) (hs : swapsWith e (some (.Attribute o f p2)) pos.line X.env = pure false := by rfl) : PS X (.Assign [.Attribute o f p2] e pos) (tS X.K F E (setF C f Gx G)) :=
  psI (ps_fld ho (je_toVa he) hs) fun D σ H ⟨ρ, T, m, o, p⟩ => bdV (pf_S D) m o p fun x H1 d ρ0 o0 p0 => by
    have m0 : Mono fun h => T h ∧ Rp X.K h d x := m.and mono_rp
    have p0 : PostS X.K F E T σ D ((Gx ρ0).bind fun kx ρ1 => match kx with
      | .al i => match ρ1[i]? with
        | some (.ow n (.ins C' gs)) => if C' = C ∧ gs.length < 900 then .ok .nx (ρ1.set i (.ow n (.ins C (putD f d gs)))) else .bad
        | _ => .bad
      | _ => .bad) := p0
    refine ⟨ρ0, _, m0, o0, ?_⟩
    cases q : Gx ρ0 with
    | bad => rw [q] at p0; exact p0.elim
    | ex y ρ1 => rw [q] at p0; exact fun d' H' o' => p0 d' σ H' (o'.weak fun _ z => ⟨z.1.1, z.2⟩)
    | ok k ρ1 =>
      rw [q] at p0
      cases k with
      | va d' => exact p0.elim
      | ow d' => exact p0.elim
      | al i =>
        intro v H2 o2
        have hv : σ[i]? = some (some v) := o2.t.2
        have p0 : PostS X.K F E T σ D (match ρ1[i]? with
          | some (.ow n (.ins C' gs)) => if C' = C ∧ gs.length < 900 then .ok .nx (ρ1.set i (.ow n (.ins C (putD f d gs)))) else .bad
          | _ => .bad) := p0
        split at p0
        · rename_i n C' gs hi
          split at p0
          · rename_i hz
            obtain ⟨hC, hz⟩ := hz
            subst hC
            obtain ⟨a, h1, mu, a', dx, fs, h2, h3, h4⟩ := o2.own hi
            rw [hv] at h1
            cases h1
            cases h2
            refine ⟨a, C', dx, fs, rfl, h3, c, nf, by rw [h4.len]; omega, ?_⟩
            obtain ⟨o4, _⟩ := o2.setOw (H' := upd H2 a (.ins C' dx (putF f x fs))) (d' := .ins C' (putD f d gs)) (m0.and mono_kat) hi hv (fun b o nb e => by rw [upd_ne nb]; exact e) ⟨_, upd_same⟩ True.intro fun s => ⟨a, dx, _, rfl, upd_same, RpF.put (o2.t.1.2.mono s) (h4.mono s)⟩
            exact p0 _ _ (o4.weak fun _ z => z.1.1)
          · exact p0.elim
        · exact p0.elim
end
end DL

namespace DL
open PySem PySem.Spec PyProof.Rows L2

/-- a def of the text, known by its function on data -/
def FnD (P : Program) (w : World) (K : PySem.W.Frag) (mg : Str → Option Value) (base : Heap) (x : Str) (k n : Nat) (G : List Ent → R Kd) : Prop :=
  ∃ (f : Addr) (fd : FuncData) (ps : List Str), FnOk P w K mg base (L2.CX P w) k f fd ps (spD K n G) ∧ mg x = some (.ref f) ∧ PySem.W.keepIn K (.ref f) = true ∧ Binds K fd ps []
def cR (d : D) (ρ : List Ent) : R Kd := .ok (.va d) ρ
def nilA (ρ : List Ent) : R (List Kd) := .ok [] ρ
def nxS (ρ : List Ent) : R Fl := .ok .nx ρ
def yesT (ρ : List Ent) : R Bool := .ok true ρ
section
variable {X : Cx} {F : Fr} {E : XK} {k n : Nat} {x : Str} {p pos : Pos} {e : Expr} {es : List Expr} {G : List Ent → R Kd} {GA : List Ent → R (List Kd)}
/-- f(e, ..), all arguments shared -/
theorem je_f (h : FnD X.prog X.w X.K X.mg X.base x k n G) (hr : Room k X.A) (hx : Passes (L2.CX X.prog X.w) X E) (ha : PA X (e :: es) (tA X.K F E GA)) (hg : Gl X x := by rfl) (hdb : (x == ("__debug__" : Str)) = false := by decide) (he : starEach (e :: es) X.env = (false, eval e X.env) :: starEach es X.env := by rfl) (hpl : (backTo pos (starEach es X.env)).any (·.1) = false := by rfl) :
    PE X (.Call (.Name x p) (e :: es) [] pos) (tE X.K F E (callU n G [] GA)) := by
  obtain ⟨f, fd, ps, h1, h2, h3, h4⟩ := h
  exact je_call h1 hr hg h2 h3 h4 .nil (fun _ => rfl) hx ha hdb he hpl
/-- f(b, e, ..), b a slot's own thing -/
theorem je_fB (h : FnD X.prog X.w X.K X.mg X.base x k n G) (hr : Room k X.A) (hx : Passes (L2.CX X.prog X.w) X E) (ha : PA X (e :: es) (tA X.K F E GA)) (hg : Gl X x := by rfl) (hdb : (x == ("__debug__" : Str)) = false := by decide) (he : starEach (e :: es) X.env = (false, eval e X.env) :: starEach es X.env := by rfl) (hpl : (backTo pos (starEach es X.env)).any (·.1) = false := by rfl) :
    PE X (.Call (.Name x p) (e :: es) [] pos) (tE X.K F E (callB n G [] GA)) := by
  obtain ⟨f, fd, ps, h1, h2, h3, h4⟩ := h
  exact je_callB1 h1 hr hg h2 h3 h4 .nil (fun _ => rfl) hx ha hdb he hpl
/-- f() -/
theorem je_f0 (h : FnD X.prog X.w X.K X.mg X.base x k n G) (hr : Room k X.A) (hx : Passes (L2.CX X.prog X.w) X E) (hg : Gl X x := by rfl) (hdb : (x == ("__debug__" : Str)) = false := by decide) :
    PE X (.Call (.Name x p) [] [] pos) (tE X.K F E (callU n G [] nilA)) := by
  obtain ⟨f, fd, ps, h1, h2, h3, h4⟩ := h
  refine peI (pe_call0 h1 hr hg h2 h3 h4 .nil hx hdb) fun σ H Q ⟨ρ, T, m, o, p⟩ => ?_
  have p : PostE X.K F E T σ Q (if ([] : List D).length = n then retU ρ (G []) else .bad) := p
  split at p
  · rename_i hn
    exact sp_vas (ds := []) o m rfl hn p
  · exact p.elim
/-! keyword calls: the keywords' values in the parameters' places -/
theorem pk_one {nm : Option Str} {kpos : Pos} {kws : List Keyword} (h : PE X e (tE X.K F E G)) (hr : PK X kws (tA X.K F E GA)) : PK X (⟨nm, e, kpos⟩ :: kws) (tA X.K F E (consV G GA)) :=
  ⟨fun pos pins s σ H Q I ⟨ρ, T, m, o, p⟩ => (pk_cons (je_toVa h) hr).run pos pins s σ H Q I (by
    refine bdV (pf_A Q) m o p fun x H1 d ρ1 o1 p1 => ?_
    refine bdA (T := fun h => T h ∧ Rp X.K h d x) (pf_A Q) (m.and mono_rp) o1 ((pf_A Q).pw _ _ _ (fun _ z => z.1) p1) fun xs H2 ks ρ2 o2 p2 => ?_
    exact p2 _ H2 (o2.weak fun _ z => ⟨z.1, x, xs, rfl, z.1.2, z.2⟩))⟩
theorem pk_end : PK X [] (tA X.K F E nilA) := ⟨fun pos pins s σ H Q I ⟨ρ, T, m, o, p⟩ => pk_nil.run pos pins s σ H Q I (p [] H (o.to ⟨o.t, rfl⟩))⟩
/-! constants -/
theorem jc_glob {d : D} {v : V} {u : Value} (hm : X.mg x = some u) (r : RelV v u) (h : ∀ K H, Rp K H d v) (hg : Gl X x := by rfl) (hd : (x == ("__debug__" : Str)) = false := by decide) : PE X (.Name x pos) (tE X.K F E (cR d)) := je_const (pe_glob hg hm r hd) h
theorem jc_int {i j pos} : PE X (.Constant (.int i) j pos) (tE X.K F E (cR (.int i))) := je_int
theorem jc_bl {i j pos} : PE X (.Constant (.bool i) j pos) (tE X.K F E (cR (.bl i))) := je_bl
theorem jc_non {j pos} : PE X (.Constant .none j pos) (tE X.K F E (cR .non)) := je_non
theorem jc_str {i j pos} : PE X (.Constant (.str i) j pos) (tE X.K F E (cR (.str i))) := je_str
theorem jn_nil : PA X [] (tA X.K F E nilA) := ja_nil
theorem jy_nil : PTs X [] (tT X.K F E yesT) := jts_nil
theorem jx_nil : PSs X [] (tS X.K F E nxS) := js_nil
end
/-! -a -/
def negD : D → Option Out
  | .int i => some (.same (.int (-i)))
  | _ => none
def unR (g : D → Option Out) (G : List Ent → R Kd) (ρ : List Ent) : R Kd := (fz (G ρ)).bind fun k ρ1 => match cont ρ1 k with
  | some d => outO (g d) ρ1
  | none => .bad
section
variable {X : Cx} {F : Fr} {E : XK} {pos : Pos} {e : Expr} {G : List Ent → R Kd}
theorem je_neg (he : PE X e (tE X.K F E G)) : PE X (.UnaryOp .USub e pos) (tE X.K F E (unR negD G)) :=
  peI (pe_un un_neg (je_fz he)) fun σ H Q ⟨ρ, T, m, o, p⟩ => bdE (pf_E Q) m o p fun x H1 k ρ1 o1 p1 => by
    split at p1
    · rename_i d c
      have r := kat_top o1 c
      cases d with
      | int i => exact ⟨i, r, p1 _ H1 (o1.to ⟨o1.t.1, rfl⟩)⟩
      | non => exact p1.elim
      | bl _ => exact p1.elim
      | str _ => exact p1.elim
      | lst _ => exact p1.elim
      | tup _ => exact p1.elim
      | ins _ _ => exact p1.elim
      | prs _ => exact p1.elim
      | dic _ => exact p1.elim
      | scr _ => exact p1.elim
    · exact p1.elim
end
/-! ### a, b = x, y -/
def parVV (i j : Nat) (Ga Gb : List Ent → R Kd) (ρ : List Ent) : R Fl := (toVa (Ga ρ)).bind fun k1 ρ1 => (toVa (Gb ρ1)).bind fun k2 ρ2 => match k1, k2 with
  | .va d1, .va d2 => .ok .nx ((ρ2.set i (.va d1)).set j (.va d2))
  | _, _ => .bad
def parVO (i j : Nat) (Ga Gb : List Ent → R Kd) (ρ : List Ent) : R Fl := (toVa (Ga ρ)).bind fun k1 ρ1 => (Gb ρ1).bind fun k2 ρ2 => match k1, k2 with
  | .va d1, .ow d2 => .ok .nx ((ρ2.set i (.va d1)).set j (.ow none d2))
  | _, _ => .bad
def par3VVV (i j l : Nat) (Ga Gb Gc : List Ent → R Kd) (ρ : List Ent) : R Fl := (toVa (Ga ρ)).bind fun k1 ρ1 => (toVa (Gb ρ1)).bind fun k2 ρ2 => (toVa (Gc ρ2)).bind fun k3 ρ3 => match k1, k2, k3 with
  | .va d1, .va d2, .va d3 => .ok .nx (((ρ3.set i (.va d1)).set j (.va d2)).set l (.va d3))
  | _, _, _ => .bad
def par3VVO (i j l : Nat) (Ga Gb Gc : List Ent → R Kd) (ρ : List Ent) : R Fl := (toVa (Ga ρ)).bind fun k1 ρ1 => (toVa (Gb ρ1)).bind fun k2 ρ2 => (Gc ρ2).bind fun k3 ρ3 => match k1, k2, k3 with
  | .va d1, .va d2, .ow d3 => .ok .nx (((ρ3.set i (.va d1)).set j (.va d2)).set l (.ow none d3))
  | _, _, _ => .bad
section
variable {K : PySem.W.Frag} {F : Fr} {T : HT} {H : Hp} {σ : List (Option V)} {ρ : List Ent}
/-- a slot under the head takes shared data -/
theorem Ok.setVaHd {i : Nat} {v w : V} {n : Option Nat} {d d2 : D} (h : Ok K F (fun h => T h ∧ Rp K h d v) H (some w :: σ) (.ow n d2 :: ρ)) (m : Mono T) : Ok K F T H (some w :: σ.set i (some v)) (.ow n d2 :: ρ.set i (.va d)) :=
  Ok.setVa (i := i + 1) h m
end
section
variable {X : Cx} {F : Fr} {E : XK} {a b c : Expr} {x y z : Str} {px py pz pt pos : Pos} {kt k2 : Nat} {pt2 : Pos} {Ga Gb Gc : List Ent → R Kd}
theorem js_parVV (i j : Nat) (hc : X.calm = true) (hN : X.N.Nodup) (ha : PE X a (tE X.K F E Ga)) (hb : PE X b (tE X.K F E Gb)) (hw : swappedStores [.Tuple [.Name x px, .Name y py] kt pt] (.Tuple [a, b] k2 pt2) X.env = pure (some [x, y]))
    (hi : X.N[i]? = some x := by rfl) (hj : X.N[j]? = some y := by rfl) (hij : i ≠ j := by decide) (hx : X.env.scope.names.lookup x = some .local := by rfl) (hy : X.env.scope.names.lookup y = some .local := by rfl)
    (hs1 : starEach [a, b] X.env = (false, eval a X.env) :: starEach [b] X.env := by rfl) (hs2 : starEach [b] X.env = (false, eval b X.env) :: starEach [] X.env := by rfl) (hs : swapsWithSole [.Tuple [.Name x px, .Name y py] kt pt] (.Tuple [a, b] k2 pt2) pos.line X.env = pure false := by rfl) :
    PS X (.Assign [.Tuple [.Name x px, .Name y py] kt pt] (.Tuple [a, b] k2 pt2) pos) (tS X.K F E (parVV i j Ga Gb)) :=
  psI (ps_par hc hN hi hj hij hx hy (pa_cons (je_toVa ha) (pa_cons (je_toVa hb) pa_nil hs2) hs1) hw hs) fun D σ H ⟨ρ, T, m, o, p⟩ => by
    refine bdV (pf_S D) m o p fun u H1 d1 ρ1 o1 p1 => ?_
    refine bdV (T := fun h => T h ∧ Rp X.K h d1 u) (pf_S D) (m.and mono_rp) o1 ((pf_S D).pw _ _ _ (fun _ z => z.1) p1) fun v H2 d2 ρ2 o2 p2 => ?_
    exact ⟨u, v, rfl, p2 _ H2 ((((o2.weak (U := fun h => ((T h ∧ Rp X.K h d1 u) ∧ Rp X.K h d2 v) ∧ Rp X.K h d1 u) fun _ z => ⟨z, z.1.2⟩).setVa (i := i) ((m.and mono_rp).and mono_rp)).setVa (i := j) (m.and mono_rp)))⟩
theorem js_parVO (i j : Nat) (hc : X.calm = true) (hN : X.N.Nodup) (ha : PE X a (tE X.K F E Ga)) (hb : PE X b (tE X.K F E Gb)) (hw : swappedStores [.Tuple [.Name x px, .Name y py] kt pt] (.Tuple [a, b] k2 pt2) X.env = pure (some [x, y]))
    (hi : X.N[i]? = some x := by rfl) (hj : X.N[j]? = some y := by rfl) (hij : i ≠ j := by decide) (hx : X.env.scope.names.lookup x = some .local := by rfl) (hy : X.env.scope.names.lookup y = some .local := by rfl)
    (hs1 : starEach [a, b] X.env = (false, eval a X.env) :: starEach [b] X.env := by rfl) (hs2 : starEach [b] X.env = (false, eval b X.env) :: starEach [] X.env := by rfl) (hs : swapsWithSole [.Tuple [.Name x px, .Name y py] kt pt] (.Tuple [a, b] k2 pt2) pos.line X.env = pure false := by rfl) :
    PS X (.Assign [.Tuple [.Name x px, .Name y py] kt pt] (.Tuple [a, b] k2 pt2) pos) (tS X.K F E (parVO i j Ga Gb)) :=
  psI (ps_par hc hN hi hj hij hx hy (pa_cons (je_toVa ha) (pa_cons hb pa_nil hs2) hs1) hw hs) fun D σ H ⟨ρ, T, m, o, p⟩ => by
    refine bdV (pf_S D) m o p fun u H1 d1 ρ1 o1 p1 => ?_
    refine ⟨ρ1, _, m.and mono_rp, o1, ?_⟩
    have p1 : PostS X.K F E T σ D ((Gb ρ1).bind fun k2 ρ2 => match (Kd.va d1), k2 with
      | .va d1, .ow d2 => .ok .nx ((ρ2.set i (.va d1)).set j (.ow none d2))
      | _, _ => .bad) := p1
    cases q : Gb ρ1 with
    | bad => rw [q] at p1; exact p1.elim
    | ex x ρ2 => rw [q] at p1; exact fun d H' o' => p1 d σ H' (o'.weak fun _ z => ⟨z.1.1, z.2⟩)
    | ok k ρ2 =>
      rw [q] at p1
      cases k with
      | va d => exact p1.elim
      | al d => exact p1.elim
      | ow d => exact fun v H' o' => ⟨u, v, rfl, p1 _ H' ((o'.setVaHd (i := i) m).setHd (i := j) m)⟩
theorem js_par3VVV (i j l : Nat) (hc : X.calm = true) (hN : X.N.Nodup) (ha : PE X a (tE X.K F E Ga)) (hb : PE X b (tE X.K F E Gb)) (hc' : PE X c (tE X.K F E Gc)) (hw : swappedStores [.Tuple [.Name x px, .Name y py, .Name z pz] kt pt] (.Tuple [a, b, c] k2 pt2) X.env = pure (some [x, y, z]))
    (hi : X.N[i]? = some x := by rfl) (hj : X.N[j]? = some y := by rfl) (hl : X.N[l]? = some z := by rfl) (hij : i ≠ j := by decide) (hil : i ≠ l := by decide) (hjl : j ≠ l := by decide) (hx : X.env.scope.names.lookup x = some .local := by rfl) (hy : X.env.scope.names.lookup y = some .local := by rfl) (hz : X.env.scope.names.lookup z = some .local := by rfl)
    (hs1 : starEach [a, b, c] X.env = (false, eval a X.env) :: starEach [b, c] X.env := by rfl) (hs2 : starEach [b, c] X.env = (false, eval b X.env) :: starEach [c] X.env := by rfl) (hs3 : starEach [c] X.env = (false, eval c X.env) :: starEach [] X.env := by rfl) (hs : swapsWithSole [.Tuple [.Name x px, .Name y py, .Name z pz] kt pt] (.Tuple [a, b, c] k2 pt2) pos.line X.env = pure false := by rfl) :
    PS X (.Assign [.Tuple [.Name x px, .Name y py, .Name z pz] kt pt] (.Tuple [a, b, c] k2 pt2) pos) (tS X.K F E (par3VVV i j l Ga Gb Gc)) :=
  psI (ps_par3 hc hN hi hj hl hij hil hjl hx hy hz (pa_cons (je_toVa ha) (pa_cons (je_toVa hb) (pa_cons (je_toVa hc') pa_nil hs3) hs2) hs1) hw hs) fun D σ H ⟨ρ, T, m, o, p⟩ => by
    refine bdV (pf_S D) m o p fun u H1 d1 ρ1 o1 p1 => ?_
    refine bdV (T := fun h => T h ∧ Rp X.K h d1 u) (pf_S D) (m.and mono_rp) o1 ((pf_S D).pw _ _ _ (fun _ z => z.1) p1) fun v H2 d2 ρ2 o2 p2 => ?_
    refine bdV (T := fun h => (T h ∧ Rp X.K h d1 u) ∧ Rp X.K h d2 v) (pf_S D) ((m.and mono_rp).and mono_rp) o2 ((pf_S D).pw _ _ _ (fun _ z => z.1) p2) fun w H3 d3 ρ3 o3 p3 => ?_
    refine ⟨u, v, w, rfl, p3 _ H3 ?_⟩
    have q := (o3.weak (U := fun h => ((((T h ∧ Rp X.K h d1 u) ∧ Rp X.K h d2 v) ∧ Rp X.K h d3 w) ∧ Rp X.K h d2 v) ∧ Rp X.K h d1 u) fun _ z => ⟨⟨z, z.1.2⟩, z.1.1.2⟩).setVa (i := i) ((((m.and mono_rp).and mono_rp).and mono_rp).and mono_rp)
    exact (q.setVa (i := j) (((m.and mono_rp).and mono_rp).and mono_rp)).setVa (i := l) ((m.and mono_rp).and mono_rp)
theorem js_par3VVO (i j l : Nat) (hc : X.calm = true) (hN : X.N.Nodup) (ha : PE X a (tE X.K F E Ga)) (hb : PE X b (tE X.K F E Gb)) (hc' : PE X c (tE X.K F E Gc)) (hw : swappedStores [.Tuple [.Name x px, .Name y py, .Name z pz] kt pt] (.Tuple [a, b, c] k2 pt2) X.env = pure (some [x, y, z]))
    (hi : X.N[i]? = some x := by rfl) (hj : X.N[j]? = some y := by rfl) (hl : X.N[l]? = some z := by rfl) (hij : i ≠ j := by decide) (hil : i ≠ l := by decide) (hjl : j ≠ l := by decide) (hx : X.env.scope.names.lookup x = some .local := by rfl) (hy : X.env.scope.names.lookup y = some .local := by rfl) (hz : X.env.scope.names.lookup z = some .local := by rfl)
    (hs1 : starEach [a, b, c] X.env = (false, eval a X.env) :: starEach [b, c] X.env := by rfl) (hs2 : starEach [b, c] X.env = (false, eval b X.env) :: starEach [c] X.env := by rfl) (hs3 : starEach [c] X.env = (false, eval c X.env) :: starEach [] X.env := by rfl) (hs : swapsWithSole [.Tuple [.Name x px, .Name y py, .Name z pz] kt pt] (.Tuple [a, b, c] k2 pt2) pos.line X.env = pure false := by rfl) :
    PS X (.Assign [.Tuple [.Name x px, .Name y py, .Name z pz] kt pt] (.Tuple [a, b, c] k2 pt2) pos) (tS X.K F E (par3VVO i j l Ga Gb Gc)) :=
  psI (ps_par3 hc hN hi hj hl hij hil hjl hx hy hz (pa_cons (je_toVa ha) (pa_cons (je_toVa hb) (pa_cons hc' pa_nil hs3) hs2) hs1) hw hs) fun D σ H ⟨ρ, T, m, o, p⟩ => by
    refine bdV (pf_S D) m o p fun u H1 d1 ρ1 o1 p1 => ?_
    refine bdV (T := fun h => T h ∧ Rp X.K h d1 u) (pf_S D) (m.and mono_rp) o1 ((pf_S D).pw _ _ _ (fun _ z => z.1) p1) fun v H2 d2 ρ2 o2 p2 => ?_
    have p2 : PostS X.K F E (fun h => T h ∧ Rp X.K h d1 u) σ D ((Gc ρ2).bind fun k3 ρ3 => match (Kd.va d1), (Kd.va d2), k3 with
      | .va d1, .va d2, .ow d3 => .ok .nx (((ρ3.set i (.va d1)).set j (.va d2)).set l (.ow none d3))
      | _, _, _ => .bad) := p2
    refine ⟨ρ2, _, (m.and mono_rp).and mono_rp, o2, ?_⟩
    cases q : Gc ρ2 with
    | bad => rw [q] at p2; exact p2.elim
    | ex x ρ3 => rw [q] at p2; exact fun d H' o' => p2 d σ H' (o'.weak fun _ z => ⟨z.1.1, z.2⟩)
    | ok k ρ3 =>
      rw [q] at p2
      cases k with
      | va d => exact p2.elim
      | al d => exact p2.elim
      | ow d =>
        refine fun w H' o' => ⟨u, v, w, rfl, p2 _ H' ?_⟩
        have q2 := (o'.weak (U := fun h => ((T h ∧ Rp X.K h d1 u) ∧ Rp X.K h d2 v) ∧ Rp X.K h d1 u) fun _ z => ⟨z, z.1.2⟩).setVaHd (i := i) ((m.and mono_rp).and mono_rp)
        exact (q2.setVaHd (i := j) (m.and mono_rp)).setHd (i := l) (m.and mono_rp)
end
/-! ### target = e by a tuple -/
def asgR (f : D → List Ent → Option (List Ent)) (G : List Ent → R Kd) (ρ : List Ent) : R Fl := (toVa (G ρ)).bind fun k ρ1 => match k with
  | .va d => match f d ρ1 with
    | some ρ2 => .ok .nx ρ2
    | none => .bad
  | _ => .bad
section
variable {X : Cx} {F : Fr} {E : XK} {e tg : Expr} {pos : Pos} {G : List Ent → R Kd} {g : TG} {js : List Nat} {f : D → List Ent → Option (List Ent)}
theorem js_asg (he : PE X e (tE X.K F E G)) (hg : PG X tg g) (ht : TgD X.K g js f) (hs : swapsWithSole [tg] e pos.line X.env = pure false := by rfl) (hw : swappedStores [tg] e X.env = pure none := by rfl)
    (h1 : (assignEach [tg] X.env).map (·.2) = [assign tg X.env] := by rfl) : PS X (.Assign [tg] e pos) (tS X.K F E (asgR f G)) :=
  psI (ps_asg (je_toVa he) hg hs hw h1) fun D σ H ⟨ρ, T, m, o, p⟩ => bdV (pf_S D) m o p fun x H1 d ρ1 o1 p1 => by
    have p1 : PostS X.K F E T σ D (match f d ρ1 with
      | some ρ2 => .ok .nx ρ2
      | none => .bad) := p1
    cases q : f d ρ1 with
    | none => rw [q] at p1; exact p1.elim
    | some ρ2 =>
      rw [q] at p1
      exact ht F d x σ H1 ρ1 ρ2 T _ m o1 q fun σ' H' _ _ o' => p1 σ' H' o'
end
end DL

namespace DL
open PySem PySem.Spec PyProof.Rows L2

/-! ### targets that are tuples of any length -/
def seqT : List (D → List Ent → Option (List Ent)) → List D → List Ent → Option (List Ent)
  | [], [], ρ => some ρ
  | f :: fs, d :: ds, ρ => match f d ρ with
    | some ρ1 => seqT fs ds ρ1
    | none => none
  | _, _, _ => none
def tupT (fs : List (D → List Ent → Option (List Ent))) (d : D) (ρ : List Ent) : Option (List Ent) := match d with
  | .tup ds => seqT fs ds ρ
  | .prs ds => seqT fs ds ρ
  | _ => none
def TgsD (K : PySem.W.Frag) (g : TGs) (js : List Nat) (fs : List (D → List Ent → Option (List Ent))) : Prop :=
  ∀ (F : Fr) (ds : List D) (vs : List V) (σ : L2.St) (H : Hp) (ρ ρ' : List Ent) (T : HT) (Q : L2.St → Hp → Prop), Mono T → Ok K F (fun h => T h ∧ RpL K h ds vs) H σ ρ → seqT fs ds ρ = some ρ' → (∀ σ' H', (∀ i, i ∉ js → σ'[i]? = σ[i]?) → σ'.length = σ.length → Ok K F T H' σ' ρ' → Q σ' H') → g vs σ H Q
theorem tgsD_nil {K : PySem.W.Frag} : TgsD K gNil [] [] := fun F ds vs σ H ρ ρ' T Q m o e q => by
  cases ds with
  | nil => cases e; exact ⟨o.t.2, q σ H (fun _ _ => rfl) rfl (o.weak fun _ z => z.1)⟩
  | cons d ds => cases e
theorem tgsD_cons {K : PySem.W.Frag} {g : TG} {gs : TGs} {js ks : List Nat} {f : D → List Ent → Option (List Ent)} {fs : List (D → List Ent → Option (List Ent))} (h1 : TgD K g js f) (h2 : TgsD K gs ks fs) : TgsD K (gCons g gs) (js ++ ks) (f :: fs) := fun F ds vs σ H ρ ρ' T Q m o e q => by
  cases ds with
  | nil => cases e
  | cons d ds =>
    simp only [seqT] at e
    cases e1 : f d ρ with
    | none => rw [e1] at e; cases e
    | some ρ1 =>
      rw [e1] at e
      obtain ⟨x, xs, k3, r1, r2⟩ := o.t.2
      refine ⟨x, xs, k3, h1 F d x σ H ρ ρ1 (fun h => T h ∧ RpL K h ds xs) _ (m.and mono_rpl) (o.to ⟨⟨o.t.1, r2⟩, r1⟩) e1 fun σ1 H1 s1 l1 o1 => ?_⟩
      refine h2 F ds xs σ1 H1 ρ1 ρ' T _ m o1 e fun σ2 H2 s2 l2 o2 => q σ2 H2 (fun i hi => ?_) (l2.trans l1) o2
      rw [s2 i (fun z => hi (List.mem_append_right _ z)), s1 i (fun z => hi (List.mem_append_left _ z))]
theorem tgD_tup {K : PySem.W.Frag} {g : TGs} {js : List Nat} {fs : List (D → List Ent → Option (List Ent))} {n : Nat} (h : TgsD K g js fs) (hn : fs.length = n) : TgD K (gTup K n g) js (tupT fs) := fun F d v σ H ρ ρ' T Q m o e q => by
  have hl : ∀ {fs : List (D → List Ent → Option (List Ent))} {ds : List D} {ρ ρ' : List Ent}, seqT fs ds ρ = some ρ' → ds.length = fs.length := by
    intro fs
    induction fs with
    | nil => intro ds ρ ρ' e; cases ds with
      | nil => rfl
      | cons d ds => cases e
    | cons f fs ih => intro ds ρ ρ' e; cases ds with
      | nil => cases e
      | cons d ds =>
        simp only [seqT] at e
        cases e1 : f d ρ with
        | none => rw [e1] at e; cases e
        | some ρ1 => rw [e1] at e; rw [List.length_cons, List.length_cons, ih e]
  cases d with
  | tup ds =>
    obtain ⟨a, xs, k1, k2, k3⟩ := o.t.2
    exact ⟨a, xs, k1, SqT.mono wo_le k2.sq, by rw [k3.len, hl e, hn], h F ds xs σ H ρ ρ' T Q m (o.to ⟨o.t.1, k3⟩) e q⟩
  | prs ds =>
    obtain ⟨a, xs, k1, k2, k3⟩ := o.t.2
    exact ⟨a, xs, k1, SqT.mono wo_le k2, by rw [k3.len, hl e, hn], h F ds xs σ H ρ ρ' T Q m (o.to ⟨o.t.1, k3⟩) e q⟩
  | non => cases e
  | bl _ => cases e
  | int _ => cases e
  | str _ => cases e
  | lst _ => cases e
  | ins _ _ => cases e
  | dic _ => cases e
  | scr _ => cases e
section
variable {X : Cx} {F : Fr} {E : XK} {a b c e1 e2 e3 : Expr} {pt pos p2 : Pos} {kt k2 : Nat} {Ga Gb Gc : List Ent → R Kd}
/-! a, b = x, [..] by a tuple, the last one owning -/
theorem js_tupVO (i j : Nat) (hc : X.calm = true) (ha : PE X a (tE X.K F E Ga)) (hb : PE X b (tE X.K F E Gb)) (g1 : PG X e1 (gName i)) (g2 : PG X e2 (gName j)) (hs1 : starEach [a, b] X.env = (false, eval a X.env) :: starEach [b] X.env := by rfl) (hs2 : starEach [b] X.env = (false, eval b X.env) :: starEach [] X.env := by rfl)
    (ha1 : (assignEach [e1, e2] X.env).map (·.2) = assign e1 X.env :: (assignEach [e2] X.env).map (·.2) := by rfl) (ha2 : (assignEach [e2] X.env).map (·.2) = assign e2 X.env :: (assignEach [] X.env).map (·.2) := by rfl) (hn : (assignEach [e1, e2] X.env).length = 2 := by rfl) (hst : (assignEach [e1, e2] X.env).findIdx? (·.1) = none := by rfl)
    (hs : swapsWithSole [.Tuple [e1, e2] kt pt] (.Tuple [a, b] k2 p2) pos.line X.env = pure false := by rfl) (hw : swappedStores [.Tuple [e1, e2] kt pt] (.Tuple [a, b] k2 p2) X.env = pure none := by rfl) (h1 : (assignEach [.Tuple [e1, e2] kt pt] X.env).map (·.2) = [assign (.Tuple [e1, e2] kt pt) X.env] := by rfl) :
    PS X (.Assign [.Tuple [e1, e2] kt pt] (.Tuple [a, b] k2 p2) pos) (tS X.K F E (parVO i j Ga Gb)) :=
  psI (ps_asg (pe_tup (pa_cons (je_toVa ha) (pa_cons hb pa_nil hs2) hs1)) (pg_tup hc (pgs_cons g1 (pgs_cons g2 pgs_nil ha2) ha1) hn hst) hs hw h1) fun D σ H ⟨ρ, T, m, o, p⟩ => by
    refine bdV (pf_S D) m o p fun u H1 d1 ρ1 o1 p1 => ?_
    refine ⟨ρ1, _, m.and mono_rp, o1, ?_⟩
    have p1 : PostS X.K F E T σ D ((Gb ρ1).bind fun k2 ρ2 => match (Kd.va d1), k2 with
      | .va d1, .ow d2 => .ok .nx ((ρ2.set i (.va d1)).set j (.ow none d2))
      | _, _ => .bad) := p1
    cases q : Gb ρ1 with
    | bad => rw [q] at p1; exact p1.elim
    | ex x ρ2 => rw [q] at p1; exact fun d H' o' => p1 d σ H' (o'.weak fun _ z => ⟨z.1.1, z.2⟩)
    | ok k ρ2 =>
      rw [q] at p1
      cases k with
      | va d => exact p1.elim
      | al d => exact p1.elim
      | ow d =>
        refine fun v H' o' => ⟨by show 2 ≤ sizeLine; decide, fun t ht => ⟨t, [u, v], rfl, SqT.of upd_same, rfl, u, [v], rfl, v, [], rfl, rfl, p1 _ _ ?_⟩⟩
        exact (((o'.new (o := .tup [u, v]) (m.and mono_rp) ht).1).setVaHd (i := i) m).setHd (i := j) m
theorem js_tupVVO (i j l : Nat) (hc : X.calm = true) (ha : PE X a (tE X.K F E Ga)) (hb : PE X b (tE X.K F E Gb)) (hcc : PE X c (tE X.K F E Gc)) (g1 : PG X e1 (gName i)) (g2 : PG X e2 (gName j)) (g3 : PG X e3 (gName l)) (hs1 : starEach [a, b, c] X.env = (false, eval a X.env) :: starEach [b, c] X.env := by rfl) (hs2 : starEach [b, c] X.env = (false, eval b X.env) :: starEach [c] X.env := by rfl) (hs3 : starEach [c] X.env = (false, eval c X.env) :: starEach [] X.env := by rfl)
    (ha1 : (assignEach [e1, e2, e3] X.env).map (·.2) = assign e1 X.env :: (assignEach [e2, e3] X.env).map (·.2) := by rfl) (ha2 : (assignEach [e2, e3] X.env).map (·.2) = assign e2 X.env :: (assignEach [e3] X.env).map (·.2) := by rfl) (ha3 : (assignEach [e3] X.env).map (·.2) = assign e3 X.env :: (assignEach [] X.env).map (·.2) := by rfl)
    (hn : (assignEach [e1, e2, e3] X.env).length = 3 := by rfl) (hst : (assignEach [e1, e2, e3] X.env).findIdx? (·.1) = none := by rfl) (hs : swapsWithSole [.Tuple [e1, e2, e3] kt pt] (.Tuple [a, b, c] k2 p2) pos.line X.env = pure false := by rfl) (hw : swappedStores [.Tuple [e1, e2, e3] kt pt] (.Tuple [a, b, c] k2 p2) X.env = pure none := by rfl)
    (h1 : (assignEach [.Tuple [e1, e2, e3] kt pt] X.env).map (·.2) = [assign (.Tuple [e1, e2, e3] kt pt) X.env] := by rfl) : PS X (.Assign [.Tuple [e1, e2, e3] kt pt] (.Tuple [a, b, c] k2 p2) pos) (tS X.K F E (par3VVO i j l Ga Gb Gc)) :=
  psI (ps_asg (pe_tup (pa_cons (je_toVa ha) (pa_cons (je_toVa hb) (pa_cons hcc pa_nil hs3) hs2) hs1)) (pg_tup hc (pgs_cons g1 (pgs_cons g2 (pgs_cons g3 pgs_nil ha3) ha2) ha1) hn hst) hs hw h1) fun D σ H ⟨ρ, T, m, o, p⟩ => by
    refine bdV (pf_S D) m o p fun u H1 d1 ρ1 o1 p1 => ?_
    refine bdV (T := fun h => T h ∧ Rp X.K h d1 u) (pf_S D) (m.and mono_rp) o1 ((pf_S D).pw _ _ _ (fun _ z => z.1) p1) fun v H2 d2 ρ2 o2 p2 => ?_
    have p2 : PostS X.K F E (fun h => T h ∧ Rp X.K h d1 u) σ D ((Gc ρ2).bind fun k3 ρ3 => match (Kd.va d1), (Kd.va d2), k3 with
      | .va d1, .va d2, .ow d3 => .ok .nx (((ρ3.set i (.va d1)).set j (.va d2)).set l (.ow none d3))
      | _, _, _ => .bad) := p2
    refine ⟨ρ2, _, (m.and mono_rp).and mono_rp, o2, ?_⟩
    cases q : Gc ρ2 with
    | bad => rw [q] at p2; exact p2.elim
    | ex x ρ3 => rw [q] at p2; exact fun d H' o' => p2 d σ H' (o'.weak fun _ z => ⟨z.1.1, z.2⟩)
    | ok k ρ3 =>
      rw [q] at p2
      cases k with
      | va d => exact p2.elim
      | al d => exact p2.elim
      | ow d =>
        refine fun w H' o' => ⟨by show 3 ≤ sizeLine; decide, fun t ht => ⟨t, [u, v, w], rfl, SqT.of upd_same, rfl, u, [v, w], rfl, v, [w], rfl, w, [], rfl, rfl, p2 _ _ ?_⟩⟩
        have q2 := (((o'.new (o := .tup [u, v, w]) ((m.and mono_rp).and mono_rp) ht).1).weak (U := fun h => ((T h ∧ Rp X.K h d1 u) ∧ Rp X.K h d2 v) ∧ Rp X.K h d1 u) fun _ z => ⟨z, z.1.2⟩).setVaHd (i := i) ((m.and mono_rp).and mono_rp)
        exact (q2.setVaHd (i := j) (m.and mono_rp)).setHd (i := l) (m.and mono_rp)
end
end DL

namespace DL
open PySem PySem.Spec PyProof.Rows L2

/-! ### what is never asked -/
section
variable {X : Cx} {F : Fr} {E : XK}
theorem je_bad {e : Expr} : PE X e (tE X.K F E fun _ => .bad) := ⟨fun _ _ _ _ _ _ ⟨_, _, _, _, p⟩ => p.elim⟩
theorem jt_bad {e : Expr} : PT X e (tT X.K F E fun _ => .bad) := ⟨fun _ _ _ _ _ _ ⟨_, _, _, _, p⟩ => p.elim⟩
theorem js_bad {e : Stmt} : PS X e (tS X.K F E fun _ => .bad) := ⟨fun _ _ _ _ _ _ ⟨_, _, _, _, p⟩ => p.elim⟩
theorem jx_bad {e : List Stmt} : PSs X e (tS X.K F E fun _ => .bad) := ⟨fun _ _ _ _ _ _ ⟨_, _, _, _, p⟩ => p.elim⟩
end
/-! ### f(a=x, ..), keywords alone, in the parameters' order -/
def KB (K : PySem.W.Frag) (fd : FuncData) (ps : List Str) : Prop := KBn K fd ps 0 ps (fun _ ws => ws) (fun _ zs => zs)
theorem kb_of {K : PySem.W.Frag} {x qual : Str} {st : Stmt} {f : Addr} {fd : FuncData} {ps : List Str} (F : Fun K x qual st f fd)
    (h : ∀ (kV doc pm : Value) (an : Option Addr) (cdv ct : Value) (ws : List Value), ws.length = ps.length → bindArgs (PySem.W.fnOf x qual (defArgs st) (defBody st) (defScope st) .none kV doc pm an cdv ct) { pos := [], kw := ps.zip ws } = pure (ps.zip ws)) : KB K fd ps := by
  obtain ⟨oc, od, kV, doc, pm, an, cdv, ct, osl, e, lk, hc⟩ := F.ex
  subst e
  refine ⟨fun s us ws _ hu hw => ?_, fun _ r => r⟩
  cases us with
  | nil => exact BindsTo.of_eq (h kV doc pm an cdv ct ws hw)
  | cons u us => cases hu
theorem pe_callK0 {X : Cx} {CX : CXT} {k n : Nat} {f : Addr} {fd : FuncData} {ps ks : List Str} {sp : Sp} {E : XK} {x : Str} {p pos : Pos} {kws : List Keyword} {tk : TA} {g : List Value → List Value → List Value} {gV : List V → List V → List V}
    (F : FnOk X.prog X.w X.K X.mg X.base CX k f fd ps sp) (hr : Room k X.A) (hg : Gl X x) (hm : X.mg x = some (.ref f)) (hk : PySem.W.keepIn X.K (.ref f) = true) (hb : KBn X.K fd ps 0 ks g gV) (hx : Passes CX X E) (hkw : PK X kws tk)
    (hall : ((backToKw pos (keywordEach kws X.env)).all fun x => x.1.isSome) = true := by rfl) (hks : (backToKw pos (keywordEach kws X.env)).filterMap (fun x => x.1) = ks := by rfl) (hdb : (x == ("__debug__" : Str)) = false := by decide)
    (hpl : (((backTo pos (starEach [] X.env)).any fun x => x.1) || (backToKw pos (keywordEach kws X.env)).any fun x => x.1.isNone) = false := by rfl) :
    PE X (.Call (.Name x p) [] kws pos) (tCallN 0 ks.length sp gV E tNil tk) :=
  ⟨fun pins s σ H Q I h => wpAny_Call_Name_kw (ld_glob I hg hm (PySem.W.callWith_KW0 I.ok.mod.kin hk hall
    (thn (hkw.run pos pins s σ H (fun zs H2 => ([] : List V).length = 0 ∧ zs.length = ks.length ∧ sp (gV [] zs) H2 Q E) I h) fun ws s2 ⟨zs, H2, I2, rz, l1, l2, q2⟩ => ⟨Inv.kIn I2, by
      rw [hks]
      exact run_fnN F hr hb hx I2 Paired.nil rz l1 l2 q2⟩) hpl) hdb)⟩
/-- a def of the text that may be called by its parameters' names -/
def FnK (P : Program) (w : World) (K : PySem.W.Frag) (mg : Str → Option Value) (base : Heap) (x : Str) (ps : List Str) (k n : Nat) (G : List Ent → R Kd) : Prop :=
  ∃ (f : Addr) (fd : FuncData), FnOk P w K mg base (L2.CX P w) k f fd ps (spD K n G) ∧ mg x = some (.ref f) ∧ PySem.W.keepIn K (.ref f) = true ∧ KB K fd ps
section
variable {X : Cx} {F : Fr} {E : XK} {k n : Nat} {x : Str} {p pos : Pos} {ps : List Str} {kws : List Keyword} {G : List Ent → R Kd} {GA : List Ent → R (List Kd)}
theorem je_fK (h : FnK X.prog X.w X.K X.mg X.base x ps k n G) (hr : Room k X.A) (hx : Passes (L2.CX X.prog X.w) X E) (ha : PK X kws (tA X.K F E GA)) (hg : Gl X x := by rfl)
    (hall : ((backToKw pos (keywordEach kws X.env)).all fun x => x.1.isSome) = true := by rfl) (hks : (backToKw pos (keywordEach kws X.env)).filterMap (fun x => x.1) = ps := by rfl) (hdb : (x == ("__debug__" : Str)) = false := by decide)
    (hpl : (((backTo pos (starEach [] X.env)).any fun x => x.1) || (backToKw pos (keywordEach kws X.env)).any fun x => x.1.isNone) = false := by rfl) (hn : ps.length = n := by rfl) :
    PE X (.Call (.Name x p) [] kws pos) (tE X.K F E (callU n G [] GA)) := by
  obtain ⟨f, fd, h1, h2, h3, h4⟩ := h
  refine peI (pe_callK0 (n := n) h1 hr hg h2 h3 h4 hx ha hall hks hdb hpl) fun σ H Q ⟨ρ, T, m, o, p⟩ => ?_
  refine bdA (pf_E Q) m o p fun vs H1 ks ρ1 o1 p1 => ?_
  cases q : vas ks with
  | none => rw [q] at p1; exact p1.elim
  | some ds =>
    rw [q] at p1
    have p1 : PostE X.K F E T σ Q (if (ds ++ []).length = n then retU ρ1 (G ((ds ++ []).map .va)) else .bad) := p1
    split at p1
    · rename_i hl
      rw [List.append_nil] at p1 hl
      have r := vas_rp q o1.t.2
      have l : vs.length = n := by rw [r.len]; exact hl
      exact ⟨rfl, l.trans hn.symm, sp_vas (o1.weak fun _ z => z.1) m r l p1⟩
    · exact p1.elim
end
/-! ### the frame within a dict display -/
/-- the frame within a dict display: the dict is not seen -/
def frK (F : Fr) (L : Addr) (xs : List (Key × V)) : Fr := ⟨fun a => F.M0 a ∨ a = L, F.W, upd F.H0 L (.dK xs), F.ps⟩
section
variable {K : PySem.W.Frag} {F : Fr} {T : HT} {H : Hp} {σ : List (Option V)} {ρ : List Ent} {L : Addr} {xs ys : List (Key × V)}
theorem ms_frK {a : Addr} : Ms (frK F L xs) σ ρ a ↔ Ms F σ ρ a ∨ a = L := by
  constructor
  · rintro ((z | z) | z)
    · exact .inl (.inl z)
    · exact .inr z
    · exact .inl (.inr z)
  · rintro ((z | z) | z)
    · exact .inl (.inl z)
    · exact .inr z
    · exact .inl (.inr z)
theorem Ok.enterK (o : Ok K F T H σ ρ) (m : Mono T) (hL : H L = none) : Ok K (frK F L []) T (upd H L (.dK [])) σ ρ := by
  have h0 := o.new_h0 hL
  have nm := o.m_new hL
  have k : ∀ a u, H a = some u → upd H L (.dK []) a = some u := fun a u e => by rw [upd_ne (ne_of_none e hL)]; exact e
  have hs : Same (wo H (Ms F σ ρ)) (wo (upd H L (.dK [])) (Ms (frK F L []) σ ρ)) := wo_mono fun a u n e => ⟨fun z => (ms_frK.mp z).elim n fun z => (by rw [z, hL] at e; cases e), k a u e⟩
  refine ⟨o.len, fun i e v h1 h2 => (o.cells i e v h1 h2).move hs fun _ _ a u _ _ q => k a u q, o.inj, fun i a n d h1 h2 => ?_, fun a u e n => ?_, fun a u e => ?_, fun a z => ?_, fun a z => ?_, m _ _ hs o.t⟩
  · obtain ⟨w1, w2, w3, w4⟩ := o.w i a n d h1 h2
    have ne : a ≠ L := fun z => nm (z ▸ .inr ⟨i, n, d, h1, h2⟩)
    exact ⟨fun z => z.elim w1 ne, w2.elim .inl fun z => .inr (by show upd F.H0 L _ a = none; rw [upd_ne ne]; exact z), fun z => (by show upd F.H0 L _ a = none; rw [upd_ne ne]; exact w3 z), w4⟩
  · by_cases ha : a = L
    · subst ha
      have e : upd F.H0 a (.dK []) a = some u := e
      rw [upd_same] at e ⊢
      exact e
    · have e : upd F.H0 L (.dK []) a = some u := e
      rw [upd_ne ha] at e ⊢
      exact o.kp a u e n
  · by_cases ha : a = L
    · subst ha; exact ⟨_, upd_same⟩
    · have e : upd F.H0 L (.dK []) a = some u := e
      rw [upd_ne ha] at e ⊢
      exact o.tr a u e
  · rcases z with z | z
    · obtain ⟨q1, o', q2, q3⟩ := o.m0 a z
      have ne : a ≠ L := fun w => by rw [w, h0] at q2; cases q2
      exact ⟨q1, o', (by show upd F.H0 L _ a = _; rw [upd_ne ne]; exact q2), q3⟩
    · subst z
      exact ⟨fun w => (by obtain ⟨o', q⟩ := o.wt a w; rw [h0] at q; cases q), _, upd_same, fun ys z => (by cases z)⟩
  · obtain ⟨o', q⟩ := o.wt a z
    have ne : a ≠ L := fun w => by rw [w, h0] at q; cases q
    exact ⟨o', by show upd F.H0 L _ a = _; rw [upd_ne ne]; exact q⟩
theorem Ok.at_LK (o : Ok K (frK F L xs) T H σ ρ) : H L = some (.dK xs) := o.kp L _ (by show upd F.H0 L _ L = _; rw [upd_same]) (o.m0 L (.inr rfl)).1
/-- the list grows -/
theorem Ok.turnK (o : Ok K (frK F L xs) T H σ ρ) (m : Mono T) : Ok K (frK F L ys) T (upd H L (.dK ys)) σ ρ := by
  have hL := o.at_LK
  have mL : Ms (frK F L xs) σ ρ L := .inl (.inr rfl)
  have hs : Same (wo H (Ms (frK F L xs) σ ρ)) (wo (upd H L (.dK ys)) (Ms (frK F L ys) σ ρ)) := wo_mono fun a u n e => ⟨fun z => n (ms_frK.mpr (ms_frK.mp z)), (by rw [upd_ne (fun z : a = L => n (by rw [z]; exact mL))]; exact e)⟩
  have nL : ∀ (i : Nat) (n : Option Nat) (d : D), ρ[i]? = some (Ent.ow n d) → ∀ a : Addr, σ[i]? = some (some (V.ref a)) → a ≠ L := fun i n d h1 a h2 z => (o.w i a n d h1 h2).1 (.inr z)
  refine ⟨o.len, fun i e v h1 h2 => (o.cells i e v h1 h2).move hs fun n d a u ee ev q => (by subst ee; subst ev; rw [upd_ne (nL i n d h1 a h2)]; exact q), o.inj, fun i a n d h1 h2 => ?_, fun a u e n => ?_, fun a u e => ?_, fun a z => ?_, fun a z => ?_, m _ _ hs o.t⟩
  · obtain ⟨w1, w2, w3, w4⟩ := o.w i a n d h1 h2
    have ne := nL i n d h1 a h2
    refine ⟨w1, w2.elim .inl fun z => .inr ?_, fun z => ?_, w4⟩
    · have z : upd F.H0 L (.dK xs) a = none := z
      show upd F.H0 L _ a = none
      rw [upd_ne ne] at z ⊢
      exact z
    · have z : upd F.H0 L (.dK xs) a = none := w3 z
      show upd F.H0 L _ a = none
      rw [upd_ne ne] at z ⊢
      exact z
  · have e : upd F.H0 L (.dK ys) a = some u := e
    by_cases ha : a = L
    · subst ha
      rw [upd_same] at e ⊢
      exact e
    · rw [upd_ne ha] at e ⊢
      exact o.kp a u (by show upd F.H0 L _ a = _; rw [upd_ne ha]; exact e) n
  · have e : upd F.H0 L (.dK ys) a = some u := e
    by_cases ha : a = L
    · subst ha; exact ⟨_, upd_same⟩
    · rw [upd_ne ha] at e ⊢
      exact o.tr a u (by show upd F.H0 L _ a = _; rw [upd_ne ha]; exact e)
  · obtain ⟨q1, o', q2, q3⟩ := o.m0 a z
    refine ⟨q1, ?_⟩
    by_cases ha : a = L
    · subst ha; exact ⟨_, upd_same, fun ys z => (by cases z)⟩
    · have q2 : upd F.H0 L (.dK xs) a = some o' := q2
      rw [upd_ne ha] at q2
      exact ⟨o', (by show upd F.H0 L _ a = _; rw [upd_ne ha]; exact q2), q3⟩
  · obtain ⟨o', q⟩ := o.wt a z
    by_cases ha : a = L
    · subst ha; exact ⟨_, upd_same⟩
    · have q : upd F.H0 L (.dK xs) a = some o' := q
      rw [upd_ne ha] at q
      exact ⟨o', by show upd F.H0 L _ a = _; rw [upd_ne ha]; exact q⟩
/-- it is handed on -/
theorem Ok.leaveK {ds : List (Key × D)} (o : Ok K (frK F L xs) T H σ ρ) (m : Mono T) (r : RpD K (wo H (Ms (frK F L xs) σ ρ)) ds xs) (h0 : F.H0 L = none) (hm : ¬ F.M0 L) (m0 : ∀ a, F.M0 a → ¬ F.W a ∧ ∃ o, F.H0 a = some o ∧ ∀ xs, o ≠ .tup xs) (wt : ∀ a, F.W a → ∃ o, F.H0 a = some o) : Ok K F T H (some (.ref L) :: σ) (.ow none (.dic ds) :: ρ) := by
  have hL := o.at_LK
  have nL : ∀ (i : Nat) (n : Option Nat) (d : D), ρ[i]? = some (Ent.ow n d) → ∀ a : Addr, σ[i]? = some (some (V.ref a)) → a ≠ L := fun i n d h1 a h2 z => (o.w i a n d h1 h2).1 (.inr z)
  have hs : Same (wo H (Ms (frK F L xs) σ ρ)) (wo H (Ms F (some (.ref L) :: σ) (.ow none (.dic ds) :: ρ))) := wo_mono fun a u n e => ⟨fun z => n (by
    rcases z with z | z
    · exact .inl (.inl z)
    · rcases z.of_cons with ⟨z, _⟩ | z
      · cases z; exact .inl (.inr rfl)
      · exact .inr z), e⟩
  have back : ∀ a, a ≠ L → upd F.H0 L (.dK xs) a = F.H0 a := fun a ha => upd_ne ha
  refine ⟨by simp [o.len], fun i e v h1 h2 => ?_, fun i j a n l d1 d2 h1 h2 h3 h4 => ?_, fun i a n d h1 h2 => ?_, fun a u e n => ?_, fun a u e => ?_, m0, wt, m _ _ hs o.t⟩
  · cases i with
    | zero =>
      simp at h1 h2
      subst h1; subst h2
      exact ⟨_, rfl, True.intro, L, xs, rfl, hL, r.mono hs⟩
    | succ i => exact (o.cells i e v (by simpa using h1) (by simpa using h2)).move hs fun _ _ _ _ _ _ q => q
  · cases i with
    | zero =>
      cases j with
      | zero => rfl
      | succ j =>
        simp at h3
        exact (nL j l d2 (by simpa using h2) a (by simpa using h4) h3.symm).elim
    | succ i =>
      cases j with
      | zero =>
        simp at h4
        exact (nL i n d1 (by simpa using h1) a (by simpa using h3) h4.symm).elim
      | succ j => rw [o.inj i j a n l d1 d2 (by simpa using h1) (by simpa using h2) (by simpa using h3) (by simpa using h4)]
  · cases i with
    | zero =>
      have h1 : Ent.ow none (.dic ds) = .ow n d := by simpa using h1
      have h2 : L = a := by simpa using h2
      cases h1
      subst h2
      exact ⟨hm, .inr h0, fun _ => h0, fun k z => nomatch z⟩
    | succ i =>
      have k1 : ρ[i]? = some (.ow n d) := by simpa using h1
      have k2 : σ[i]? = some (some (.ref a)) := by simpa using h2
      have ne := nL i n d k1 a k2
      obtain ⟨w1, w2, w3, w4⟩ := o.w i a n d k1 k2
      exact ⟨fun z => w1 (.inl z), w2.elim .inl fun z => .inr ((back a ne).symm.trans z), fun z => (back a ne).symm.trans (w3 z), w4⟩
  · have ne : a ≠ L := fun z => by rw [z, h0] at e; cases e
    exact o.kp a u ((back a ne).trans e) n
  · have ne : a ≠ L := fun z => by rw [z, h0] at e; cases e
    exact o.tr a u ((back a ne).trans e)
end
/-! ### dict displays -/
def keyD : D → Option Key
  | .int i => some (.inl i)
  | .str s => some (.inr s)
  | _ => none
def nilP (ρ : List Ent) : R (List (Key × D)) := .ok [] ρ
def consP (Gk Gv : List Ent → R Kd) (GP : List Ent → R (List (Key × D))) (ρ : List Ent) : R (List (Key × D)) := (noX (toVa (Gk ρ))).bind fun k ρ1 => match k with
  | .va dk => match keyD dk with
    | some kk => (noX (toVa (Gv ρ1))).bind fun v ρ2 => match v with
      | .va dv => (GP ρ2).bind fun r ρ3 => .ok ((kk, dv) :: r) ρ3
      | _ => .bad
    | none => .bad
  | _ => .bad
def dispR (GP : List Ent → R (List (Key × D))) (ρ : List Ent) : R Kd := (noX (GP ρ)).bind fun kds ρ1 => if kds.length ≤ 15 ∧ (kds.map (·.1)).Nodup then .ok (.ow (.dic kds)) ρ1 else .bad
/-- the pairs of a display, within any frame -/
def PQ (X : Cx) (pos : Pos) (ks : List (Option Expr)) (vs : List Expr) (GP : List Ent → R (List (Key × D))) : Prop := ∃ trs, PPs X pos ks vs trs ∧ ∀ (F : Fr) (T : HT) (σ : L2.St) (H : Hp) (ρ : List Ent) (Q : List (V × V) → Hp → Prop), Mono T → Ok X.K F T H σ ρ →
  (∃ kds ρ1, GP ρ = .ok kds ρ1 ∧ ∀ kvs H', Ok X.K F (fun h => T h ∧ RpD X.K h kds kvs) H' σ ρ1 → Q (kvs.map fun kv => (kV kv.1, kv.2)) H') → tPairs trs σ H Q
theorem mono_rpd {K : PySem.W.Frag} {d : List (Key × D)} {v : List (Key × V)} : Mono fun h => RpD K h d v := fun _ _ e x => x.mono e
section
variable {X : Cx} {F : Fr} {E : XK} {pos : Pos} {k v : Expr} {ks : List (Option Expr)} {vs : List Expr} {Gk Gv : List Ent → R Kd} {GP : List Ent → R (List (Key × D))}
theorem key_rp {K : PySem.W.Frag} {H : Hp} {d : D} {kk : Key} {v : V} (h : keyD d = some kk) (r : Rp K H d v) : v = kV kk := by
  cases d with
  | int i => cases h; exact r
  | str s => cases h; exact r
  | non => cases h
  | bl _ => cases h
  | lst _ => cases h
  | tup _ => cases h
  | ins _ _ => cases h
  | prs _ => cases h
  | dic _ => cases h
  | scr _ => cases h
theorem pq_nil : PQ X pos [] [] nilP := ⟨[], pps_nil, fun F T σ H ρ Q m o ⟨kds, ρ1, e, h⟩ => by
  cases e
  exact h [] H (o.to ⟨o.t, rfl⟩)⟩
theorem noX_ok {α : Type} {r : R α} {β : Type} {f : α → List Ent → R β} {b : β} {ρ : List Ent} (h : (noX r).bind f = .ok b ρ) : ∃ a ρ1, r = .ok a ρ1 ∧ f a ρ1 = .ok b ρ := by
  cases r with
  | ok a ρ1 => exact ⟨a, ρ1, rfl, h⟩
  | ex x ρ1 => cases h
  | bad => cases h
theorem pq_cons (hk : ∀ F', PE X k (tE X.K F' noE Gk)) (hv : ∀ F', PE X v (tE X.K F' noE Gv)) (h : PQ X pos ks vs GP) : PQ X pos (some k :: ks) (v :: vs) (consP Gk Gv GP) := by
  obtain ⟨trs, h1, h2⟩ := h
  refine ⟨_, pps_cons (PE.union fun F' => je_toVa (hk F')) (PE.union fun F' => je_toVa (hv F')) h1, fun F T σ H ρ Q m o ⟨kds, ρ1, e, hq⟩ => ?_⟩
  obtain ⟨k1, ρ2, e1, e⟩ := noX_ok e
  refine ⟨F, ρ, T, m, o, ?_⟩
  show PostE X.K F noE T σ _ (toVa (Gk ρ))
  rw [e1]
  cases k1 with
  | ow d => cases e
  | al i => cases e
  | va dk =>
    intro y H1 o1
    have o1 : Ok X.K F (fun h => T h ∧ Rp X.K h dk y) H1 σ ρ2 := o1
    cases ek : keyD dk with
    | none => simp only [ek] at e; cases e
    | some kk =>
      simp only [ek] at e
      obtain ⟨v1, ρ3, e2, e⟩ := noX_ok e
      have ey := key_rp ek o1.t.2
      refine ⟨F, ρ2, T, m, o1.weak fun _ z => z.1, ?_⟩
      show PostE X.K F noE T σ _ (toVa (Gv ρ2))
      rw [e2]
      cases v1 with
      | ow d => cases e
      | al i => cases e
      | va dv =>
        intro z H2 o2
        have o2 : Ok X.K F (fun h => T h ∧ Rp X.K h dv z) H2 σ ρ3 := o2
        have e : (GP ρ3).bind (fun r ρ3 => .ok ((kk, dv) :: r) ρ3) = .ok kds ρ1 := e
        cases e3 : GP ρ3 with
        | ex x r => rw [e3] at e; cases e
        | bad => rw [e3] at e; cases e
        | ok r ρ4 =>
          rw [e3] at e
          cases e
          refine h2 F _ σ H2 ρ3 _ (m.and mono_rp) o2 ⟨_, _, e3, fun kvs H' o3 => ?_⟩
          have := hq ((kk, z) :: kvs) H' (o3.weak fun _ q => ⟨q.1.1, z, kvs, rfl, q.1.2, q.2⟩)
          rw [ey]
          exact this
theorem putK_end {kvs : List (Key × V)} {k : Key} {v : V} (h : k ∉ kvs.map (·.1)) : putK kvs k v = kvs ++ [(k, v)] := by
  unfold putK
  rw [if_neg]
  intro z
  obtain ⟨kv, h1, h2⟩ := List.any_eq_true.mp z
  exact h (List.mem_map.mpr ⟨kv, h1, of_decide_eq_true h2⟩)
theorem merge_end : ∀ {kvs acc : List (Key × V)}, ((acc ++ kvs).map (·.1)).Nodup → mergeK acc kvs = acc ++ kvs
  | [], acc, _ => by unfold mergeK; simp
  | (k, v) :: kvs, acc, h => by
    have h1 : k ∉ acc.map (·.1) := fun z => by
      rw [List.map_append, List.map_cons] at h
      exact (List.nodup_append.mp h).2.2 k z k (List.mem_cons_self ..) rfl
    unfold mergeK
    rw [List.foldl_cons, putK_end h1]
    have := merge_end (kvs := kvs) (acc := acc ++ [(k, v)]) (by rw [List.append_assoc]; exact h)
    unfold mergeK at this
    rw [this, List.append_assoc]
    rfl
theorem RpD.keys {K : PySem.W.Frag} {H : Hp} : ∀ {kds : List (Key × D)} {kvs : List (Key × V)}, RpD K H kds kvs → kvs.map (·.1) = kds.map (·.1)
  | [], _, h => by rw [show _ = [] from h]; rfl
  | (k, d) :: kds, _, ⟨y, ys, e, _, h⟩ => by rw [e, List.map_cons, List.map_cons, RpD.keys h]
theorem je_dict (h : PQ X pos ks vs GP) (hall : ks.all (·.isSome) = true := by rfl) (hl : ks.length = vs.length := by rfl) (h0 : ks ≠ [] := by simp) (h15 : ks.length ≤ 15 := by decide) : PE X (.Dict ks vs pos) (tE X.K F E (dispR GP)) := by
  obtain ⟨trs, h1, h2⟩ := h
  refine peI (pe_disp h1 hall hl h0 h15) fun σ H Q ⟨ρ, T, m, o, p⟩ => fun a ha => ?_
  cases e : GP ρ with
  | ex x r => unfold dispR at p; rw [e] at p; exact p.elim
  | bad => unfold dispR at p; rw [e] at p; exact p.elim
  | ok kds ρ1 =>
    unfold dispR at p
    rw [e] at p
    have p : PostE X.K F E T σ Q (if kds.length ≤ 15 ∧ (kds.map (·.1)).Nodup then .ok (.ow (.dic kds)) ρ1 else .bad) := p
    split at p
    · rename_i hz
      refine h2 (frK F a []) T σ _ ρ _ m (o.enterK m ha) ⟨kds, ρ1, e, fun kvs H' o1 => ⟨o1.at_LK, kvs, rfl, ?_, ?_⟩⟩
      · have := congrArg List.length o1.t.2.keys
        rw [List.length_map, List.length_map] at this
        rw [this]; exact hz.1
      · rw [merge_end (acc := []) (by rw [List.nil_append, o1.t.2.keys]; exact hz.2), List.nil_append]
        have o2 := o1.turnK (ys := kvs) (m.and mono_rpd)
        have o3 := o2.leaveK (m.and mono_rpd) o2.t.2 (o.new_h0 ha) (fun z => o.m_new ha (.inl z)) o.m0 o.wt
        exact p _ _ (o3.weak fun _ z => z.1)
    · exact p.elim
end
end DL

namespace DL
open PySem PySem.Spec PyProof.Rows L2
/-! ### the law at its own call -/
theorem law_true {K : PySem.W.Frag} {H : Hp} {a : Addr} {ns : List Int} {Gf : List Ent → R Kd} (h : ∃ ρ, Gf [.va (.scr ns)] = .ok (.va (.bl true)) ρ) (hS : SqL K H a (ns.map V.int)) : spD K 1 Gf [.ref a] H (fun v _ => v = .bl true) fun _ _ _ => False := by
  obtain ⟨ρ, e⟩ := h
  have nM : ∀ b, ¬ Ms ⟨fun _ => False, fun _ => False, H, [V.ref a]⟩ [some (V.ref a)] [Ent.va (D.scr ns)] b := fun b z => by
    rcases z with z | ⟨i, n, d, h1, _⟩
    · exact z
    · cases i with
      | zero => cases h1
      | succ i => cases h1
  have hs : Same H (wo H (Ms ⟨fun _ => False, fun _ => False, H, [V.ref a]⟩ [some (V.ref a)] [Ent.va (D.scr ns)])) := fun b o z => by rw [wo_get (nM b)]; exact z
  refine ⟨rfl, ⟨fun _ => False, fun _ => False, H, [V.ref a]⟩, [.va (.scr ns)], fun _ => True, rfl, rfl, mono_true, ⟨rfl, fun i en v h1 h2 => ?_, fun i j b n m d e h1 h2 h3 h4 => ?_, fun i b n d h1 h2 => ?_, fun b o z _ => z, fun b o z => ⟨o, z⟩, fun b z => z.elim, fun b z => z.elim, True.intro⟩, ?_⟩
  · cases i with
    | zero => cases h1; cases h2; exact ⟨_, rfl, a, rfl, hs.seq hS⟩
    | succ i => cases h1
  · cases i with
    | zero => cases h1
    | succ i => cases h1
  · cases i with
    | zero => cases h1
    | succ i => cases h1
  · rw [e]
    exact fun v H' o => o.t.2
theorem noCX {P : Program} (w : World) (H : Hp) (s : Shared) (e : Value) (s' : Shared) (h : L2.CX P w [] H s (fun _ _ _ => False) e s') : False := by
  obtain ⟨_, _, _, _, _, _, _, _, _, _, _, _, h⟩ := h
  exact h
/-! comprehensions, the slots of their own names written out -/
section
variable {X : Cx} {F : Fr} {E : XK} {elt tg iter : Expr} {ifs : List Expr} {scope : Scope} {own : List (Str × Nat)} {pos : Pos} {g : TG} {Gi : List Ent → R (List D)} {f : D → List Ent → Option (List Ent)} {A : List Ent → R Bool} {G : List Ent → R Kd} {js vs : List Nat}
theorem je_lcV (hc : X.calm = true) (hN : X.N.Nodup) (hi : PI X tg iter (tI X.K F E Gi)) (ok : BlkOk X.N X.env.scope scope own)
    (hg : ∀ (s : Shared) (H : Hp) (C : Addr) (cl : List (Str × Addr)) (fp : List Addr), PG (X.blk s H scope (compEnvC scope cl C X.env) fp) tg g) (ht : TgD X.K g js f) (hv : ∀ i ∈ js, i ∈ vs)
    (hA : ∀ (s : Shared) (H : Hp) (C : Addr) (cl : List (Str × Addr)) (fp : List Addr) (F' : Fr), PTs (X.blk s H scope (compEnvC scope cl C X.env) fp) ifs (tT X.K F' noE A))
    (hG : ∀ (s : Shared) (H : Hp) (C : Addr) (cl : List (Str × Addr)) (fp : List Addr) (F' : Fr), PE (X.blk s H scope (compEnvC scope cl C X.env) fp) elt (tE X.K F' noE G)) (hvs : own.map (·.2) = vs) (hs : ∀ x, foldedSetIterable iter X.env x = pure x := by intro _; rfl) :
    PE X (.ListComp elt [⟨tg, iter, ifs, 0⟩] scope pos) (tE X.K F E (lcR Gi f A G vs)) := by
  subst hvs
  exact je_lc hc hN hi ok hg ht hv hA hG hs
theorem js_setLcV {i : Nat} {y : Str} {py spos : Pos} (hc : X.calm = true) (hN : X.N.Nodup) (hsw : swapsWith (.ListComp elt [⟨tg, iter, ifs, 0⟩] scope pos) (some (.Name y py)) spos.line X.env = pure true) (hi : PI X tg iter (tI X.K F E Gi)) (ok : BlkOk X.N X.env.scope scope own)
    (hg : ∀ (s : Shared) (H : Hp) (C : Addr) (cl : List (Str × Addr)) (fp : List Addr), PG (X.blk s H scope (compEnvC scope cl C X.env) fp) tg g) (ht : TgD X.K g js f) (hv : ∀ i ∈ js, i ∈ vs)
    (hA : ∀ (s : Shared) (H : Hp) (C : Addr) (cl : List (Str × Addr)) (fp : List Addr) (F' : Fr), PTs (X.blk s H scope (compEnvC scope cl C X.env) fp) ifs (tT X.K F' noE A))
    (hG : ∀ (s : Shared) (H : Hp) (C : Addr) (cl : List (Str × Addr)) (fp : List Addr) (F' : Fr), PE (X.blk s H scope (compEnvC scope cl C X.env) fp) elt (tE X.K F' noE G)) (hvs : own.map (·.2) = vs) (hy : X.N[i]? = some y := by rfl) (hyl : X.env.scope.names.lookup y = some .local := by rfl) (hs : ∀ x, foldedSetIterable iter X.env x = pure x := by intro _; rfl) :
    PS X (.Assign [.Name y py] (.ListComp elt [⟨tg, iter, ifs, 0⟩] scope pos) spos) (tS X.K F E (setR i (lcR Gi f A G vs))) := by
  subst hvs
  exact js_setLc hc hN hsw hi ok hg ht hv hA hG hy hyl hs
theorem js_setLcOV {i : Nat} {y : Str} {py spos : Pos} (hc : X.calm = true) (hN : X.N.Nodup) (hsw : swapsWith (.ListComp elt [⟨tg, iter, ifs, 0⟩] scope pos) (some (.Name y py)) spos.line X.env = pure true) (hi : PI X tg iter (tI X.K F E Gi)) (ok : BlkOk X.N X.env.scope scope own)
    (hg : ∀ (s : Shared) (H : Hp) (C : Addr) (cl : List (Str × Addr)) (fp : List Addr), PG (X.blk s H scope (compEnvC scope cl C X.env) fp) tg g) (ht : TgD X.K g js f) (hv : ∀ i ∈ js, i ∈ vs)
    (hA : ∀ (s : Shared) (H : Hp) (C : Addr) (cl : List (Str × Addr)) (fp : List Addr) (F' : Fr), PTs (X.blk s H scope (compEnvC scope cl C X.env) fp) ifs (tT X.K F' noE A))
    (hG : ∀ (s : Shared) (H : Hp) (C : Addr) (cl : List (Str × Addr)) (fp : List Addr) (F' : Fr), PE (X.blk s H scope (compEnvC scope cl C X.env) fp) elt (tE X.K F' noE G)) (hvs : own.map (·.2) = vs) (hy : X.N[i]? = some y := by rfl) (hyl : X.env.scope.names.lookup y = some .local := by rfl) (hs : ∀ x, foldedSetIterable iter X.env x = pure x := by intro _; rfl) :
    PS X (.Assign [.Name y py] (.ListComp elt [⟨tg, iter, ifs, 0⟩] scope pos) spos) (tS X.K F E (setO i (lcR Gi f A G vs))) := by
  subst hvs
  exact js_setLcO hc hN hsw hi ok hg ht hv hA hG hy hyl hs
end
end DL

namespace DL
open PySem PySem.Spec PyProof.Rows L2
/-! ### reckoning on data -/
theorem eqD_int (a b : Int) : eqD (.int a) (.int b) = some (.same (.bl (decide (a = b)))) := rfl
theorem neD_int (a b : Int) : neD (.int a) (.int b) = some (.same (.bl (!decide (a = b)))) := rfl
theorem modD_int {i j : Int} (h : 0 < j) : modD (.int i) (.int j) = some (.same (.int (i % j))) := if_pos h
theorem big_pow {j : Int} (h : j < 2 ^ 64) : j < 2 ^ 8000 := Int.lt_of_lt_of_le h (by
  have : (2 : Nat) ^ 64 ≤ 2 ^ 8000 := Nat.pow_le_pow_right (by decide) (by decide)
  exact_mod_cast this)
theorem fdivD_int {i j : Int} (h : 0 < j) (h2 : j < 2 ^ 64) : fdivD (.int i) (.int j) = some (.same (.int (i / j))) := if_pos ⟨h, big_pow h2⟩
theorem mulD_l {i j : Int} (h : -(2 ^ 64) < i ∧ i < 2 ^ 64) : mulD (.int i) (.int j) = some (.same (.int (i * j))) := if_pos (decide_eq_true (.inl h))
theorem mulD_r {i j : Int} (h : -(2 ^ 64) < j ∧ j < 2 ^ 64) : mulD (.int i) (.int j) = some (.same (.int (i * j))) := if_pos (decide_eq_true (.inr h))
theorem powD_int {i j : Int} (h : 0 ≤ j ∧ j ≤ 1000 ∧ -(2 ^ 63) < i ∧ i < 2 ^ 63) : powD (.int i) (.int j) = some (.same (.int (i ^ j.toNat))) := if_pos h
theorem addD_int (i j : Int) : addD (.int i) (.int j) = some (.same (.int (i + j))) := rfl
theorem subD_int (i j : Int) : subD (.int i) (.int j) = some (.same (.int (i - j))) := rfl
theorem ltD_int (i j : Int) : ltD (.int i) (.int j) = some (.same (.bl (decide (i < j)))) := rfl
theorem leD_int (i j : Int) : leD (.int i) (.int j) = some (.same (.bl (decide (i ≤ j)))) := rfl
theorem gtD_int (i j : Int) : gtD (.int i) (.int j) = some (.same (.bl (decide (j < i)))) := rfl
theorem geD_int (i j : Int) : geD (.int i) (.int j) = some (.same (.bl (decide (j ≤ i)))) := rfl
theorem intD_int (i : Int) : DL.intD [.int i] = some (.same (.int i)) := rfl
theorem lenD_lst (ds : List D) : lenD [.lst ds] = some (.same (.int (ds.length : Int))) := rfl
theorem atI_at {α : Type} {xs : List α} {i : Int} (h : 0 ≤ i ∧ i < xs.length) : atI xs i = xs[i.toNat]? := by
  unfold atI ixN
  rw [if_pos h.1, if_pos h.2]
  rfl
end DL

namespace DL
open PySem PySem.Spec PyProof.Rows L2

/-! ### the direct level: results without frames -/
inductive Res (α : Type) where
  | ok (a : α) | ex (x : Exn) | bad
namespace Res
def bind {α β : Type} : Res α → (α → Res β) → Res β
  | .ok a, f => f a
  | .ex x, _ => .ex x
  | .bad, _ => .bad
theorem bind_assoc {α β γ : Type} (r : Res α) (f : α → Res β) (g : β → Res γ) : (r.bind f).bind g = r.bind fun a => (f a).bind g := by cases r <;> rfl
theorem bind_pure {α : Type} (r : Res α) : r.bind .ok = r := by cases r <;> rfl
theorem ok_bind {α β : Type} (a : α) (f : α → Res β) : (Res.ok a).bind f = f a := rfl
theorem ex_bind {α β : Type} (x : Exn) (f : α → Res β) : (Res.ex x : Res α).bind f = .ex x := rfl
theorem bad_bind {α β : Type} (f : α → Res β) : (Res.bad : Res α).bind f = .bad := rfl
end Res
/-- what is known of the slots -/
abbrev Pat := List (Option Ent)
def Mt (p : Pat) (ρ : List Ent) : Prop := p.length = ρ.length ∧ ∀ (i : Nat) (e : Ent), p[i]? = some (some e) → ρ[i]? = some e
section
variable {p q : Pat} {ρ : List Ent}
theorem Mt.get (h : Mt p ρ) {i : Nat} {e : Ent} (q : p[i]? = some (some e)) : ρ[i]? = some e := h.2 i e q
theorem Mt.set (h : Mt p ρ) (i : Nat) (e : Ent) : Mt (p.set i (some e)) (ρ.set i e) := by
  refine ⟨by rw [List.length_set, List.length_set]; exact h.1, fun j e' q => ?_⟩
  by_cases hj : i = j
  · subst hj
    by_cases hl : i < p.length
    · rw [List.getElem?_set_self hl] at q
      cases q
      exact List.getElem?_set_self (by rw [← h.1]; exact hl)
    · rw [List.getElem?_eq_none (by rw [List.length_set]; omega)] at q
      cases q
  · rw [List.getElem?_set_ne hj] at q ⊢
    exact h.2 j e' q
theorem Mt.drop (h : Mt p ρ) (i : Nat) (e : Ent) : Mt (p.set i none) (ρ.set i e) := by
  refine ⟨by rw [List.length_set, List.length_set]; exact h.1, fun j e' q => ?_⟩
  by_cases hj : i = j
  · subst hj
    by_cases hl : i < p.length
    · rw [List.getElem?_set_self hl] at q
      cases q
    · rw [List.getElem?_eq_none (by rw [List.length_set]; omega)] at q
      cases q
  · rw [List.getElem?_set_ne hj] at q ⊢
    exact h.2 j e' q
/-- p says no more than q -/
def Wk : Pat → Pat → Prop
  | [], q => q = []
  | none :: p, q => ∃ x r, q = x :: r ∧ Wk p r
  | some e :: p, q => ∃ r, q = some e :: r ∧ Wk p r
theorem Wk.len : ∀ {p q : Pat}, Wk p q → p.length = q.length
  | [], q, h => by rw [show q = [] from h]
  | none :: p, q, ⟨x, r, e, h⟩ => by rw [e, List.length_cons, List.length_cons, Wk.len h]
  | some _ :: p, q, ⟨r, e, h⟩ => by rw [e, List.length_cons, List.length_cons, Wk.len h]
theorem Wk.get : ∀ {p q : Pat}, Wk p q → ∀ (i : Nat) (e : Ent), p[i]? = some (some e) → q[i]? = some (some e)
  | [], q, h, i, e, k => by simp at k
  | none :: p, q, ⟨x, r, e1, h⟩, 0, e, k => by simp at k
  | none :: p, q, ⟨x, r, e1, h⟩, i + 1, e, k => by
    subst e1
    simpa using Wk.get h i e (by simpa using k)
  | some _ :: p, q, ⟨r, e1, h⟩, 0, e, k => by subst e1; simpa using k
  | some _ :: p, q, ⟨r, e1, h⟩, i + 1, e, k => by
    subst e1
    simpa using Wk.get h i e (by simpa using k)
theorem Mt.weak (h : Mt q ρ) (w : Wk p q) : Mt p ρ := ⟨w.len.trans h.1, fun i e k => h.2 i e (w.get i e k)⟩
theorem wk_n {x : Option Ent} (h : Wk p q) : Wk (none :: p) (x :: q) := ⟨x, q, rfl, h⟩
theorem wk_s {e : Ent} (h : Wk p q) : Wk (some e :: p) (some e :: q) := ⟨q, rfl, h⟩
theorem wk_e : Wk [] [] := rfl
end
/-- r gives what m gives, Φ of both; nothing is said where m is bad -/
def Sim {α κ : Type} (r : R κ) (m : Res α) (Φ : α → κ → List Ent → Prop) : Prop := match m with
  | .ok a => ∃ k ρ', r = .ok k ρ' ∧ Φ a k ρ'
  | .ex x => ∃ ρ', r = .ex x ρ'
  | .bad => True
section
variable {α β κ ν : Type} {r : R κ} {m : Res α} {Φ Φ' : α → κ → List Ent → Prop} {Ψ : β → ν → List Ent → Prop}
theorem Sim.bind {f : κ → List Ent → R ν} {g : α → Res β} (h : Sim r m Φ) (k : ∀ a b ρ', Φ a b ρ' → Sim (f b ρ') (g a) Ψ) : Sim (r.bind f) (m.bind g) Ψ := by
  cases m with
  | bad => exact True.intro
  | ex x => obtain ⟨ρ', e⟩ := h; rw [e]; exact ⟨ρ', rfl⟩
  | ok a => obtain ⟨b, ρ', e, q⟩ := h; rw [e]; exact k a b ρ' q
theorem Sim.imp (h : Sim r m Φ) (k : ∀ a b ρ', Φ a b ρ' → Φ' a b ρ') : Sim r m Φ' := by
  cases m with
  | bad => exact True.intro
  | ex x => exact h
  | ok a => obtain ⟨b, ρ', e, q⟩ := h; exact ⟨b, ρ', e, k _ _ _ q⟩
theorem sim_ok {a : α} {b : κ} {ρ' : List Ent} (h : Φ a b ρ') : Sim (.ok b ρ') (.ok a) Φ := ⟨b, ρ', rfl, h⟩
end
abbrev CPS (α : Type) := (γ : Type) → (α → Res γ) → Res γ
def EX (p : Pat) {α κ : Type} (g : List Ent → R κ) (M : CPS α) (Φ : α → κ → List Ent → Prop) : Prop := ∀ ρ, Mt p ρ → ∀ (γ β : Type) (K : α → Res γ) (f : κ → List Ent → R β) (Ψ : γ → β → List Ent → Prop), (∀ a k ρ', Φ a k ρ' → Sim (f k ρ') (K a) Ψ) → Sim ((g ρ).bind f) (M γ K) Ψ
theorem R.bind_ok {κ : Type} (r : R κ) : r.bind .ok = r := by cases r <;> rfl
theorem EX.sim {p : Pat} {α κ : Type} {g : List Ent → R κ} {M : CPS α} {Φ : α → κ → List Ent → Prop} (h : EX p g M Φ) {ρ : List Ent} (m : Mt p ρ) : Sim (g ρ) (M α .ok) Φ := by
  have := h ρ m α κ .ok .ok Φ fun a k ρ' q => sim_ok q
  rw [R.bind_ok] at this
  exact this
/-- from a plain statement -/
theorem ex_of {p : Pat} {α κ : Type} {g : List Ent → R κ} {m : Res α} {Φ : α → κ → List Ent → Prop} (h : ∀ ρ, Mt p ρ → Sim (g ρ) m Φ) : EX p g (fun γ K => m.bind K) Φ := fun ρ mt γ β K f Ψ k => (h ρ mt).bind k
theorem ex_ok {p : Pat} {α κ : Type} {g : List Ent → R κ} {a : α} {Φ : α → κ → List Ent → Prop} (h : ∀ ρ, Mt p ρ → ∃ k ρ', g ρ = .ok k ρ' ∧ Φ a k ρ') : EX p g (fun γ K => K a) Φ := fun ρ mt γ β K f Ψ k => by
  obtain ⟨b, ρ', e, q⟩ := h ρ mt
  rw [e]
  exact k a b ρ' q

/-! ### expressions -/
/-- a plain value, or a new thing -/
def Kr (k : Kd) (d : D) : Prop := k = .va d ∨ (k = .ow d ∧ isMut d)
/-- what a kind tells, by the pattern -/
def KD (p : Pat) (k : Kd) (d : D) : Prop := Kr k d ∨ ∃ i n, k = .al i ∧ p[i]? = some (some (.ow n d))
def fk : Kd → Kd
  | .ow d => .va d
  | k => k
theorem fz_b {β : Type} (r : R Kd) (f : Kd → List Ent → R β) : (fz r).bind f = r.bind fun k ρ => f (fk k) ρ := by
  cases r with
  | ok k ρ => cases k <;> rfl
  | ex x ρ => rfl
  | bad => rfl
theorem toVa_b {β : Type} (r : R Kd) (f : Kd → List Ent → R β) : (toVa r).bind f = r.bind fun k ρ => (toVa (.ok k ρ)).bind f := by
  cases r with
  | ok k ρ => cases k <;> rfl
  | ex x ρ => rfl
  | bad => rfl
theorem toB_b {β : Type} (r : R Kd) (f : Bool → List Ent → R β) : (toB r).bind f = r.bind fun k ρ => (toB (.ok k ρ)).bind f := by
  cases r with
  | ok k ρ => rfl
  | ex x ρ => rfl
  | bad => rfl
theorem Kr.fk {k : Kd} {d : D} (h : Kr k d) : fk k = .va d := by
  rcases h with rfl | ⟨rfl, _⟩ <;> rfl
theorem Kr.toVa {k : Kd} {d : D} (h : Kr k d) (ρ : List Ent) : toVa (.ok k ρ) = .ok (.va d) ρ := by
  rcases h with rfl | ⟨rfl, _⟩ <;> rfl
theorem KD.cont {p : Pat} {ρ : List Ent} {k : Kd} {d : D} (h : KD p k d) (m : Mt p ρ) : cont ρ (DL.fk k) = some d := by
  rcases h with h | ⟨i, n, rfl, q⟩
  · rw [h.fk]; rfl
  · have := m.get q
    show (match ρ[i]? with
      | some (.ow _ d) => some d
      | some (.va d) => some d
      | _ => none) = some d
    rw [this]
/-- content: a value, or a slot's own thing -/
def EC (p : Pat) (G : List Ent → R Kd) (M : CPS D) : Prop := EX p G M fun d k ρ' => Mt p ρ' ∧ KD p k d
/-- a value, with what it did to the slots -/
def EF (p : Pat) (G : List Ent → R Kd) {α : Type} (M : CPS α) (d : α → D) (p' : α → Pat) : Prop := EX p G M fun a k ρ' => Kr k (d a) ∧ Mt (p' a) ρ'
/-- a plain value: nothing is done to the slots -/
abbrev EP (p : Pat) (G : List Ent → R Kd) (M : CPS D) : Prop := EF p G M (fun d => d) (fun _ => p)
/-- a new thing -/
def EW (p : Pat) (G : List Ent → R Kd) {α : Type} (M : CPS α) (d : α → D) (p' : α → Pat) : Prop := EX p G M fun a k ρ' => k = .ow (d a) ∧ isMut (d a) ∧ Mt (p' a) ρ'
/-- a value that is let go -/
def EV (p : Pat) (G : List Ent → R Kd) {α : Type} (M : CPS α) (d : α → D) (p' : α → Pat) : Prop := EX p (fun ρ => toVa (G ρ)) M fun a k ρ' => k = .va (d a) ∧ Mt (p' a) ρ'
/-- a test -/
def EB (p : Pat) (A : List Ent → R Bool) {α : Type} (M : CPS α) (d : α → Bool) (p' : α → Pat) : Prop := EX p A M fun a k ρ' => k = d a ∧ Mt (p' a) ρ'
abbrev EBP (p : Pat) (A : List Ent → R Bool) (M : CPS Bool) : Prop := EB p A M (fun d => d) (fun _ => p)
/-- arguments, all values -/
def EA (p : Pat) (GA : List Ent → R (List Kd)) {α : Type} (M : CPS α) (ds : α → List D) (p' : α → Pat) : Prop := EX p GA M fun a ks ρ' => ks = (ds a).map .va ∧ Mt (p' a) ρ'
abbrev EAP (p : Pat) (GA : List Ent → R (List Kd)) (M : CPS (List D)) : Prop := EA p GA M (fun d => d) (fun _ => p)
/-- arguments by their content -/
def KDs (p : Pat) : List Kd → List D → Prop
  | [], ds => ds = []
  | k :: ks, ds => ∃ d r, ds = d :: r ∧ (k = .va d ∨ ∃ i n, k = .al i ∧ p[i]? = some (some (.ow n d))) ∧ KDs p ks r
def EAC (p : Pat) (GA : List Ent → R (List Kd)) (M : CPS (List D)) : Prop := EX p GA M fun ds ks ρ' => KDs p ks ds ∧ Mt p ρ'
/-- an owned first argument, then values -/
def EAB (p : Pat) (GA : List Ent → R (List Kd)) (i : Nat) {α : Type} (M : CPS α) (ds : α → List D) (p' : α → Pat) : Prop := EX p GA M fun a ks ρ' => ks = .al i :: (ds a).map .va ∧ Mt (p' a) ρ'
theorem EP.ec {p : Pat} {G : List Ent → R Kd} {M : CPS D} (h : EP p G M) : EC p G M := fun ρ m γ β K f Ψ k => h ρ m γ β K f Ψ fun a kd ρ' ⟨e, m'⟩ => k a kd ρ' ⟨m', .inl e⟩
def outD : Out → D
  | .same d => d
  | .newL ds => .lst ds
  | .newT ds => .tup ds
  | .newD kvs => .dic kvs
def ofO : Option Out → Res D
  | some o => .ok (outD o)
  | none => .bad
def opM (g : D → D → Option Out) (a b : D) : Res D := ofO (g a b)
theorem sim_outO {r : Option Out} {ρ : List Ent} {q : Pat} (m : Mt q ρ) : Sim (outO r ρ) (ofO r) fun d k ρ' => Kr k d ∧ Mt q ρ' := by
  cases r with
  | none => exact True.intro
  | some o =>
    cases o with
    | same d => exact ⟨_, ρ, rfl, .inl rfl, m⟩
    | newL d => exact ⟨_, ρ, rfl, .inr ⟨rfl, True.intro⟩, m⟩
    | newT d => exact ⟨_, ρ, rfl, .inl rfl, m⟩
    | newD d => exact ⟨_, ρ, rfl, .inr ⟨rfl, True.intro⟩, m⟩
section
variable {p : Pat} {Ga Gb Gc G : List Ent → R Kd} {GA : List Ent → R (List Kd)} {A B : List Ent → R Bool} {Ma Mb Mc M : CPS D} {α β : Type} {MA : CPS α} {MB : α → CPS β} {dA : α → D} {dB : α → β → D} {pA : α → Pat} {pB : α → β → Pat}
theorem EF.ev (h : EF p G MA dA pA) : EV p G MA dA pA := fun ρ m γ β K f Ψ k => by
  show Sim ((toVa (G ρ)).bind f) (MA γ K) Ψ
  rw [toVa_b]
  refine h ρ m γ β K _ Ψ fun a kd ρ' ⟨e, m'⟩ => ?_
  rw [e.toVa]
  exact k a _ ρ' ⟨rfl, m'⟩
theorem ep_name (i : Nat) (d : D) (h : p[i]? = some (some (.va d))) : EP p (nameR i) (fun _ K => K d) := ex_ok fun ρ m => ⟨.va d, ρ, by show nameR i ρ = _; unfold nameR; rw [m.get h], .inl rfl, m⟩
theorem ec_own (i : Nat) (n : Option Nat) (d : D) (h : p[i]? = some (some (.ow n d))) : EC p (nameR i) (fun _ K => K d) := ex_ok fun ρ m => ⟨.al i, ρ, by show nameR i ρ = _; unfold nameR; rw [m.get h], m, .inr ⟨i, n, rfl, h⟩⟩
/-- a slot's own thing is let go -/
theorem ev_own (i : Nat) (n : Option Nat) (d : D) (h : p[i]? = some (some (.ow n d))) : EV p (nameR i) (fun _ K => K d) (fun d => d) (fun _ => p.set i (some (.va d))) := ex_ok fun ρ m => ⟨.va d, ρ.set i (.va d), by
  show toVa (nameR i ρ) = _
  unfold nameR
  rw [m.get h]
  show (match ρ[i]? with
    | some (.ow _ d) => .ok (.va d) (ρ.set i (.va d))
    | some (.va d) => .ok (.va d) ρ
    | _ => .bad : R Kd) = _
  rw [m.get h], rfl, m.set i _⟩
theorem ep_c (d : D) : EP p (cR d) (fun _ K => K d) := ex_ok fun ρ m => ⟨.va d, ρ, rfl, .inl rfl, m⟩
theorem ep_bin {g : D → D → Option Out} (ha : EC p Ga Ma) (hb : EC p Gb Mb) : EP p (binR g Ga Gb) (fun γ K => Ma γ fun a => Mb γ fun b => (opM g a b).bind K) := fun ρ m γ β K f Ψ h => by
  show Sim ((binR g Ga Gb ρ).bind f) _ _
  unfold binR
  rw [R.bind_assoc, fz_b]
  refine ha ρ m γ β _ _ Ψ fun a k1 ρ1 ⟨m1, d1⟩ => ?_
  rw [R.bind_assoc, fz_b]
  refine hb ρ1 m1 γ β _ _ Ψ fun b k2 ρ2 ⟨m2, d2⟩ => ?_
  have e : opK g (fk k1) (fk k2) ρ2 = outO (g a b) ρ2 := by
    unfold opK
    rw [d1.cont m2, d2.cont m2]
  rw [e]
  exact (sim_outO m2).bind h
/-- the same where both may do something to the slots -/
theorem ef_bin {g : D → D → Option Out} (ha : EF p Ga MA dA pA) (hb : ∀ a, EF (pA a) Gb (MB a) (dB a) (pB a)) : EF p (binR g Ga Gb) (fun γ K => MA γ fun a => MB a γ fun b => (opM g (dA a) (dB a b)).bind fun d => K (a, b, d)) (fun t => t.2.2) (fun t => pB t.1 t.2.1) := fun ρ m γ β K f Ψ h => by
  show Sim ((binR g Ga Gb ρ).bind f) _ _
  unfold binR
  rw [R.bind_assoc, fz_b]
  refine ha ρ m γ β _ _ Ψ fun a k1 ρ1 ⟨e1, m1⟩ => ?_
  rw [R.bind_assoc, fz_b]
  refine hb a ρ1 m1 γ β _ _ Ψ fun b k2 ρ2 ⟨e2, m2⟩ => ?_
  rw [e1.fk, e2.fk]
  show Sim ((outO (g (dA a) (dB a b)) ρ2).bind f) _ _
  exact (sim_outO m2).bind fun d k ρ' q => h (a, b, d) k ρ' q
/-! tests -/
def asB : D → Res Bool
  | .bl b => .ok b
  | _ => .bad
theorem asB_toB {κ β : Type} {Ψ : β → κ → List Ent → Prop} {d : D} {k : Kd} {ρ : List Ent} {f : Bool → List Ent → R κ} {K : Bool → Res β} (h : Kr k d) (q : ∀ b, d = .bl b → Sim (f b ρ) (K b) Ψ) : Sim ((toB (.ok k ρ)).bind f) ((asB d).bind K) Ψ := by
  cases d with
  | bl b =>
    rcases h with rfl | ⟨_, z⟩
    · exact q b rfl
    · exact z.elim
  | non => exact True.intro
  | int _ => exact True.intro
  | str _ => exact True.intro
  | lst _ => exact True.intro
  | tup _ => exact True.intro
  | ins _ _ => exact True.intro
  | prs _ => exact True.intro
  | dic _ => exact True.intro
  | scr _ => exact True.intro
theorem eb_val (h : EF p G MA dA pA) : EB p (fun ρ => toB (G ρ)) (fun γ K => MA γ fun a => (asB (dA a)).bind fun b => K (a, b)) (fun t => t.2) (fun t => pA t.1) := fun ρ m γ β K f Ψ k => by
  show Sim ((toB (G ρ)).bind f) _ _
  rw [toB_b]
  refine h ρ m γ β _ _ Ψ fun a k1 ρ1 ⟨e1, m1⟩ => ?_
  exact asB_toB e1 fun b _ => k (a, b) _ ρ1 ⟨rfl, m1⟩
theorem ebp_val (h : EP p G M) : EBP p (fun ρ => toB (G ρ)) (fun γ K => M γ fun a => (asB a).bind K) := fun ρ m γ β K f Ψ k => by
  show Sim ((toB (G ρ)).bind f) _ _
  rw [toB_b]
  refine h ρ m γ β _ _ Ψ fun a k1 ρ1 ⟨e1, m1⟩ => ?_
  exact asB_toB e1 fun b _ => k b _ ρ1 ⟨rfl, m1⟩
theorem ebp_not {N : CPS Bool} (h : EBP p A N) : EBP p (notR A) (fun γ K => N γ fun b => K !b) := fun ρ m γ β K f Ψ k => by
  show Sim ((notR A ρ).bind f) _ _
  unfold notR
  rw [R.bind_assoc]
  exact h ρ m γ β _ _ Ψ fun a k1 ρ1 ⟨e1, m1⟩ => k (!a) _ ρ1 ⟨by rw [e1], m1⟩
theorem ebp_and {N O : CPS Bool} (h : EBP p A N) (h2 : EBP p B O) : EBP p (andR A B) (fun γ K => N γ fun b => (if b then O Bool .ok else .ok false).bind K) := fun ρ m γ β K f Ψ k => by
  show Sim ((andR A B ρ).bind f) _ _
  unfold andR
  rw [R.bind_assoc]
  refine h ρ m γ β _ _ Ψ fun a k1 ρ1 ⟨e1, m1⟩ => ?_
  subst e1
  cases k1 with
  | true => exact (h2.sim m1).bind k
  | false => exact k false _ ρ1 ⟨rfl, m1⟩
theorem ebp_or {N O : CPS Bool} (h : EBP p A N) (h2 : EBP p B O) : EBP p (orR A B) (fun γ K => N γ fun b => (if b then .ok true else O Bool .ok).bind K) := fun ρ m γ β K f Ψ k => by
  show Sim ((orR A B ρ).bind f) _ _
  unfold orR
  rw [R.bind_assoc]
  refine h ρ m γ β _ _ Ψ fun a k1 ρ1 ⟨e1, m1⟩ => ?_
  subst e1
  cases k1 with
  | false => exact (h2.sim m1).bind k
  | true => exact k true _ ρ1 ⟨rfl, m1⟩
theorem ep_and (h : EP p Ga Ma) (h2 : EP p Gb Mb) : EP p (andV Ga Gb) (fun γ K => Ma γ fun a => (asB a).bind fun b => (if b then Mb D .ok else .ok (.bl false)).bind K) := fun ρ m γ β K f Ψ k => by
  show Sim ((andV Ga Gb ρ).bind f) _ _
  unfold andV
  rw [R.bind_assoc, toB_b]
  refine h ρ m γ β _ _ Ψ fun a k1 ρ1 ⟨e1, m1⟩ => asB_toB e1 fun b _ => ?_
  cases b with
  | true => exact (h2.sim m1).bind k
  | false => exact k (.bl false) _ ρ1 ⟨.inl rfl, m1⟩
theorem ep_or (h : EP p Ga Ma) (h2 : EP p Gb Mb) : EP p (orV Ga Gb) (fun γ K => Ma γ fun a => (asB a).bind fun b => (if b then .ok (.bl true) else Mb D .ok).bind K) := fun ρ m γ β K f Ψ k => by
  show Sim ((orV Ga Gb ρ).bind f) _ _
  unfold orV
  rw [R.bind_assoc, toB_b]
  refine h ρ m γ β _ _ Ψ fun a k1 ρ1 ⟨e1, m1⟩ => asB_toB e1 fun b _ => ?_
  cases b with
  | false => exact (h2.sim m1).bind k
  | true => exact k (.bl true) _ ρ1 ⟨.inl rfl, m1⟩
theorem ep_not (h : EP p Ga Ma) : EP p (notV Ga) (fun γ K => Ma γ fun a => (asB a).bind fun b => K (.bl !b)) := fun ρ m γ β K f Ψ k => by
  show Sim ((notV Ga ρ).bind f) _ _
  unfold notV
  rw [R.bind_assoc, toB_b]
  exact h ρ m γ β _ _ Ψ fun a k1 ρ1 ⟨e1, m1⟩ => asB_toB e1 fun b _ => k (.bl !b) _ ρ1 ⟨.inl rfl, m1⟩
theorem ep_if {N : CPS Bool} (h : EBP p A N) (ha : EP p Ga Ma) (hb : EP p Gb Mb) : EP p (ifR A Ga Gb) (fun γ K => N γ fun b => (if b then Ma D .ok else Mb D .ok).bind K) := fun ρ m γ β K f Ψ k => by
  show Sim ((ifR A Ga Gb ρ).bind f) _ _
  unfold ifR
  rw [R.bind_assoc]
  refine h ρ m γ β _ _ Ψ fun a k1 ρ1 ⟨e1, m1⟩ => ?_
  subst e1
  cases k1 with
  | true => exact (ha.sim m1).bind k
  | false => exact (hb.sim m1).bind k
/-- the test may do something to the slots -/
theorem ef_if {dB : α → Bool} (h : EB p A MA dB pA) {MaF MbF : α → CPS D} (ha : ∀ t, EP (pA t) Ga (MaF t)) (hb : ∀ t, EP (pA t) Gb (MbF t)) : EF p (ifR A Ga Gb) (fun γ K => MA γ fun t => (if dB t then MaF t D .ok else MbF t D .ok).bind fun d => K (t, d)) (fun t => t.2) (fun t => pA t.1) := fun ρ m γ β K f Ψ k => by
  show Sim ((ifR A Ga Gb ρ).bind f) _ _
  unfold ifR
  rw [R.bind_assoc]
  refine h ρ m γ β _ _ Ψ fun a k1 ρ1 ⟨e1, m1⟩ => ?_
  subst e1
  cases dB a with
  | true => exact ((ha a).sim m1).bind fun d kd ρ' q => k (a, d) kd ρ' q
  | false => exact ((hb a).sim m1).bind fun d kd ρ' q => k (a, d) kd ρ' q
theorem ep_chain {g g' : D → D → Option Out} (ha : EC p Ga Ma) (hb : EC p Gb Mb) (hc : EC p Gc Mc) : EP p (chainR g g' Ga Gb Gc) (fun γ K => Ma γ fun a => Mb γ fun b => (opM g a b).bind fun v => (asB v).bind fun t => (if t then Mc D (fun c => opM g' b c) else .ok (.bl false)).bind K) := fun ρ m γ β K f Ψ k => by
  show Sim ((chainR g g' Ga Gb Gc ρ).bind f) _ _
  unfold chainR
  rw [R.bind_assoc, fz_b]
  refine ha ρ m γ β _ _ Ψ fun a k1 ρ1 ⟨m1, d1⟩ => ?_
  rw [R.bind_assoc, fz_b]
  refine hb ρ1 m1 γ β _ _ Ψ fun b k2 ρ2 ⟨m2, d2⟩ => ?_
  have e : opK g (fk k1) (fk k2) ρ2 = outO (g a b) ρ2 := by
    unfold opK
    rw [d1.cont m2, d2.cont m2]
  rw [e, R.bind_assoc, toB_b]
  refine (sim_outO m2).bind fun v k3 ρ3 ⟨e3, m3⟩ => asB_toB e3 fun t _ => ?_
  cases t with
  | false => exact k (.bl false) _ ρ3 ⟨.inl rfl, m3⟩
  | true =>
    show Sim (((fz (Gc ρ3)).bind fun k3 ρ4 => opK g' (fk k2) k3 ρ4).bind f) ((Mc D fun c => opM g' b c).bind K) Ψ
    refine Sim.bind (Φ := fun d k ρ' => Kr k d ∧ Mt p ρ') ?_ k
    rw [fz_b]
    refine hc ρ3 m3 D Kd _ _ _ fun c k4 ρ4 ⟨m4, d4⟩ => ?_
    have e : opK g' (fk k2) (fk k4) ρ4 = outO (g' b c) ρ4 := by
      unfold opK
      rw [d2.cont m4, d4.cont m4]
    rw [e]
    exact sim_outO m4
end
end DL

namespace DL
open PySem PySem.Spec PyProof.Rows L2
section
variable {p : Pat} {G : List Ent → R Kd} {GA : List Ent → R (List Kd)} {M : CPS D} {α β : Type} {MA : CPS α} {MB : α → CPS β} {dA : α → D} {dB : α → β → List D} {dsA : α → List D} {pA : α → Pat} {pB : α → β → Pat}
/-! arguments -/
theorem ea_nil : EAP p nilA (fun _ K => K []) := ex_ok fun ρ m => ⟨[], ρ, rfl, rfl, m⟩
theorem eac_nil : EAC p nilA (fun _ K => K []) := ex_ok fun ρ m => ⟨[], ρ, rfl, rfl, m⟩
theorem ea_cons (h : EP p G M) {N : CPS (List D)} (h2 : EAP p GA N) : EAP p (consV G GA) (fun γ K => M γ fun a => N γ fun r => K (a :: r)) := fun ρ m γ β K f Ψ k => by
  show Sim ((consV G GA ρ).bind f) _ _
  unfold consV
  rw [R.bind_assoc]
  refine h.ev ρ m γ β _ _ Ψ fun a k1 ρ1 ⟨e1, m1⟩ => ?_
  rw [R.bind_assoc]
  refine h2 ρ1 m1 γ β _ _ Ψ fun r ks ρ2 ⟨e2, m2⟩ => ?_
  exact k (a :: r) _ ρ2 ⟨by rw [e1, e2]; rfl, m2⟩
theorem ea_consF (h : EV p G MA dA pA) (h2 : ∀ a, EA (pA a) GA (MB a) (dB a) (pB a)) : EA p (consV G GA) (fun γ K => MA γ fun a => MB a γ fun r => K (a, r)) (fun t => dA t.1 :: dB t.1 t.2) (fun t => pB t.1 t.2) := fun ρ m γ β K f Ψ k => by
  show Sim ((consV G GA ρ).bind f) _ _
  unfold consV
  rw [R.bind_assoc]
  refine h ρ m γ β _ _ Ψ fun a k1 ρ1 ⟨e1, m1⟩ => ?_
  rw [R.bind_assoc]
  refine h2 a ρ1 m1 γ β _ _ Ψ fun r ks ρ2 ⟨e2, m2⟩ => ?_
  exact k (a, r) _ ρ2 ⟨by rw [e1, e2]; rfl, m2⟩
theorem ea_consR (h : EF p G MA dA pA) (h2 : ∀ a, EA (pA a) GA (MB a) (dB a) (pB a)) : EA p (consR G GA) (fun γ K => MA γ fun a => MB a γ fun r => K (a, r)) (fun t => dA t.1 :: dB t.1 t.2) (fun t => pB t.1 t.2) := fun ρ m γ β K f Ψ k => by
  show Sim ((consR G GA ρ).bind f) _ _
  unfold consR
  rw [R.bind_assoc, fz_b]
  refine h ρ m γ β _ _ Ψ fun a k1 ρ1 ⟨e1, m1⟩ => ?_
  rw [R.bind_assoc]
  refine h2 a ρ1 m1 γ β _ _ Ψ fun r ks ρ2 ⟨e2, m2⟩ => ?_
  exact k (a, r) _ ρ2 ⟨by rw [e1.fk, e2]; rfl, m2⟩
theorem eac_cons (h : EC p G M) {N : CPS (List D)} (h2 : EAC p GA N) : EAC p (consR G GA) (fun γ K => M γ fun a => N γ fun r => K (a :: r)) := fun ρ m γ β K f Ψ k => by
  show Sim ((consR G GA ρ).bind f) _ _
  unfold consR
  rw [R.bind_assoc, fz_b]
  refine h ρ m γ β _ _ Ψ fun a k1 ρ1 ⟨m1, d1⟩ => ?_
  rw [R.bind_assoc]
  refine h2 ρ1 m1 γ β _ _ Ψ fun r ks ρ2 ⟨d2, m2⟩ => ?_
  refine k (a :: r) _ ρ2 ⟨⟨a, r, rfl, ?_, d2⟩, m2⟩
  rcases d1 with d1 | ⟨i, n, rfl, q⟩
  · exact .inl d1.fk
  · exact .inr ⟨i, n, rfl, q⟩
/-- the first one is a slot's own thing -/
theorem eab_cons (i : Nat) (n : Option Nat) (d : D) (h : p[i]? = some (some (.ow n d))) (h2 : EA p GA MA dsA pA) : EAB p (consR (nameR i) GA) i MA dsA pA := fun ρ m γ β K f Ψ k => by
  show Sim ((consR (nameR i) GA ρ).bind f) _ _
  unfold consR
  have e : nameR i ρ = .ok (.al i) ρ := by unfold nameR; rw [m.get h]
  rw [R.bind_assoc, e]
  show Sim (((GA ρ).bind fun ks ρ2 => R.ok (.al i :: ks) ρ2).bind f) _ _
  rw [R.bind_assoc]
  refine h2 ρ m γ β _ _ Ψ fun r ks ρ2 ⟨e2, m2⟩ => ?_
  exact k r _ ρ2 ⟨by rw [e2], m2⟩
theorem vas_map : ∀ ds : List D, vas (ds.map .va) = some ds
  | [] => rfl
  | d :: ds => by
    show (vas (ds.map .va)).map (d :: ·) = _
    rw [vas_map ds]; rfl
theorem conts_kds {ρ : List Ent} (m : Mt p ρ) : ∀ {ks : List Kd} {ds : List D}, KDs p ks ds → conts ρ ks = some ds
  | [], ds, h => by rw [show ds = [] from h]; rfl
  | k :: ks, _, ⟨d, r, e, h, h2⟩ => by
    subst e
    have c : cont ρ k = some d := by
      rcases h with rfl | ⟨i, n, rfl, q⟩
      · rfl
      · have := m.get q
        show (match ρ[i]? with
          | some (.ow _ d) => some d
          | some (.va d) => some d
          | _ => none) = some d
        rw [this]
    show (match cont ρ k with
      | some d => (conts ρ ks).map (d :: ·)
      | none => none) = _
    rw [c]
    show (conts ρ ks).map (d :: ·) = _
    rw [conts_kds m h2]; rfl
/-! displays -/
def lstM (ds : List D) : Res D := if ds.length ≤ big then .ok (.lst ds) else .bad
def tupM (ds : List D) : Res D := if ds.length ≤ big then .ok (.tup ds) else .bad
theorem ew_list (h : EA p GA MA dsA pA) : EW p (listR GA) (fun γ K => MA γ fun a => (lstM (dsA a)).bind fun d => K (a, d)) (fun t => t.2) (fun t => pA t.1) := fun ρ m γ β K f Ψ k => by
  show Sim ((listR GA ρ).bind f) _ _
  unfold listR
  rw [R.bind_assoc]
  refine h ρ m γ β _ _ Ψ fun a ks ρ1 ⟨e1, m1⟩ => ?_
  subst e1
  rw [vas_map]
  unfold lstM
  show Sim ((if (dsA a).length ≤ big then outR (.newL (dsA a)) ρ1 else .bad).bind f) _ _
  split
  · exact k (a, _) _ ρ1 ⟨rfl, True.intro, m1⟩
  · exact True.intro
theorem ewp_list {N : CPS (List D)} (h : EAP p GA N) : EW p (listR GA) (fun γ K => N γ fun ds => (lstM ds).bind K) (fun d => d) (fun _ => p) := fun ρ m γ β K f Ψ k => by
  show Sim ((listR GA ρ).bind f) _ _
  unfold listR
  rw [R.bind_assoc]
  refine h ρ m γ β _ _ Ψ fun ds ks ρ1 ⟨e1, m1⟩ => ?_
  subst e1
  rw [vas_map]
  unfold lstM
  show Sim ((if ds.length ≤ big then outR (.newL ds) ρ1 else .bad).bind f) _ _
  split
  · exact k _ _ ρ1 ⟨rfl, True.intro, m1⟩
  · exact True.intro
theorem EW.ef (h : EW p G MA dA pA) : EF p G MA dA pA := fun ρ m γ β K f Ψ k => h ρ m γ β K f Ψ fun a kd ρ' ⟨e, i, m'⟩ => k a kd ρ' ⟨.inr ⟨e, i⟩, m'⟩
theorem ef_tup (h : EA p GA MA dsA pA) : EF p (tupR GA) (fun γ K => MA γ fun a => (tupM (dsA a)).bind fun d => K (a, d)) (fun t => t.2) (fun t => pA t.1) := fun ρ m γ β K f Ψ k => by
  show Sim ((tupR GA ρ).bind f) _ _
  unfold tupR
  rw [R.bind_assoc]
  refine h ρ m γ β _ _ Ψ fun a ks ρ1 ⟨e1, m1⟩ => ?_
  subst e1
  rw [vas_map]
  unfold tupM
  show Sim ((if (dsA a).length ≤ big then outR (.newT (dsA a)) ρ1 else .bad).bind f) _ _
  split
  · exact k (a, _) _ ρ1 ⟨.inl rfl, m1⟩
  · exact True.intro
theorem ep_tup {N : CPS (List D)} (h : EAP p GA N) : EP p (tupR GA) (fun γ K => N γ fun ds => (tupM ds).bind K) := fun ρ m γ β K f Ψ k => by
  show Sim ((tupR GA ρ).bind f) _ _
  unfold tupR
  rw [R.bind_assoc]
  refine h ρ m γ β _ _ Ψ fun ds ks ρ1 ⟨e1, m1⟩ => ?_
  subst e1
  rw [vas_map]
  unfold tupM
  show Sim ((if ds.length ≤ big then outR (.newT ds) ρ1 else .bad).bind f) _ _
  split
  · exact k _ _ ρ1 ⟨.inl rfl, m1⟩
  · exact True.intro
/-! built-ins -/
def fnM (g : List D → Option Out) (ds : List D) : Res D := ofO (g ds)
theorem ep_fn {g : List D → Option Out} {N : CPS (List D)} (h : EAC p GA N) : EP p (callR g GA) (fun γ K => N γ fun ds => (fnM g ds).bind K) := fun ρ m γ β K f Ψ k => by
  show Sim ((callR g GA ρ).bind f) _ _
  unfold callR
  rw [R.bind_assoc]
  refine h ρ m γ β _ _ Ψ fun ds ks ρ1 ⟨e1, m1⟩ => ?_
  rw [conts_kds m1 e1]
  exact (sim_outO m1).bind k
theorem ef_fn {g : List D → Option Out} (h : EA p GA MA dsA pA) : EF p (callR g GA) (fun γ K => MA γ fun a => (fnM g (dsA a)).bind fun d => K (a, d)) (fun t => t.2) (fun t => pA t.1) := fun ρ m γ β K f Ψ k => by
  show Sim ((callR g GA ρ).bind f) _ _
  unfold callR
  rw [R.bind_assoc]
  refine h ρ m γ β _ _ Ψ fun a ks ρ1 ⟨e1, m1⟩ => ?_
  subst e1
  have c : ∀ ds : List D, conts ρ1 (ds.map .va) = some ds := fun ds => by
    induction ds with
    | nil => rfl
    | cons d ds ih =>
      show (conts ρ1 (ds.map .va)).map (d :: ·) = _
      rw [ih]; rfl
  rw [c]
  exact (sim_outO m1).bind fun d kd ρ' q => k (a, d) kd ρ' q
/-- as a new list -/
def newM (g : List D → Option Out) (ds : List D) : Res D := match g ds with
  | some (.newL ds) => .ok (.lst ds)
  | some (.newD kvs) => .ok (.dic kvs)
  | _ => .bad
theorem ew_fn {g : List D → Option Out} {N : CPS (List D)} (h : EAC p GA N) : EW p (callR g GA) (fun γ K => N γ fun ds => (newM g ds).bind K) (fun d => d) (fun _ => p) := fun ρ m γ β K f Ψ k => by
  show Sim ((callR g GA ρ).bind f) _ _
  unfold callR
  rw [R.bind_assoc]
  refine h ρ m γ β _ _ Ψ fun ds ks ρ1 ⟨e1, m1⟩ => ?_
  rw [conts_kds m1 e1]
  show Sim ((outO (g ds) ρ1).bind f) _ _
  unfold newM
  cases q : g ds with
  | none => exact True.intro
  | some o =>
    cases o with
    | same d => exact True.intro
    | newT d => exact True.intro
    | newL d => exact k (.lst d) (.ow (.lst d)) ρ1 ⟨rfl, True.intro, m1⟩
    | newD d => exact k (.dic d) (.ow (.dic d)) ρ1 ⟨rfl, True.intro, m1⟩
def newO (g : D → D → Option Out) (a b : D) : Res D := match g a b with
  | some (.newL ds) => .ok (.lst ds)
  | some (.newD kvs) => .ok (.dic kvs)
  | _ => .bad
theorem ew_bin {Ga Gb : List Ent → R Kd} {Ma Mb : CPS D} {g : D → D → Option Out} (ha : EC p Ga Ma) (hb : EC p Gb Mb) : EW p (binR g Ga Gb) (fun γ K => Ma γ fun a => Mb γ fun b => (newO g a b).bind K) (fun d => d) (fun _ => p) := fun ρ m γ β K f Ψ h => by
  show Sim ((binR g Ga Gb ρ).bind f) _ _
  unfold binR
  rw [R.bind_assoc, fz_b]
  refine ha ρ m γ β _ _ Ψ fun a k1 ρ1 ⟨m1, d1⟩ => ?_
  rw [R.bind_assoc, fz_b]
  refine hb ρ1 m1 γ β _ _ Ψ fun b k2 ρ2 ⟨m2, d2⟩ => ?_
  have e : opK g (fk k1) (fk k2) ρ2 = outO (g a b) ρ2 := by
    unfold opK
    rw [d1.cont m2, d2.cont m2]
  rw [e]
  unfold newO
  cases q : g a b with
  | none => exact True.intro
  | some o =>
    cases o with
    | same d => exact True.intro
    | newT d => exact True.intro
    | newL d => exact h (.lst d) _ ρ2 ⟨rfl, True.intro, m2⟩
    | newD d => exact h (.dic d) _ ρ2 ⟨rfl, True.intro, m2⟩
/-! unary operators, isinstance -/
def unM (g : D → Option Out) (a : D) : Res D := ofO (g a)
theorem ep_un {g : D → Option Out} (h : EC p G M) : EP p (unR g G) (fun γ K => M γ fun a => (unM g a).bind K) := fun ρ m γ β K f Ψ k => by
  show Sim ((unR g G ρ).bind f) _ _
  unfold unR
  rw [R.bind_assoc, fz_b]
  refine h ρ m γ β _ _ Ψ fun a k1 ρ1 ⟨m1, d1⟩ => ?_
  rw [d1.cont m1]
  exact (sim_outO m1).bind k
def isiM (ts : List Ty) (d : D) : Res D := match tag d with
  | some g => .ok (.bl (ts.any (isTg g)))
  | none => .bad
theorem ep_isi {ts : List Ty} (h : EC p G M) : EP p (isiR ts G) (fun γ K => M γ fun a => (isiM ts a).bind K) := fun ρ m γ β K f Ψ k => by
  show Sim ((isiR ts G ρ).bind f) _ _
  unfold isiR
  rw [R.bind_assoc, fz_b]
  refine h ρ m γ β _ _ Ψ fun a k1 ρ1 ⟨m1, d1⟩ => ?_
  rw [d1.cont m1]
  unfold isiM
  cases q : tag a with
  | none => simp only [q]; exact True.intro
  | some g => simp only [q]; exact k _ _ ρ1 ⟨.inl rfl, m1⟩
/-! slices -/
def EO (p : Pat) (G : List Ent → R (Option Int)) (M : CPS (Option Int)) : Prop := EX p G M fun a k ρ' => k = a ∧ Mt p ρ'
def asI : D → Res Int
  | .int i => .ok i
  | _ => .bad
theorem eo_none : EO p partN (fun _ K => K none) := ex_ok fun ρ m => ⟨none, ρ, rfl, rfl, m⟩
theorem eo_some (h : EP p G M) : EO p (partS G) (fun γ K => M γ fun a => (asI a).bind fun i => K (some i)) := fun ρ m γ β K f Ψ k => by
  have e : ((fun ρ => partS G ρ) ρ).bind f = (G ρ).bind fun kd ρ' => (match kd with
    | .va (.int i) => R.ok (some i) ρ'
    | _ => .bad).bind f := by
    show (partS G ρ).bind f = _
    unfold partS
    cases G ρ with
    | ok kd ρ' =>
      cases kd with
      | va d => cases d <;> rfl
      | ow d => rfl
      | al i => rfl
    | ex x ρ' => rfl
    | bad => rfl
  show Sim ((fun ρ => partS G ρ) ρ |>.bind f) _ _
  rw [e]
  refine h ρ m γ β _ _ Ψ fun a k1 ρ1 ⟨e1, m1⟩ => ?_
  cases a with
  | int i =>
    rcases e1 with rfl | ⟨_, z⟩
    · exact k (some i) _ ρ1 ⟨rfl, m1⟩
    · exact z.elim
  | non => exact True.intro
  | bl _ => exact True.intro
  | str _ => exact True.intro
  | lst _ => exact True.intro
  | tup _ => exact True.intro
  | ins _ _ => exact True.intro
  | prs _ => exact True.intro
  | dic _ => exact True.intro
  | scr _ => exact True.intro
def slM (d : D) (lo hi : Option Int) : Res D := ofO (slD lo hi d)
theorem ep_slice {A B : List Ent → R (Option Int)} {N O : CPS (Option Int)} (h : EC p G M) (h1 : EO p A N) (h2 : EO p B O) : EP p (sliceR G A B) (fun γ K => M γ fun a => N γ fun lo => O γ fun hi => (slM a lo hi).bind K) := fun ρ m γ β K f Ψ k => by
  show Sim ((sliceR G A B ρ).bind f) _ _
  unfold sliceR
  rw [R.bind_assoc, fz_b]
  refine h ρ m γ β _ _ Ψ fun a k1 ρ1 ⟨m1, d1⟩ => ?_
  rw [R.bind_assoc]
  refine h1 ρ1 m1 γ β _ _ Ψ fun lo k2 ρ2 ⟨e2, m2⟩ => ?_
  rw [R.bind_assoc]
  refine h2 ρ2 m2 γ β _ _ Ψ fun hi k3 ρ3 ⟨e3, m3⟩ => ?_
  rw [d1.cont m3, e2, e3]
  exact (sim_outO m3).bind k
/-! calls of defs -/
/-- a def as a plain function -/
structure FM (n : Nat) (Gf : List Ent → R Kd) (Mf : List D → Res D) : Prop where
  sim : ∀ ds : List D, ds.length = n → Sim (Gf (ds.map .va)) (Mf ds) fun d k _ => Kr k d
  off : ∀ ds : List D, ds.length ≠ n → Mf ds = .bad
/-- a def that gives a new thing -/
structure FW (n : Nat) (Gf : List Ent → R Kd) (Mf : List D → Res D) : Prop where
  sim : ∀ ds : List D, ds.length = n → Sim (Gf (ds.map .va)) (Mf ds) fun d k _ => k = .ow d ∧ isMut d
  off : ∀ ds : List D, ds.length ≠ n → Mf ds = .bad
def Res.nox {α : Type} : Res α → Res α
  | .ok a => .ok a
  | _ => .bad
/-- a def that changes its first argument; n arguments behind it -/
structure FB (n : Nat) (Gf : List Ent → R Kd) (Mf : D → List D → Res (D × D)) : Prop where
  sim : ∀ (b : D) (ds : List D), ds.length = n → Sim (Gf (.ow (some 0) b :: ds.map .va)) (Mf b ds) fun d k ρ' => Kr k d.1 ∧ ∃ r, ρ' = .ow (some 0) d.2 :: r
  off : ∀ (b : D) (ds : List D), ds.length ≠ n → Mf b ds = .bad
  nox : ∀ (b : D) (ds : List D) (x : Exn), Mf b ds ≠ .ex x
theorem FW.fm {n : Nat} {Gf : List Ent → R Kd} {Mf : List D → Res D} (h : FW n Gf Mf) : FM n Gf Mf := ⟨fun ds q => (h.sim ds q).imp fun _ _ _ z => .inr z, h.off⟩
theorem sim_retU {r : R Kd} {m : Res D} {ρ : List Ent} {q : Pat} (h : Sim r m fun d k _ => Kr k d) (mt : Mt q ρ) : Sim (retU ρ r) m fun d k ρ' => Kr k d ∧ Mt q ρ' := by
  cases m with
  | bad => exact True.intro
  | ex x => obtain ⟨ρ', e⟩ := h; rw [e]; exact ⟨ρ, rfl⟩
  | ok d =>
    obtain ⟨k, ρ', e, q⟩ := h
    rw [e]
    rcases q with rfl | ⟨rfl, i⟩
    · exact ⟨_, ρ, rfl, .inl rfl, mt⟩
    · exact ⟨_, ρ, rfl, .inr ⟨rfl, i⟩, mt⟩
theorem ef_call {n : Nat} {Gf : List Ent → R Kd} {Mf : List D → Res D} (F : FM n Gf Mf) (h : EA p GA MA dsA pA) : EF p (callU n Gf [] GA) (fun γ K => MA γ fun a => (Mf (dsA a)).bind fun d => K (a, d)) (fun t => t.2) (fun t => pA t.1) := fun ρ m γ β K f Ψ k => by
  show Sim ((callU n Gf [] GA ρ).bind f) _ _
  unfold callU
  rw [R.bind_assoc]
  refine h ρ m γ β _ _ Ψ fun a ks ρ1 ⟨e1, m1⟩ => ?_
  subst e1
  rw [vas_map]
  show Sim ((if (dsA a ++ []).length = n then retU ρ1 (Gf ((dsA a ++ []).map .va)) else .bad).bind f) _ _
  rw [List.append_nil]
  by_cases hn : (dsA a).length = n
  · rw [if_pos hn]
    exact (sim_retU (F.sim _ hn) m1).bind fun d kd ρ' q => k (a, d) kd ρ' q
  · rw [F.off _ hn]; exact True.intro
theorem ep_call {n : Nat} {Gf : List Ent → R Kd} {Mf : List D → Res D} (F : FM n Gf Mf) {N : CPS (List D)} (h : EAP p GA N) : EP p (callU n Gf [] GA) (fun γ K => N γ fun ds => (Mf ds).bind K) := fun ρ m γ β K f Ψ k => by
  show Sim ((callU n Gf [] GA ρ).bind f) _ _
  unfold callU
  rw [R.bind_assoc]
  refine h ρ m γ β _ _ Ψ fun ds ks ρ1 ⟨e1, m1⟩ => ?_
  subst e1
  rw [vas_map]
  show Sim ((if (ds ++ []).length = n then retU ρ1 (Gf ((ds ++ []).map .va)) else .bad).bind f) _ _
  rw [List.append_nil]
  by_cases hn : ds.length = n
  · rw [if_pos hn]
    exact (sim_retU (F.sim _ hn) m1).bind k
  · rw [F.off _ hn]; exact True.intro
theorem ew_call {n : Nat} {Gf : List Ent → R Kd} {Mf : List D → Res D} (F : FW n Gf Mf) {N : CPS (List D)} (h : EAP p GA N) : EW p (callU n Gf [] GA) (fun γ K => N γ fun ds => (Mf ds).bind K) (fun d => d) (fun _ => p) := fun ρ m γ β K f Ψ k => by
  show Sim ((callU n Gf [] GA ρ).bind f) _ _
  unfold callU
  rw [R.bind_assoc]
  refine h ρ m γ β _ _ Ψ fun ds ks ρ1 ⟨e1, m1⟩ => ?_
  subst e1
  rw [vas_map]
  show Sim ((if (ds ++ []).length = n then retU ρ1 (Gf ((ds ++ []).map .va)) else .bad).bind f) _ _
  rw [List.append_nil]
  by_cases hn : ds.length = n
  · rw [if_pos hn]
    refine Sim.bind (Φ := fun d k ρ' => k = .ow d ∧ isMut d ∧ Mt p ρ') ?_ k
    have s := F.sim _ hn
    cases q : Mf ds with
    | bad => exact True.intro
    | ex x => rw [q] at s; obtain ⟨ρ', e⟩ := s; rw [e]; exact ⟨ρ1, rfl⟩
    | ok d => rw [q] at s; obtain ⟨kd, ρ', e, rfl, i⟩ := s; rw [e]; exact ⟨_, ρ1, rfl, rfl, i, m1⟩
  · rw [F.off _ hn]; exact True.intro
/-- the slot's own thing is told anew -/
theorem ef_callB {n i : Nat} {Gf : List Ent → R Kd} {Mf : D → List D → Res (D × D)} (F : FB n Gf Mf) (h : EAB p GA i MA dsA pA) {l : α → Option Nat} {b : α → D} (hb : ∀ a, (pA a)[i]? = some (some (.ow (l a) (b a)))) :
    EF p (callB (n + 1) Gf [] GA) (fun γ K => MA γ fun a => (Mf (b a) (dsA a)).bind fun d => K (a, d)) (fun t => t.2.1) (fun t => (pA t.1).set i (some (.ow (l t.1) t.2.2))) := fun ρ m γ β K f Ψ k => by
  show Sim ((callB (n + 1) Gf [] GA ρ).bind f) _ _
  unfold callB
  rw [R.bind_assoc]
  refine h ρ m γ β _ _ Ψ fun a ks ρ1 ⟨e1, m1⟩ => ?_
  subst e1
  show Sim ((match vas ((dsA a).map .va) with
      | some ds => ownR (n + 1) Gf i (ds ++ []) ρ1
      | none => .bad).bind f) _ _
  rw [vas_map]
  show Sim ((ownR (n + 1) Gf i (dsA a ++ []) ρ1).bind f) _ _
  rw [List.append_nil]
  have hi := m1.get (hb a)
  have e : ownR (n + 1) Gf i (dsA a) ρ1 = if ((dsA a).length + 1) = n + 1 then retB i (l a) ρ1 (Gf (.ow (some 0) (b a) :: (dsA a).map .va)) else .bad := by
    unfold ownR
    rw [hi]
  rw [e]
  by_cases hn : (dsA a).length = n
  · rw [if_pos (by omega)]
    have s := F.sim (b a) _ hn
    cases q : Mf (b a) (dsA a) with
    | bad => exact True.intro
    | ex x => exact (F.nox _ _ _ q).elim
    | ok d =>
      rw [q] at s
      obtain ⟨kd, ρ', e, q2, r, rfl⟩ := s
      rw [e]
      rcases q2 with rfl | ⟨rfl, z⟩
      · exact k (a, d) (.va d.1) (ρ1.set i (.ow (l a) d.2)) ⟨.inl rfl, m1.set i _⟩
      · exact k (a, d) (.ow d.1) (ρ1.set i (.ow (l a) d.2)) ⟨.inr ⟨rfl, z⟩, m1.set i _⟩
  · rw [F.off _ _ hn]; exact True.intro
end
end DL

namespace DL
open PySem PySem.Spec PyProof.Rows L2
section
variable {p : Pat} {G : List Ent → R Kd} {GA : List Ent → R (List Kd)} {M : CPS D} {α β σ : Type} {MA : CPS α} {MB : α → CPS β} {dA : α → D} {dsA : α → List D} {pA : α → Pat} {pB : α → β → Pat}
/-! what a for walks -/
def EI (p : Pat) (Gi : List Ent → R (List D)) {α : Type} (M : CPS α) (ds : α → List D) (p' : α → Pat) : Prop := EX p Gi M fun a k ρ' => k = ds a ∧ Mt (p' a) ρ'
abbrev EIP (p : Pat) (Gi : List Ent → R (List D)) (M : CPS (List D)) : Prop := EI p Gi M (fun d => d) (fun _ => p)
def itM (d : D) : Res (List D) := match itemsD d with
  | some ds => .ok ds
  | none => .bad
theorem eip_seq (h : EP p G M) : EIP p (seqI G) (fun γ K => M γ fun a => (itM a).bind K) := fun ρ m γ β K f Ψ k => by
  show Sim ((seqI G ρ).bind f) _ _
  unfold seqI
  rw [R.bind_assoc]
  refine h.ev ρ m γ β _ _ Ψ fun a k1 ρ1 ⟨e1, m1⟩ => ?_
  subst e1
  unfold itM
  show Sim ((match itemsD a with
    | some ds => R.ok ds ρ1
    | none => .bad).bind f) _ _
  cases itemsD a with
  | none => exact True.intro
  | some ds => exact k ds ds ρ1 ⟨rfl, m1⟩
theorem ei_seq (h : EV p G MA dA pA) : EI p (seqI G) (fun γ K => MA γ fun a => (itM (dA a)).bind fun ds => K (a, ds)) (fun t => t.2) (fun t => pA t.1) := fun ρ m γ β K f Ψ k => by
  show Sim ((seqI G ρ).bind f) _ _
  unfold seqI
  rw [R.bind_assoc]
  refine h ρ m γ β _ _ Ψ fun a k1 ρ1 ⟨e1, m1⟩ => ?_
  subst e1
  unfold itM
  show Sim ((match itemsD (dA a) with
    | some ds => R.ok ds ρ1
    | none => .bad).bind f) _ _
  cases itemsD (dA a) with
  | none => exact True.intro
  | some ds => exact k (a, ds) ds ρ1 ⟨rfl, m1⟩
def okInt (j : Int) : Bool := decide (-(2 ^ 62) ≤ j) && decide (j < 2 ^ 62)
def rng1M : List D → Res (List D)
  | [.int j] => if -(2 ^ 62) ≤ j ∧ j < 2 ^ 62 then .ok (rangeD 0 j.toNat) else .bad
  | _ => .bad
def rng2M : List D → Res (List D)
  | [.int i, .int j] => if -(2 ^ 62) ≤ i ∧ i < 2 ^ 62 ∧ -(2 ^ 62) ≤ j ∧ j < 2 ^ 62 then .ok (rangeD i (j - i).toNat) else .bad
  | _ => .bad
def zipM : List D → Res (List D)
  | [.lst xs, .lst ys] => .ok (zipD xs ys)
  | [.tup xs, .tup ys] => .ok (zipD xs ys)
  | _ => .bad
def enumM : List D → Res (List D)
  | [.lst xs] => .ok (enumD xs)
  | _ => .bad
/-- an iterable of arguments that are values -/
theorem ei_args {GI : (List Ent → R (List Kd)) → List Ent → R (List D)} {gi : List Kd → List Ent → R (List D)} (hG : ∀ GA ρ, GI GA ρ = (GA ρ).bind gi) {fM : List D → Res (List D)} (hf : ∀ ds ρ, Sim (gi (ds.map .va) ρ) (fM ds) fun d k ρ' => k = d ∧ ρ' = ρ)
    (h : EA p GA MA dsA pA) : EI p (GI GA) (fun γ K => MA γ fun a => (fM (dsA a)).bind fun ds => K (a, ds)) (fun t => t.2) (fun t => pA t.1) := fun ρ m γ β K f Ψ k => by
  show Sim ((GI GA ρ).bind f) _ _
  rw [hG, R.bind_assoc]
  refine h ρ m γ β _ _ Ψ fun a ks ρ1 ⟨e1, m1⟩ => ?_
  subst e1
  refine (hf (dsA a) ρ1).bind fun ds k2 ρ2 ⟨e2, e3⟩ => ?_
  subst e3
  exact k (a, ds) k2 _ ⟨e2, m1⟩
theorem eip_args {GI : (List Ent → R (List Kd)) → List Ent → R (List D)} {gi : List Kd → List Ent → R (List D)} (hG : ∀ GA ρ, GI GA ρ = (GA ρ).bind gi) {fM : List D → Res (List D)} (hf : ∀ ds ρ, Sim (gi (ds.map .va) ρ) (fM ds) fun d k ρ' => k = d ∧ ρ' = ρ)
    {N : CPS (List D)} (h : EAP p GA N) : EIP p (GI GA) (fun γ K => N γ fun a => (fM a).bind K) := fun ρ m γ β K f Ψ k => by
  show Sim ((GI GA ρ).bind f) _ _
  rw [hG, R.bind_assoc]
  refine h ρ m γ β _ _ Ψ fun a ks ρ1 ⟨e1, m1⟩ => ?_
  subst e1
  refine (hf a ρ1).bind fun ds k2 ρ2 ⟨e2, e3⟩ => ?_
  subst e3
  exact k ds k2 _ ⟨e2, m1⟩
theorem sim_rng1 : ∀ (ds : List D) (ρ : List Ent), Sim (match ds.map Kd.va with
  | [.va (.int j)] => if -(2 ^ 62) ≤ j ∧ j < 2 ^ 62 then R.ok (rangeD 0 j.toNat) ρ else .bad
  | _ => .bad) (rng1M ds) fun d k ρ' => k = d ∧ ρ' = ρ := fun ds ρ => by
  rcases ds with _ | ⟨d, _ | ⟨e, r⟩⟩
  · exact True.intro
  · cases d with
    | int j =>
      show Sim (if -(2 ^ 62) ≤ j ∧ j < 2 ^ 62 then R.ok (rangeD 0 j.toNat) ρ else .bad) (if -(2 ^ 62) ≤ j ∧ j < 2 ^ 62 then .ok (rangeD 0 j.toNat) else .bad) _
      split
      · exact ⟨_, _, rfl, rfl, rfl⟩
      · exact True.intro
    | _ => exact True.intro
  · cases d <;> exact True.intro
theorem ei_rng1 (h : EA p GA MA dsA pA) : EI p (rng1I GA) (fun γ K => MA γ fun a => (rng1M (dsA a)).bind fun ds => K (a, ds)) (fun t => t.2) (fun t => pA t.1) := ei_args (GI := rng1I) (fun _ _ => rfl) sim_rng1 h
theorem eip_rng1 {N : CPS (List D)} (h : EAP p GA N) : EIP p (rng1I GA) (fun γ K => N γ fun a => (rng1M a).bind K) := eip_args (GI := rng1I) (fun _ _ => rfl) sim_rng1 h
theorem sim_rng2 : ∀ (ds : List D) (ρ : List Ent), Sim (match ds.map Kd.va with
  | [.va (.int i), .va (.int j)] => if -(2 ^ 62) ≤ i ∧ i < 2 ^ 62 ∧ -(2 ^ 62) ≤ j ∧ j < 2 ^ 62 then R.ok (rangeD i (j - i).toNat) ρ else .bad
  | _ => .bad) (rng2M ds) fun d k ρ' => k = d ∧ ρ' = ρ := fun ds ρ => by
  rcases ds with _ | ⟨d, _ | ⟨e, _ | ⟨e2, r⟩⟩⟩
  · exact True.intro
  · cases d <;> exact True.intro
  · cases d with
    | int i =>
      cases e with
      | int j =>
        show Sim (if -(2 ^ 62) ≤ i ∧ i < 2 ^ 62 ∧ -(2 ^ 62) ≤ j ∧ j < 2 ^ 62 then R.ok (rangeD i (j - i).toNat) ρ else .bad) (if -(2 ^ 62) ≤ i ∧ i < 2 ^ 62 ∧ -(2 ^ 62) ≤ j ∧ j < 2 ^ 62 then .ok (rangeD i (j - i).toNat) else .bad) _
        split
        · exact ⟨_, _, rfl, rfl, rfl⟩
        · exact True.intro
      | _ => exact True.intro
    | _ => exact True.intro
  · cases d with
    | int i => cases e <;> exact True.intro
    | _ => exact True.intro
theorem eip_rng2 {N : CPS (List D)} (h : EAP p GA N) : EIP p (rng2I GA) (fun γ K => N γ fun a => (rng2M a).bind K) := eip_args (GI := rng2I) (fun _ _ => rfl) sim_rng2 h
theorem sim_zip : ∀ (ds : List D) (ρ : List Ent), Sim (match ds.map Kd.va with
  | [.va (.lst xs), .va (.lst ys)] => R.ok (zipD xs ys) ρ
  | [.va (.tup xs), .va (.tup ys)] => .ok (zipD xs ys) ρ
  | _ => .bad) (zipM ds) fun d k ρ' => k = d ∧ ρ' = ρ := fun ds ρ => by
  rcases ds with _ | ⟨d, _ | ⟨e, _ | ⟨e2, r⟩⟩⟩
  · exact True.intro
  · cases d <;> exact True.intro
  · cases d with
    | lst xs => cases e <;> first | exact ⟨_, _, rfl, rfl, rfl⟩ | exact True.intro
    | tup xs => cases e <;> first | exact ⟨_, _, rfl, rfl, rfl⟩ | exact True.intro
    | _ => exact True.intro
  · cases d with
    | lst i => cases e <;> exact True.intro
    | tup i => cases e <;> exact True.intro
    | _ => exact True.intro
theorem eip_zip {N : CPS (List D)} (h : EAP p GA N) : EIP p (zipI GA) (fun γ K => N γ fun a => (zipM a).bind K) := eip_args (GI := zipI) (fun _ _ => rfl) sim_zip h
theorem ei_zip (h : EA p GA MA dsA pA) : EI p (zipI GA) (fun γ K => MA γ fun a => (zipM (dsA a)).bind fun ds => K (a, ds)) (fun t => t.2) (fun t => pA t.1) := ei_args (GI := zipI) (fun _ _ => rfl) sim_zip h
theorem sim_enum : ∀ (ds : List D) (ρ : List Ent), Sim (match ds.map Kd.va with
  | [.va (.lst xs)] => R.ok (enumD xs) ρ
  | _ => .bad) (enumM ds) fun d k ρ' => k = d ∧ ρ' = ρ := fun ds ρ => by
  rcases ds with _ | ⟨d, _ | ⟨e, r⟩⟩
  · exact True.intro
  · cases d <;> first | exact ⟨_, _, rfl, rfl, rfl⟩ | exact True.intro
  · cases d <;> exact True.intro
theorem eip_enum {N : CPS (List D)} (h : EAP p GA N) : EIP p (enumI GA) (fun γ K => N γ fun a => (enumM a).bind K) := eip_args (GI := enumI) (fun _ _ => rfl) sim_enum h
end
/-! ### targets -/
/-- a target at an item: the slots behind it -/
def TG1 (p : Pat) (f : D → List Ent → Option (List Ent)) (d : D) {α : Type} (M : CPS α) (p' : α → Pat) : Prop := ∀ ρ, Mt p ρ → ∀ (γ β : Type) (K : α → Res γ) (g : List Ent → R β) (Ψ : γ → β → List Ent → Prop), (∀ a ρ', Mt (p' a) ρ' → Sim (g ρ') (K a) Ψ) → Sim (match f d ρ with
  | some ρ1 => g ρ1
  | none => .bad) (M γ K) Ψ
section
variable {p : Pat} {d : D} {α β : Type}
theorem tg_name (i : Nat) : TG1 p (nameT i) d (fun _ K => K d) (fun a => p.set i (some (.va a))) := fun ρ m γ β K g Ψ k => k d _ (m.set i _)
/-- a name that is not asked for -/
theorem tg_skip (i : Nat) : TG1 p (nameT i) d (fun _ K => K ()) (fun _ : Unit => p.set i none) := fun ρ m γ β K g Ψ k => k () _ (m.drop i _)
def unT : D → Res (List D)
  | .tup ds => .ok ds
  | .prs ds => .ok ds
  | _ => .bad
def un2 {γ : Type} (d : D) (K : D → D → Res γ) : Res γ := match d with
  | .tup [a, b] => K a b
  | .prs [a, b] => K a b
  | _ => .bad
def un3 {γ : Type} (d : D) (K : D → D → D → Res γ) : Res γ := match d with
  | .tup [a, b, c] => K a b c
  | .prs [a, b, c] => K a b c
  | _ => .bad
theorem tup2_eq (f1 f2 : D → List Ent → Option (List Ent)) (a b : D) (ρ : List Ent) {β : Type} (g : List Ent → R β) : (match tupT [f1, f2] (.tup [a, b]) ρ with
  | some ρ1 => g ρ1
  | none => .bad) = match f1 a ρ with
    | some ρ1 => match f2 b ρ1 with
      | some ρ2 => g ρ2
      | none => .bad
    | none => .bad := by
  have e : tupT [f1, f2] (.tup [a, b]) ρ = (match f1 a ρ with
    | some ρ1 => (match f2 b ρ1 with
      | some ρ2 => some ρ2
      | none => none)
    | none => none) := rfl
  rw [e]
  cases f1 a ρ with
  | none => rfl
  | some ρ1 =>
    dsimp only
    cases f2 b ρ1 <;> rfl
theorem tup3_eq (f1 f2 f3 : D → List Ent → Option (List Ent)) (a b c : D) (ρ : List Ent) {β : Type} (g : List Ent → R β) : (match tupT [f1, f2, f3] (.tup [a, b, c]) ρ with
  | some ρ1 => g ρ1
  | none => .bad) = match f1 a ρ with
    | some ρ1 => match f2 b ρ1 with
      | some ρ2 => match f3 c ρ2 with
        | some ρ3 => g ρ3
        | none => .bad
      | none => .bad
    | none => .bad := by
  have e : tupT [f1, f2, f3] (.tup [a, b, c]) ρ = (match f1 a ρ with
    | some ρ1 => (match f2 b ρ1 with
      | some ρ2 => (match f3 c ρ2 with
        | some ρ3 => some ρ3
        | none => none)
      | none => none)
    | none => none) := rfl
  rw [e]
  cases f1 a ρ with
  | none => rfl
  | some ρ1 =>
    dsimp only
    cases f2 b ρ1 with
    | none => rfl
    | some ρ2 =>
      dsimp only
      cases f3 c ρ2 <;> rfl
/-- both at the patterns' own letters -/
theorem tg_tup2 {f1 f2 : D → List Ent → Option (List Ent)} {M1 : D → CPS α} {M2 : D → α → CPS β} {p1 : α → Pat} {p2 : α → β → Pat} (h1 : ∀ a, TG1 p f1 a (M1 a) p1) (h2 : ∀ b t, TG1 (p1 t) f2 b (M2 b t) (p2 t)) :
    TG1 p (tupT [f1, f2]) d (fun γ K => un2 d fun a b => M1 a γ fun t => M2 b t γ fun u => K (t, u)) (fun t => p2 t.1 t.2) := fun ρ m γ ν K g Ψ k => by
  cases d with
  | tup ds =>
    rcases ds with _ | ⟨a, _ | ⟨b, _ | ⟨c, r⟩⟩⟩
    · exact True.intro
    · exact True.intro
    · rw [tup2_eq]
      exact h1 a ρ m γ ν (fun t => M2 b t γ fun u => K (t, u)) (fun ρ1 => match f2 b ρ1 with
        | some ρ2 => g ρ2
        | none => .bad) Ψ fun t ρ1 m1 => h2 b t ρ1 m1 γ ν (fun u => K (t, u)) g Ψ fun u ρ2 m2 => k (t, u) ρ2 m2
    · exact True.intro
  | prs ds =>
    rcases ds with _ | ⟨a, _ | ⟨b, _ | ⟨c, r⟩⟩⟩
    · exact True.intro
    · exact True.intro
    · rw [show ∀ ds ρ, tupT _ (.prs ds) ρ = tupT _ (.tup ds) ρ from fun _ _ => rfl, tup2_eq]
      exact h1 a ρ m γ ν (fun t => M2 b t γ fun u => K (t, u)) (fun ρ1 => match f2 b ρ1 with
        | some ρ2 => g ρ2
        | none => .bad) Ψ fun t ρ1 m1 => h2 b t ρ1 m1 γ ν (fun u => K (t, u)) g Ψ fun u ρ2 m2 => k (t, u) ρ2 m2
    · exact True.intro
  | _ => exact True.intro
theorem tg_tup3 {δ : Type} {f1 f2 f3 : D → List Ent → Option (List Ent)} {M1 : D → CPS α} {M2 : D → α → CPS β} {M3 : D → α → β → CPS δ} {p1 : α → Pat} {p2 : α → β → Pat} {p3 : α → β → δ → Pat} (h1 : ∀ a, TG1 p f1 a (M1 a) p1) (h2 : ∀ b t, TG1 (p1 t) f2 b (M2 b t) (p2 t)) (h3 : ∀ c t u, TG1 (p2 t u) f3 c (M3 c t u) (p3 t u)) :
    TG1 p (tupT [f1, f2, f3]) d (fun γ K => un3 d fun a b c => M1 a γ fun t => M2 b t γ fun u => M3 c t u γ fun w => K (t, u, w)) (fun t => p3 t.1 t.2.1 t.2.2) := fun ρ m γ ν K g Ψ k => by
  cases d with
  | tup ds =>
    rcases ds with _ | ⟨a, _ | ⟨b, _ | ⟨c, _ | ⟨c2, r⟩⟩⟩⟩
    · exact True.intro
    · exact True.intro
    · exact True.intro
    · rw [tup3_eq]
      exact h1 a ρ m γ ν (fun t => M2 b t γ fun u => M3 c t u γ fun w => K (t, u, w)) (fun ρ1 => match f2 b ρ1 with
        | some ρ2 => match f3 c ρ2 with
          | some ρ3 => g ρ3
          | none => .bad
        | none => .bad) Ψ fun t ρ1 m1 => h2 b t ρ1 m1 γ ν (fun u => M3 c t u γ fun w => K (t, u, w)) (fun ρ2 => match f3 c ρ2 with
          | some ρ3 => g ρ3
          | none => .bad) Ψ fun u ρ2 m2 => h3 c t u ρ2 m2 γ ν (fun w => K (t, u, w)) g Ψ fun w ρ3 m3 => k (t, u, w) ρ3 m3
    · exact True.intro
  | prs ds =>
    rcases ds with _ | ⟨a, _ | ⟨b, _ | ⟨c, _ | ⟨c2, r⟩⟩⟩⟩
    · exact True.intro
    · exact True.intro
    · exact True.intro
    · rw [show ∀ ds ρ, tupT _ (.prs ds) ρ = tupT _ (.tup ds) ρ from fun _ _ => rfl, tup3_eq]
      exact h1 a ρ m γ ν (fun t => M2 b t γ fun u => M3 c t u γ fun w => K (t, u, w)) (fun ρ1 => match f2 b ρ1 with
        | some ρ2 => match f3 c ρ2 with
          | some ρ3 => g ρ3
          | none => .bad
        | none => .bad) Ψ fun t ρ1 m1 => h2 b t ρ1 m1 γ ν (fun u => M3 c t u γ fun w => K (t, u, w)) (fun ρ2 => match f3 c ρ2 with
          | some ρ3 => g ρ3
          | none => .bad) Ψ fun u ρ2 m2 => h3 c t u ρ2 m2 γ ν (fun w => K (t, u, w)) g Ψ fun w ρ3 m3 => k (t, u, w) ρ3 m3
    · exact True.intro
  | _ => exact True.intro
end
end DL

namespace DL
open PySem PySem.Spec PyProof.Rows L2
/-! ### comprehensions -/
def wipeP (p : Pat) : List Nat → Pat
  | [] => p
  | v :: vs => (wipeP p vs).set v none
theorem Mt.wipe {p : Pat} {ρ : List Ent} (h : Mt p ρ) : ∀ vs : List Nat, Mt (wipeP p vs) (wipeE ρ vs)
  | [] => h
  | v :: vs => (Mt.wipe h vs).drop v _
/-- one item of a comprehension -/
def lcStep (f : D → List Ent → Option (List Ent)) (A : List Ent → R Bool) (G : List Ent → R Kd) (vs : List Nat) (d : D) (ρ : List Ent) : R (Option D) := match f d (wipeE ρ vs) with
  | some ρ1 => (noX (A ρ1)).bind fun b ρ2 => if b then (noX (toVa (G ρ2))).bind fun k ρ3 => match k with
      | .va e => .ok (some e) ρ3
      | _ => .bad
    else .ok none ρ2
  | none => .bad
theorem lcLoop_step (f : D → List Ent → Option (List Ent)) (A : List Ent → R Bool) (G : List Ent → R Kd) (vs : List Nat) (d : D) (ds acc : List D) (ρ : List Ent) : lcLoop f A G vs (d :: ds) acc ρ = (lcStep f A G vs d ρ).bind fun o ρ' => match o with
    | some e => if acc.length < big then lcLoop f A G vs ds (acc ++ [e]) ρ' else .bad
    | none => lcLoop f A G vs ds acc ρ' := by
  show (match f d (wipeE ρ vs) with
    | some ρ1 => (noX (A ρ1)).bind fun b ρ2 => if b then (noX (toVa (G ρ2))).bind fun k ρ3 => match k with
        | .va e => if acc.length < big then lcLoop f A G vs ds (acc ++ [e]) ρ3 else .bad
        | _ => .bad
      else lcLoop f A G vs ds acc ρ2
    | none => .bad) = _
  unfold lcStep
  cases f d (wipeE ρ vs) with
  | none => rfl
  | some ρ1 =>
    show (noX (A ρ1)).bind _ = R.bind ((noX (A ρ1)).bind _) _
    rw [R.bind_assoc]
    congr 1
    funext b ρ2
    cases b with
    | false => rfl
    | true =>
      show (noX (toVa (G ρ2))).bind _ = R.bind ((noX (toVa (G ρ2))).bind _) _
      rw [R.bind_assoc]
      congr 1
      funext k ρ3
      cases k <;> rfl
section
variable {σ : Type} {p : σ → Pat} {f : D → List Ent → Option (List Ent)} {A : List Ent → R Bool} {G : List Ent → R Kd} {vs : List Nat}
/-- an item's turn at the state s -/
def CB (p : σ → Pat) (f : D → List Ent → Option (List Ent)) (A : List Ent → R Bool) (G : List Ent → R Kd) (vs : List Nat) (s : σ) (d : D) (m : Res (Option D × σ)) : Prop := ∀ ρ, Mt (p s) ρ → Sim (lcStep f A G vs d ρ) m fun o k ρ' => k = o.1 ∧ Mt (p o.2) ρ'
theorem lc_sim {m : σ → D → Res (Option D × σ)} {L : List D → σ → Res (List D × σ)} (h0 : ∀ s, L [] s = .ok ([], s)) (h1 : ∀ d ds s, L (d :: ds) s = (m s d).bind fun o => (L ds o.2).bind fun r => .ok (o.1.toList ++ r.1, r.2)) (hb : ∀ s d, CB p f A G vs s d (m s d)) :
    ∀ (ds acc : List D) (s : σ) (ρ : List Ent), acc.length + ds.length ≤ big → Mt (p s) ρ → Sim (lcLoop f A G vs ds acc ρ) (L ds s) fun r k ρ' => k = acc ++ r.1 ∧ Mt (p r.2) ρ'
  | [], acc, s, ρ, _, mt => by
    rw [h0]
    exact ⟨acc, ρ, rfl, (List.append_nil acc).symm, mt⟩
  | d :: ds, acc, s, ρ, hn, mt => by
    rw [h1, lcLoop_step]
    refine (hb s d ρ mt).bind fun o k ρ' ⟨e, m'⟩ => ?_
    subst e
    rw [List.length_cons] at hn
    obtain ⟨o, s'⟩ := o
    cases o with
    | none =>
      have ih := lc_sim h0 h1 hb ds acc s' ρ' (by omega) m'
      show Sim (lcLoop f A G vs ds acc ρ') _ _
      have ih2 : Sim ((lcLoop f A G vs ds acc ρ').bind .ok) ((L ds s').bind fun r => .ok (([] : List D) ++ r.1, r.2)) fun r k ρ' => k = acc ++ r.1 ∧ Mt (p r.2) ρ' := ih.bind fun r k ρ2 q => ⟨k, ρ2, rfl, q⟩
      rw [R.bind_ok] at ih2
      exact ih2
    | some e =>
      have ih := lc_sim h0 h1 hb ds (acc ++ [e]) s' ρ' (by rw [List.length_append, List.length_singleton]; omega) m'
      show Sim (if acc.length < big then lcLoop f A G vs ds (acc ++ [e]) ρ' else .bad) _ _
      rw [if_pos (by omega)]
      have ih2 : Sim ((lcLoop f A G vs ds (acc ++ [e]) ρ').bind .ok) ((L ds s').bind fun r => .ok (([e] : List D) ++ r.1, r.2)) fun r k ρ' => k = acc ++ r.1 ∧ Mt (p r.2) ρ' := ih.bind fun r k ρ2 ⟨q1, q2⟩ => ⟨k, ρ2, rfl, by rw [q1, List.append_assoc], q2⟩
      rw [R.bind_ok] at ih2
      exact ih2
end
theorem sim_noX {α κ : Type} {r : R κ} {m : Res α} {Φ : α → κ → List Ent → Prop} (h : Sim r m Φ) : Sim (noX r) m.nox Φ := by
  cases m with
  | bad => exact True.intro
  | ex x => exact True.intro
  | ok a =>
    obtain ⟨k, ρ', e, q⟩ := h
    rw [e]
    exact ⟨k, ρ', rfl, q⟩
/-- plain: every item -/
def mapR (f : D → Res D) : List D → Res (List D)
  | [] => .ok []
  | d :: ds => (f d).nox.bind fun e => (mapR f ds).bind fun r => .ok (e :: r)
/-- plain: some items -/
def filR (f : D → Res (Option D)) : List D → Res (List D)
  | [] => .ok []
  | d :: ds => (f d).nox.bind fun e => (filR f ds).bind fun r => .ok (e.toList ++ r)
/-- with a state -/
def mapS {σ : Type} (f : σ → D → Res (D × σ)) : List D → σ → Res (List D × σ)
  | [], s => .ok ([], s)
  | d :: ds, s => (f s d).nox.bind fun e => (mapS f ds e.2).bind fun r => .ok (e.1 :: r.1, r.2)
def filS {σ : Type} (f : σ → D → Res (Option D × σ)) : List D → σ → Res (List D × σ)
  | [], s => .ok ([], s)
  | d :: ds, s => (f s d).nox.bind fun e => (filS f ds e.2).bind fun r => .ok (e.1.toList ++ r.1, r.2)
/-- the bound on lengths -/
def few {β : Type} (ds : List D) (r : Res β) : Res β := if ds.length ≤ big then r else .bad
section
variable {p : Pat} {Gi : List Ent → R (List D)} {f : D → List Ent → Option (List Ent)} {A : List Ent → R Bool} {G : List Ent → R Kd} {vs : List Nat} {α σ : Type} {MI : CPS α} {dsI : α → List D} {pI : α → Pat}
/-- an item's turn without a test: target, then the element -/
theorem nox_bind {α β : Type} (r : Res α) (f : α → Res β) : (r.bind f).nox = r.nox.bind fun a => (f a).nox := by cases r <;> rfl
theorem cb_map {τ : Type} {MT : CPS τ} {pT : τ → Pat} {d : D} {M : τ → CPS D} (ht : TG1 (wipeP p vs) f d MT pT) (hg : ∀ t, EP (pT t) G (M t)) (hw : ∀ t, Wk p (pT t)) :
    ∀ ρ, Mt p ρ → Sim (lcStep f yesT G vs d ρ) (MT D fun t => M t D .ok).nox fun o k ρ' => k = some o ∧ Mt p ρ' := fun ρ mt => by
  unfold lcStep
  have h := ht _ (mt.wipe vs) D (Option D) (fun t => M t D .ok) (fun ρ1 => (toVa (G ρ1)).bind fun k ρ3 => match k with
      | .va e => .ok (some e) ρ3
      | _ => .bad) (fun o k ρ' => k = some o ∧ Mt p ρ') fun t ρ1 m1 => by
    refine (hg t).ev ρ1 m1 D (Option D) .ok _ _ fun a k ρ' ⟨e, m'⟩ => ?_
    subst e
    exact ⟨some a, ρ', rfl, rfl, m'.weak (hw t)⟩
  have h := sim_noX h
  revert h
  cases f d (wipeE ρ vs) with
  | none => exact id
  | some ρ1 =>
    show Sim (noX ((toVa (G ρ1)).bind _)) _ _ → Sim ((noX (yesT ρ1)).bind _) _ _
    intro h
    show Sim ((noX (toVa (G ρ1))).bind _) _ _
    have e : noX ((toVa (G ρ1)).bind fun k ρ3 => match k with
      | .va e => R.ok (some e) ρ3
      | _ => .bad) = (noX (toVa (G ρ1))).bind fun k ρ3 => match k with
      | .va e => R.ok (some e) ρ3
      | _ => .bad := by
      cases toVa (G ρ1) with
      | ok k ρ' => cases k <;> rfl
      | ex x ρ' => rfl
      | bad => rfl
    rw [← e]
    exact h
theorem cb_fil {τ : Type} {MT : CPS τ} {pT : τ → Pat} {d : D} {N : τ → CPS Bool} {M : τ → CPS D} (ht : TG1 (wipeP p vs) f d MT pT) (ha : ∀ t, EBP (pT t) A (N t)) (hg : ∀ t, EP (pT t) G (M t)) (hw : ∀ t, Wk p (pT t)) :
    ∀ ρ, Mt p ρ → Sim (lcStep f A G vs d ρ) (MT (Option D) fun t => N t (Option D) fun b => if b then M t (Option D) (fun v => .ok (some v)) else .ok none).nox fun o k ρ' => k = o ∧ Mt p ρ' := fun ρ mt => by
  unfold lcStep
  have h := ht _ (mt.wipe vs) (Option D) (Option D) (fun t => N t (Option D) fun b => if b then M t (Option D) (fun v => .ok (some v)) else .ok none) (fun ρ1 => (A ρ1).bind fun b ρ2 => if b then (toVa (G ρ2)).bind fun k ρ3 => match k with
      | .va e => .ok (some e) ρ3
      | _ => .bad
      else .ok none ρ2) (fun o k ρ' => k = o ∧ Mt p ρ') fun t ρ1 m1 => by
    refine ha t ρ1 m1 (Option D) (Option D) _ _ _ fun b k ρ2 ⟨e2, m2⟩ => ?_
    subst e2
    cases k with
    | false => exact ⟨none, ρ2, rfl, rfl, m2.weak (hw t)⟩
    | true =>
      refine (hg t).ev ρ2 m2 (Option D) (Option D) (fun v => .ok (some v)) _ _ fun a k ρ' ⟨e, m'⟩ => ?_
      subst e
      exact ⟨some a, ρ', rfl, rfl, m'.weak (hw t)⟩
  have h := sim_noX h
  revert h
  cases f d (wipeE ρ vs) with
  | none => exact id
  | some ρ1 =>
    intro h
    show Sim ((noX (A ρ1)).bind _) _ _
    have e : noX ((A ρ1).bind fun b ρ2 => if b then (toVa (G ρ2)).bind fun k ρ3 => match k with
      | .va e => R.ok (some e) ρ3
      | _ => .bad
      else .ok none ρ2) = (noX (A ρ1)).bind fun b ρ2 => if b then (noX (toVa (G ρ2))).bind fun k ρ3 => match k with
      | .va e => R.ok (some e) ρ3
      | _ => .bad
      else .ok none ρ2 := by
      cases A ρ1 with
      | ex x ρ' => rfl
      | bad => rfl
      | ok b ρ2 =>
        cases b with
        | false => rfl
        | true =>
          show noX ((toVa (G ρ2)).bind _) = (noX (toVa (G ρ2))).bind _
          cases toVa (G ρ2) with
          | ok k ρ' => cases k <;> rfl
          | ex x ρ' => rfl
          | bad => rfl
    rw [← e]
    exact h
/-- with a state: the target's item, then an element that does something to the slots -/
theorem cb_mapS {p : σ → Pat} {s : σ} {τ ε : Type} {MT : CPS τ} {pT : τ → Pat} {d : D} {M : τ → CPS ε} {dM : τ → ε → D} {pM : τ → ε → Pat} (sM : τ → ε → σ) (ht : TG1 (wipeP (p s) vs) f d MT pT) (hg : ∀ t, EV (pT t) G (M t) (dM t) (pM t)) (hw : ∀ t e, Wk (p (sM t e)) (pM t e)) :
    ∀ ρ, Mt (p s) ρ → Sim (lcStep f yesT G vs d ρ) (MT (D × σ) fun t => M t (D × σ) fun e => .ok (dM t e, sM t e)).nox fun o k ρ' => k = some o.1 ∧ Mt (p o.2) ρ' := fun ρ mt => by
  unfold lcStep
  have h := ht _ (mt.wipe vs) (D × σ) (Option D) (fun t => M t (D × σ) fun e => .ok (dM t e, sM t e)) (fun ρ1 => (toVa (G ρ1)).bind fun k ρ3 => match k with
      | .va e => .ok (some e) ρ3
      | _ => .bad) (fun o k ρ' => k = some o.1 ∧ Mt (p o.2) ρ') fun t ρ1 m1 => by
    refine hg t ρ1 m1 (D × σ) (Option D) _ _ _ fun a k ρ' ⟨e, m'⟩ => ?_
    subst e
    exact ⟨some (dM t a), ρ', rfl, rfl, m'.weak (hw t a)⟩
  have h := sim_noX h
  revert h
  cases f d (wipeE ρ vs) with
  | none => exact id
  | some ρ1 =>
    show Sim (noX ((toVa (G ρ1)).bind _)) _ _ → Sim ((noX (yesT ρ1)).bind _) _ _
    intro h
    show Sim ((noX (toVa (G ρ1))).bind _) _ _
    have e : noX ((toVa (G ρ1)).bind fun k ρ3 => match k with
      | .va e => R.ok (some e) ρ3
      | _ => .bad) = (noX (toVa (G ρ1))).bind fun k ρ3 => match k with
      | .va e => R.ok (some e) ρ3
      | _ => .bad := by
      cases toVa (G ρ1) with
      | ok k ρ' => cases k <;> rfl
      | ex x ρ' => rfl
      | bad => rfl
    rw [← e]
    exact h
theorem mt_wiped {p : Pat} {vs : List Nat} (h : wipeP p vs = p) {ρ : List Ent} (m : Mt p ρ) : Mt p (wipeE ρ vs) := by
  have := m.wipe vs
  rw [h] at this
  exact this
theorem sim_few {α κ : Type} {r : R κ} {m : Res α} {Φ : α → κ → List Ent → Prop} {ds : List D} (h : ds.length ≤ big → Sim r m Φ) : Sim r (few ds m) Φ := by
  unfold few
  split
  · exact h ‹_›
  · exact True.intro
/-- [e for t in xs] -/
theorem ew_map (hi : EI p Gi MI dsI pI) (hv : ∀ a, wipeP (pI a) vs = pI a) {F : α → D → Res D} (hb : ∀ a d ρ, Mt (pI a) ρ → Sim (lcStep f A G vs d ρ) (F a d).nox fun o k ρ' => k = some o ∧ Mt (pI a) ρ') :
    EW p (lcR Gi f A G vs) (fun γ K => MI γ fun a => (few (dsI a) (mapR (F a) (dsI a))).bind fun l => K (a, l)) (fun t => .lst t.2) (fun t => pI t.1) := fun ρ m γ β K g Ψ k => by
  show Sim ((lcR Gi f A G vs ρ).bind g) _ _
  unfold lcR
  rw [R.bind_assoc]
  refine hi ρ m γ β _ _ Ψ fun a ds ρ1 ⟨e1, m1⟩ => ?_
  subst e1
  rw [R.bind_assoc]
  refine Sim.bind (Φ := fun l k ρ' => k = l ∧ Mt (pI a) ρ') (sim_few fun hn => ?_) fun l k2 ρ2 ⟨e2, m2⟩ => ?_
  · have h := lc_sim (σ := Unit) (p := fun _ => pI a) (f := f) (A := A) (G := G) (vs := vs) (m := fun _ d => (F a d).nox.bind fun e => .ok (some e, ())) (L := fun ds _ => (mapR (F a) ds).bind fun r => .ok (r, ())) (fun _ => rfl) (fun d ds _ => by
      show ((F a d).nox.bind fun e => (mapR (F a) ds).bind fun r => .ok (e :: r)).bind _ = _
      simp only [Res.bind_assoc, Res.ok_bind]
      rfl) (fun _ d ρ2 m2 => by
      have := (hb a d ρ2 m2).bind (f := .ok) (g := fun e => Res.ok (some e, ())) (Ψ := fun o k ρ' => k = o.1 ∧ Mt (pI a) ρ') fun o k ρ' ⟨e, m'⟩ => ⟨k, ρ', rfl, e, m'⟩
      rw [R.bind_ok] at this
      exact this) (dsI a) [] () ρ1 (by rw [List.length_nil]; omega) m1
    have h2 := h.bind (f := .ok) (g := fun r => Res.ok r.1) (Ψ := fun l k ρ' => k = l ∧ Mt (pI a) ρ') fun r k ρ' ⟨e, m'⟩ => ⟨k, ρ', rfl, by rw [e, List.nil_append], m'⟩
    rw [R.bind_ok, Res.bind_assoc] at h2
    simp only [Res.ok_bind, Res.bind_pure] at h2
    exact h2
  · subst e2
    exact k (a, k2) _ _ ⟨rfl, True.intro, mt_wiped (hv a) m2⟩
/-- [e for t in xs if c] -/
theorem ew_fil (hi : EI p Gi MI dsI pI) (hv : ∀ a, wipeP (pI a) vs = pI a) {F : α → D → Res (Option D)} (hb : ∀ a d ρ, Mt (pI a) ρ → Sim (lcStep f A G vs d ρ) (F a d).nox fun o k ρ' => k = o ∧ Mt (pI a) ρ') :
    EW p (lcR Gi f A G vs) (fun γ K => MI γ fun a => (few (dsI a) (filR (F a) (dsI a))).bind fun l => K (a, l)) (fun t => .lst t.2) (fun t => pI t.1) := fun ρ m γ β K g Ψ k => by
  show Sim ((lcR Gi f A G vs ρ).bind g) _ _
  unfold lcR
  rw [R.bind_assoc]
  refine hi ρ m γ β _ _ Ψ fun a ds ρ1 ⟨e1, m1⟩ => ?_
  subst e1
  rw [R.bind_assoc]
  refine Sim.bind (Φ := fun l k ρ' => k = l ∧ Mt (pI a) ρ') (sim_few fun hn => ?_) fun l k2 ρ2 ⟨e2, m2⟩ => ?_
  · have h := lc_sim (σ := Unit) (p := fun _ => pI a) (f := f) (A := A) (G := G) (vs := vs) (m := fun _ d => (F a d).nox.bind fun e => .ok (e, ())) (L := fun ds _ => (filR (F a) ds).bind fun r => .ok (r, ())) (fun _ => rfl) (fun d ds _ => by
      show ((F a d).nox.bind fun e => (filR (F a) ds).bind fun r => .ok (e.toList ++ r)).bind _ = _
      simp only [Res.bind_assoc, Res.ok_bind]) (fun _ d ρ2 m2 => by
      have := (hb a d ρ2 m2).bind (f := .ok) (g := fun e => Res.ok (e, ())) (Ψ := fun o k ρ' => k = o.1 ∧ Mt (pI a) ρ') fun o k ρ' ⟨e, m'⟩ => ⟨k, ρ', rfl, e, m'⟩
      rw [R.bind_ok] at this
      exact this) (dsI a) [] () ρ1 (by rw [List.length_nil]; omega) m1
    have h2 := h.bind (f := .ok) (g := fun r => Res.ok r.1) (Ψ := fun l k ρ' => k = l ∧ Mt (pI a) ρ') fun r k ρ' ⟨e, m'⟩ => ⟨k, ρ', rfl, by rw [e, List.nil_append], m'⟩
    rw [R.bind_ok, Res.bind_assoc] at h2
    simp only [Res.ok_bind, Res.bind_pure] at h2
    exact h2
  · subst e2
    exact k (a, k2) _ _ ⟨rfl, True.intro, mt_wiped (hv a) m2⟩
/-- the same, nothing done to the slots -/
theorem ewp_map {N : CPS (List D)} (hi : EIP p Gi N) (hv : wipeP p vs = p) {F : D → Res D} (hb : ∀ d ρ, Mt p ρ → Sim (lcStep f A G vs d ρ) (F d).nox fun o k ρ' => k = some o ∧ Mt p ρ') :
    EW p (lcR Gi f A G vs) (fun γ K => N γ fun ds => (few ds (mapR F ds)).bind fun l => K (.lst l)) (fun d => d) (fun _ => p) := fun ρ m γ β K g Ψ k =>
  ew_map (F := fun _ => F) hi (fun _ => hv) (fun _ => hb) ρ m γ β (fun t => K (.lst t.2)) g Ψ fun a kd ρ' q => k _ kd ρ' q
theorem ewp_fil {N : CPS (List D)} (hi : EIP p Gi N) (hv : wipeP p vs = p) {F : D → Res (Option D)} (hb : ∀ d ρ, Mt p ρ → Sim (lcStep f A G vs d ρ) (F d).nox fun o k ρ' => k = o ∧ Mt p ρ') :
    EW p (lcR Gi f A G vs) (fun γ K => N γ fun ds => (few ds (filR F ds)).bind fun l => K (.lst l)) (fun d => d) (fun _ => p) := fun ρ m γ β K g Ψ k =>
  ew_fil (F := fun _ => F) hi (fun _ => hv) (fun _ => hb) ρ m γ β (fun t => K (.lst t.2)) g Ψ fun a kd ρ' q => k _ kd ρ' q
/-- [e for t in xs], e does something to the slots -/
theorem ew_mapS {pS : α → σ → Pat} {s0 : α → σ} (hi : EI p Gi MI dsI pI) (hw : ∀ a, Wk (pS a (s0 a)) (pI a)) (hv : ∀ a s, wipeP (pS a s) vs = pS a s) {F : α → σ → D → Res (D × σ)} (hb : ∀ a s d ρ, Mt (pS a s) ρ → Sim (lcStep f A G vs d ρ) (F a s d).nox fun o k ρ' => k = some o.1 ∧ Mt (pS a o.2) ρ') :
    EW p (lcR Gi f A G vs) (fun γ K => MI γ fun a => (few (dsI a) (mapS (F a) (dsI a) (s0 a))).bind fun l => K (a, l)) (fun t => .lst t.2.1) (fun t => pS t.1 t.2.2) := fun ρ m γ β K g Ψ k => by
  show Sim ((lcR Gi f A G vs ρ).bind g) _ _
  unfold lcR
  rw [R.bind_assoc]
  refine hi ρ m γ β _ _ Ψ fun a ds ρ1 ⟨e1, m1⟩ => ?_
  subst e1
  rw [R.bind_assoc]
  refine Sim.bind (Φ := fun l k ρ' => k = l.1 ∧ Mt (pS a l.2) ρ') (sim_few fun hn => ?_) fun l k2 ρ2 ⟨e2, m2⟩ => ?_
  · have h := lc_sim (σ := σ) (p := pS a) (f := f) (A := A) (G := G) (vs := vs) (m := fun s d => (F a s d).nox.bind fun e => .ok (some e.1, e.2)) (L := fun ds s => mapS (F a) ds s) (fun _ => rfl) (fun d ds s => by
      show ((F a s d).nox.bind fun e => (mapS (F a) ds e.2).bind fun r => .ok (e.1 :: r.1, r.2)) = _
      simp only [Res.bind_assoc, Res.ok_bind]
      rfl) (fun s d ρ2 m2 => by
      have := (hb a s d ρ2 m2).bind (f := .ok) (g := fun e => Res.ok (some e.1, e.2)) (Ψ := fun o k ρ' => k = o.1 ∧ Mt (pS a o.2) ρ') fun o k ρ' ⟨e, m'⟩ => ⟨k, ρ', rfl, e, m'⟩
      rw [R.bind_ok] at this
      exact this) (dsI a) [] (s0 a) ρ1 (by rw [List.length_nil]; omega) (m1.weak (hw a))
    exact h.imp fun r k ρ' ⟨e, m'⟩ => ⟨by rw [e, List.nil_append], m'⟩
  · subst e2
    exact k (a, l) _ _ ⟨rfl, True.intro, mt_wiped (hv a l.2) m2⟩
end
end DL

namespace DL
open PySem PySem.Spec PyProof.Rows L2
/-! ### statements -/
abbrev SQ (γ : Type) := γ → Fl → List Ent → Prop
/-- a statement that goes on -/
def ST (p : Pat) (A : List Ent → R Fl) {α : Type} (M : CPS α) (p' : α → Pat) : Prop := EX p A M fun a fl ρ' => fl = .nx ∧ Mt (p' a) ρ'
/-- a block -/
def BS {γ : Type} (p : Pat) (B : List Ent → R Fl) (m : Res γ) (Φ : SQ γ) : Prop := ∀ ρ, Mt p ρ → Sim (B ρ) m Φ
inductive Ft (σ τ : Type) where
  | nx (s : σ) | bk (s : σ) | rt (t : τ)
def Ft.go {σ τ : Type} (m : σ → Res τ) : Ft σ τ → Res τ
  | .nx s => m s
  | .bk _ => .bad
  | .rt t => .ok t
theorem bs_eq {γ : Type} {p : Pat} {B : List Ent → R Fl} {m m' : Res γ} {Φ : SQ γ} (h : BS p B m Φ) (e : m = m') : BS p B m' Φ := e ▸ h
theorem bs_at {γ : Type} {p : Pat} {B : List Ent → R Fl} {m : Res γ} {Φ : SQ γ} (q : Pat) (e : p = q) (h : BS q B m Φ) : BS p B m Φ := by
  subst e
  exact h
def QN {σ : Type} (mk : σ → Pat) : SQ σ := fun s fl ρ => fl = .nx ∧ Mt (mk s) ρ
/-- goes on, or leaves by Φ -/
def QF {σ τ : Type} (mk : σ → Pat) (Φ : SQ τ) : SQ (Ft σ τ) := fun g fl ρ => match g with
  | .nx s => fl = .nx ∧ Mt (mk s) ρ
  | .bk s => fl = .bk ∧ Mt (mk s) ρ
  | .rt t => fl ≠ .nx ∧ Φ t fl ρ
/-- a loop's body -/
def QL {σ : Type} (mk : σ → Pat) : SQ σ := fun s fl ρ => (fl = .nx ∨ fl = .ct) ∧ Mt (mk s) ρ
def QX {σ τ : Type} (mk : σ → Pat) (Φ : SQ τ) : SQ (Ft σ τ) := fun g fl ρ => match g with
  | .nx s => (fl = .nx ∨ fl = .ct) ∧ Mt (mk s) ρ
  | .bk s => fl = .bk ∧ Mt (mk s) ρ
  | .rt t => (∃ k, fl = .rt k) ∧ Φ t fl ρ
/-- left, not gone on -/
def QR {γ : Type} (Φ : SQ γ) : SQ γ := fun g fl ρ => fl ≠ .nx ∧ Φ g fl ρ
section
variable {p : Pat} {A : List Ent → R Bool} {B B1 B2 S : List Ent → R Fl} {G Gx Gi' : List Ent → R Kd} {α β γ σ τ : Type} {MA : CPS α} {dA : α → D} {pA : α → Pat} {bA : α → Bool} {Φ : SQ γ}
theorem st_set (i : Nat) (h : EV p G MA dA pA) : ST p (setR i G) MA (fun a => (pA a).set i (some (.va (dA a)))) := fun ρ m γ β K f Ψ k => by
  show Sim ((setR i G ρ).bind f) _ _
  unfold setR
  rw [R.bind_assoc]
  refine h ρ m γ β _ _ Ψ fun a k1 ρ1 ⟨e1, m1⟩ => ?_
  subst e1
  exact k a .nx _ ⟨rfl, m1.set i _⟩
theorem st_setO (i : Nat) (h : EW p G MA dA pA) : ST p (setO i G) MA (fun a => (pA a).set i (some (.ow none (dA a)))) := fun ρ m γ β K f Ψ k => by
  show Sim ((setO i G ρ).bind f) _ _
  unfold setO
  rw [R.bind_assoc]
  refine h ρ m γ β _ _ Ψ fun a k1 ρ1 ⟨e1, _, m1⟩ => ?_
  subst e1
  exact k a .nx _ ⟨rfl, m1.set i _⟩
theorem st_drop (h : EF p G MA dA pA) : ST p (dropR G) MA pA := fun ρ m γ β K f Ψ k => by
  show Sim ((dropR G ρ).bind f) _ _
  unfold dropR
  rw [R.bind_assoc]
  exact h ρ m γ β _ _ Ψ fun a k1 ρ1 ⟨e1, m1⟩ => k a .nx _ ⟨rfl, m1⟩
theorem st_nop : ST p nxS (fun _ K => K ()) (fun _ : Unit => p) := ex_ok fun ρ m => ⟨.nx, ρ, rfl, rfl, m⟩
/-- xs.append(e) of a slot's own list -/
def apM : D → D → Res D
  | .lst ds, d => if ds.length < big then .ok (.lst (ds ++ [d])) else .bad
  | _, _ => .bad
def lstOf : D → Res Unit
  | .lst _ => .ok ()
  | _ => .bad
theorem ef_app (i : Nat) (n : Option Nat) (x : D) (hi : p[i]? = some (some (.ow n x))) (h : EV p G MA dA pA) (hk : ∀ a, (pA a)[i]? = some (some (.ow n x))) :
    EF p (appR (nameR i) G) (fun γ K => (lstOf x).bind fun _ => MA γ fun a => (apM x (dA a)).bind fun l => K (a, l)) (fun _ => .non) (fun t => (pA t.1).set i (some (.ow n t.2))) := fun ρ m γ β K f Ψ k => by
  show Sim ((appR (nameR i) G ρ).bind f) _ _
  have e : nameR i ρ = .ok (.al i) ρ := by unfold nameR; rw [m.get hi]
  have e2 : lstAt i ρ = match x with
    | .lst _ => true
    | _ => false := by
    unfold lstAt
    rw [m.get hi]
    cases x <;> rfl
  unfold appR
  rw [e]
  show Sim ((if lstAt i ρ then (toVa (G ρ)).bind _ else R.bad).bind f) _ _
  rw [e2]
  cases x with
  | lst ds =>
    show Sim (((toVa (G ρ)).bind _).bind f) _ _
    rw [R.bind_assoc]
    refine h ρ m γ β _ _ Ψ fun a k1 ρ1 ⟨e1, m1⟩ => ?_
    subst e1
    show Sim ((match ρ1[i]? with
        | some (.ow n (.lst ds)) => if ds.length < big then R.ok (Kd.va .non) (ρ1.set i (.ow n (.lst (ds ++ [dA a])))) else .bad
        | _ => .bad).bind f) _ _
    rw [m1.get (hk a)]
    show Sim ((if ds.length < big then R.ok (Kd.va .non) (ρ1.set i (.ow n (.lst (ds ++ [dA a])))) else .bad).bind f) ((if ds.length < big then Res.ok (D.lst (ds ++ [dA a])) else .bad).bind fun l => K (a, l)) _
    split
    · exact k (a, _) _ _ ⟨.inl rfl, m1.set i _⟩
    · exact True.intro
  | _ => exact True.intro
/-- xs[j] = e of a slot's own list -/
def stM : D → D → D → Res D
  | .lst ds, .int z, d => match ixN ds.length z with
    | some j => .ok (.lst (ds.set j d))
    | none => .bad
  | _, _, _ => .bad
theorem st_setIx (i : Nat) {n : α → Option Nat} {dX : α → D} (h : EV p G MA dA pA) (hi : ∀ a, (pA a)[i]? = some (some (.ow (n a) (dX a)))) {MJ : α → CPS D} (hj : ∀ a, EP (pA a) Gi' (MJ a)) :
    ST p (setIx (nameR i) Gi' G) (fun γ K => MA γ fun a => MJ a γ fun j => (stM (dX a) j (dA a)).bind fun l => K (a, l)) (fun t => (pA t.1).set i (some (.ow (n t.1) t.2))) := fun ρ m γ β K f Ψ k => by
  show Sim ((setIx (nameR i) Gi' G ρ).bind f) _ _
  unfold setIx
  rw [R.bind_assoc]
  refine h ρ m γ β _ _ Ψ fun a k1 ρ1 ⟨e1, m1⟩ => ?_
  subst e1
  have e : nameR i ρ1 = .ok (.al i) ρ1 := by unfold nameR; rw [m1.get (hi a)]
  dsimp only
  rw [e]
  dsimp only [R.bind]
  show Sim (((fz (Gi' ρ1)).bind _).bind f) _ _
  rw [R.bind_assoc, fz_b]
  refine hj a ρ1 m1 γ β _ _ Ψ fun j k2 ρ2 ⟨e2, m2⟩ => ?_
  rw [e2.fk]
  have hi2 := m2.get (hi a)
  cases j with
  | int z =>
    show Sim ((match ρ2[i]? with
        | some (.ow n (.lst ds)) => match ixN ds.length z with
          | some j => R.ok Fl.nx (ρ2.set i (.ow n (.lst (ds.set j (dA a)))))
          | none => .bad
        | _ => .bad).bind f) _ _
    rw [hi2]
    cases hx : dX a with
    | lst ds =>
      show Sim ((match ixN ds.length z with
          | some j => R.ok Fl.nx (ρ2.set i (.ow (n a) (.lst (ds.set j (dA a)))))
          | none => .bad).bind f) ((match ixN ds.length z with
          | some j => Res.ok (D.lst (ds.set j (dA a)))
          | none => .bad).bind fun l => K (a, l)) _
      cases ixN ds.length z with
      | none => exact True.intro
      | some j => exact k (a, _) .nx _ ⟨rfl, m2.set i _⟩
    | _ => exact True.intro
  | _ => cases dX a <;> exact True.intro
/-- target = e -/
theorem st_asg {f : D → List Ent → Option (List Ent)} (h : EV p G MA dA pA) {MT : α → CPS τ} {pT : α → τ → Pat} (ht : ∀ a, TG1 (pA a) f (dA a) (MT a) (pT a)) :
    ST p (asgR f G) (fun γ K => MA γ fun a => MT a γ fun t => K (a, t)) (fun t => pT t.1 t.2) := fun ρ m γ β K g Ψ k => by
  show Sim ((asgR f G ρ).bind g) _ _
  unfold asgR
  rw [R.bind_assoc]
  refine h ρ m γ β _ _ Ψ fun a k1 ρ1 ⟨e1, m1⟩ => ?_
  subst e1
  have := ht a ρ1 m1 γ β (fun t => K (a, t)) (fun ρ2 => g .nx ρ2) Ψ fun t ρ2 m2 => k (a, t) .nx ρ2 ⟨rfl, m2⟩
  show Sim ((match f (dA a) ρ1 with
    | some ρ2 => R.ok Fl.nx ρ2
    | none => .bad).bind g) _ _
  revert this
  cases f (dA a) ρ1 with
  | none => exact id
  | some ρ2 => exact id
/-- a, b = x, y -/
theorem st_parVV (i j : Nat) {Ga Gb : List Ent → R Kd} {MB : α → CPS β} {dB : α → β → D} {pB : α → β → Pat} (ha : EV p Ga MA dA pA) (hb : ∀ a, EV (pA a) Gb (MB a) (dB a) (pB a)) :
    ST p (parVV i j Ga Gb) (fun γ K => MA γ fun a => MB a γ fun b => K (a, b)) (fun t => ((pB t.1 t.2).set i (some (.va (dA t.1)))).set j (some (.va (dB t.1 t.2)))) := fun ρ m γ ν K f Ψ k => by
  show Sim ((parVV i j Ga Gb ρ).bind f) _ _
  unfold parVV
  rw [R.bind_assoc]
  refine ha ρ m γ ν _ _ Ψ fun a k1 ρ1 ⟨e1, m1⟩ => ?_
  subst e1
  rw [R.bind_assoc]
  refine hb a ρ1 m1 γ ν _ _ Ψ fun b k2 ρ2 ⟨e2, m2⟩ => ?_
  subst e2
  exact k (a, b) .nx _ ⟨rfl, (m2.set i _).set j _⟩
theorem st_parVO (i j : Nat) {Ga Gb : List Ent → R Kd} {MB : α → CPS β} {dB : α → β → D} {pB : α → β → Pat} (ha : EV p Ga MA dA pA) (hb : ∀ a, EW (pA a) Gb (MB a) (dB a) (pB a)) :
    ST p (parVO i j Ga Gb) (fun γ K => MA γ fun a => MB a γ fun b => K (a, b)) (fun t => ((pB t.1 t.2).set i (some (.va (dA t.1)))).set j (some (.ow none (dB t.1 t.2)))) := fun ρ m γ ν K f Ψ k => by
  show Sim ((parVO i j Ga Gb ρ).bind f) _ _
  unfold parVO
  rw [R.bind_assoc]
  refine ha ρ m γ ν _ _ Ψ fun a k1 ρ1 ⟨e1, m1⟩ => ?_
  subst e1
  rw [R.bind_assoc]
  refine hb a ρ1 m1 γ ν _ _ Ψ fun b k2 ρ2 ⟨e2, _, m2⟩ => ?_
  subst e2
  exact k (a, b) .nx _ ⟨rfl, (m2.set i _).set j _⟩
theorem st_par3VVV (i j l : Nat) {Ga Gb Gc : List Ent → R Kd} {MB : α → CPS β} {dB : α → β → D} {pB : α → β → Pat} {MC : α → β → CPS τ} {dC : α → β → τ → D} {pC : α → β → τ → Pat} (ha : EV p Ga MA dA pA) (hb : ∀ a, EV (pA a) Gb (MB a) (dB a) (pB a)) (hc : ∀ a b, EV (pB a b) Gc (MC a b) (dC a b) (pC a b)) :
    ST p (par3VVV i j l Ga Gb Gc) (fun γ K => MA γ fun a => MB a γ fun b => MC a b γ fun c => K (a, b, c)) (fun t => (((pC t.1 t.2.1 t.2.2).set i (some (.va (dA t.1)))).set j (some (.va (dB t.1 t.2.1)))).set l (some (.va (dC t.1 t.2.1 t.2.2)))) := fun ρ m γ ν K f Ψ k => by
  show Sim ((par3VVV i j l Ga Gb Gc ρ).bind f) _ _
  unfold par3VVV
  rw [R.bind_assoc]
  refine ha ρ m γ ν _ _ Ψ fun a k1 ρ1 ⟨e1, m1⟩ => ?_
  subst e1
  rw [R.bind_assoc]
  refine hb a ρ1 m1 γ ν _ _ Ψ fun b k2 ρ2 ⟨e2, m2⟩ => ?_
  subst e2
  rw [R.bind_assoc]
  refine hc a b ρ2 m2 γ ν _ _ Ψ fun c k3 ρ3 ⟨e3, m3⟩ => ?_
  subst e3
  exact k (a, b, c) .nx _ ⟨rfl, ((m3.set i _).set j _).set l _⟩
theorem st_par3VVO (i j l : Nat) {Ga Gb Gc : List Ent → R Kd} {MB : α → CPS β} {dB : α → β → D} {pB : α → β → Pat} {MC : α → β → CPS τ} {dC : α → β → τ → D} {pC : α → β → τ → Pat} (ha : EV p Ga MA dA pA) (hb : ∀ a, EV (pA a) Gb (MB a) (dB a) (pB a)) (hc : ∀ a b, EW (pB a b) Gc (MC a b) (dC a b) (pC a b)) :
    ST p (par3VVO i j l Ga Gb Gc) (fun γ K => MA γ fun a => MB a γ fun b => MC a b γ fun c => K (a, b, c)) (fun t => (((pC t.1 t.2.1 t.2.2).set i (some (.va (dA t.1)))).set j (some (.va (dB t.1 t.2.1)))).set l (some (.ow none (dC t.1 t.2.1 t.2.2)))) := fun ρ m γ ν K f Ψ k => by
  show Sim ((par3VVO i j l Ga Gb Gc ρ).bind f) _ _
  unfold par3VVO
  rw [R.bind_assoc]
  refine ha ρ m γ ν _ _ Ψ fun a k1 ρ1 ⟨e1, m1⟩ => ?_
  subst e1
  rw [R.bind_assoc]
  refine hb a ρ1 m1 γ ν _ _ Ψ fun b k2 ρ2 ⟨e2, m2⟩ => ?_
  subst e2
  rw [R.bind_assoc]
  refine hc a b ρ2 m2 γ ν _ _ Ψ fun c k3 ρ3 ⟨e3, _, m3⟩ => ?_
  subst e3
  exact k (a, b, c) .nx _ ⟨rfl, ((m3.set i _).set j _).set l _⟩
/-! blocks -/
theorem bs_seq {M : CPS α} {p' : α → Pat} {m : α → Res γ} (h : ST p S M p') (h2 : ∀ a, BS (p' a) B (m a) Φ) : BS p (seqR S B) (M γ m) Φ := fun ρ mt => by
  unfold seqR
  have := h ρ mt γ Fl m (fun fl ρ1 => match fl with
    | .nx => B ρ1
    | fl => .ok fl ρ1) Φ fun a fl ρ1 ⟨e1, m1⟩ => by
    subst e1
    exact h2 a ρ1 m1
  exact this
theorem bs_one {M : CPS α} {p' : α → Pat} (g : α → γ) (h : ST p S M p') (h2 : ∀ a ρ', Mt (p' a) ρ' → Φ (g a) .nx ρ') : BS p S (M γ (fun a => .ok (g a))) Φ := fun ρ mt => by
  have := h ρ mt γ Fl (fun a => .ok (g a)) .ok Φ fun a fl ρ1 ⟨e1, m1⟩ => by
    subst e1
    exact ⟨_, ρ1, rfl, h2 a ρ1 m1⟩
  rw [R.bind_ok] at this
  exact this
theorem bs_nil (g : γ) (h : ∀ ρ', Mt p ρ' → Φ g .nx ρ') : BS p nxS (.ok g) Φ := fun ρ mt => ⟨.nx, ρ, rfl, h ρ mt⟩
theorem bs_ret {M : CPS α} (g : α → γ) (h : EF p G M dA pA) (h2 : ∀ a k ρ', Kr k (dA a) → Mt (pA a) ρ' → Φ (g a) (.rt k) ρ') : BS p (retR G) (M γ (fun a => .ok (g a))) Φ := fun ρ mt => by
  unfold retR
  refine h ρ mt γ Fl (fun a => .ok (g a)) _ Φ fun a k ρ1 ⟨e1, m1⟩ => ?_
  rcases e1 with rfl | ⟨rfl, i⟩
  · exact ⟨_, ρ1, rfl, h2 a _ ρ1 (.inl rfl) m1⟩
  · exact ⟨_, ρ1, rfl, h2 a _ ρ1 (.inr ⟨rfl, i⟩) m1⟩
/-- a slot's name is returned: let go -/
theorem bs_retV {M : CPS α} (g : α → γ) (h : EV p G M dA pA) (h2 : ∀ a k ρ', Kr k (dA a) → Mt (pA a) ρ' → Φ (g a) (.rt k) ρ') : BS p (retR (fun ρ => toVa (G ρ))) (M γ (fun a => .ok (g a))) Φ := fun ρ mt => by
  unfold retR
  refine h ρ mt γ Fl (fun a => .ok (g a)) _ Φ fun a k ρ1 ⟨e1, m1⟩ => ?_
  subst e1
  exact ⟨_, ρ1, rfl, h2 a _ ρ1 (.inl rfl) m1⟩
theorem bs_retN (g : γ) (h : ∀ ρ', Mt p ρ' → Φ g (.rt (.va .non)) ρ') : BS p (fun ρ => .ok (.rt (.va .non)) ρ) (.ok g) Φ := fun ρ mt => ⟨_, ρ, rfl, h ρ mt⟩
theorem bs_if {M : CPS α} {m1 m2 : α → Res γ} (h : EB p A M bA pA) (h1 : ∀ a, BS (pA a) B1 (m1 a) Φ) (h2 : ∀ a, BS (pA a) B2 (m2 a) Φ) : BS p (ifS A B1 B2) (M γ fun a => if bA a then m1 a else m2 a) Φ := fun ρ mt => by
  unfold ifS
  refine h ρ mt γ Fl _ _ Φ fun a b ρ1 ⟨e1, m1'⟩ => ?_
  subst e1
  cases bA a with
  | true => exact h1 a ρ1 m1'
  | false => exact h2 a ρ1 m1'
/-- if c: ..(leaves); rest -/
theorem bs_guard {M : CPS α} {m1 m2 : α → Res γ} (h : EB p A M bA pA) (h1 : ∀ a, BS (pA a) B1 (m1 a) (QR Φ)) (h2 : ∀ a, BS (pA a) B (m2 a) Φ) : BS p (seqR (ifS A B1 nxS) B) (M γ fun a => if bA a then m1 a else m2 a) Φ := fun ρ mt => by
  unfold seqR ifS
  rw [R.bind_assoc]
  refine h ρ mt γ Fl _ _ Φ fun a b ρ1 ⟨e1, m1'⟩ => ?_
  subst e1
  cases bA a with
  | false => exact h2 a ρ1 m1'
  | true =>
    have := h1 a ρ1 m1'
    show Sim ((B1 ρ1).bind _) (m1 a) Φ
    revert this
    cases m1 a with
    | bad => exact fun _ => True.intro
    | ex x => rintro ⟨ρ', q⟩; rw [q]; exact ⟨ρ', rfl⟩
    | ok g =>
      rintro ⟨fl, ρ', q, hn, hq⟩
      rw [q]
      cases fl with
      | nx => exact (hn rfl).elim
      | bk => exact ⟨_, ρ', rfl, hq⟩
      | ct => exact ⟨_, ρ', rfl, hq⟩
      | rt k => exact ⟨_, ρ', rfl, hq⟩
/-- a statement of several ways that goes on -/
theorem bs_step (mk : σ → Pat) {m1 : Res σ} {m2 : σ → Res γ} (h : BS p S m1 (QN mk)) (h2 : ∀ s, BS (mk s) B (m2 s) Φ) : BS p (seqR S B) (m1.bind m2) Φ := fun ρ mt => by
  unfold seqR
  refine (h ρ mt).bind fun s fl ρ1 ⟨e1, m1'⟩ => ?_
  subst e1
  exact h2 s ρ1 m1'
/-- a statement that goes on or leaves -/
theorem bs_stepF (mk : σ → Pat) {m1 : Res (Ft σ γ)} {m2 : σ → Res γ} (h : BS p S m1 (QF mk Φ)) (h2 : ∀ s, BS (mk s) B (m2 s) Φ) : BS p (seqR S B) (m1.bind (Ft.go m2)) Φ := fun ρ mt => by
  unfold seqR
  refine (h ρ mt).bind fun s fl ρ1 q => ?_
  cases s with
  | nx s =>
    obtain ⟨e1, m1'⟩ := q
    subst e1
    exact h2 s ρ1 m1'
  | bk s => exact True.intro
  | rt t =>
    obtain ⟨hn, hq⟩ := q
    cases fl with
    | nx => exact (hn rfl).elim
    | bk => exact ⟨_, ρ1, rfl, hq⟩
    | ct => exact ⟨_, ρ1, rfl, hq⟩
    | rt k => exact ⟨_, ρ1, rfl, hq⟩
theorem BS.imp {m : Res γ} {Φ' : SQ γ} (h : BS p S m Φ) (k : ∀ g fl ρ, Φ g fl ρ → Φ' g fl ρ) : BS p S m Φ' := fun ρ mt => (h ρ mt).imp k
/-! loops -/
def foldR (f : σ → D → Res σ) : List D → σ → Res σ
  | [], s => .ok s
  | d :: ds, s => (f s d).bind fun s' => foldR f ds s'
def loopR (f : σ → D → Res (Ft σ τ)) : List D → σ → Res (Ft σ τ)
  | [], s => .ok (.nx s)
  | d :: ds, s => (f s d).bind fun
    | .nx s' => loopR f ds s'
    | .bk s' => .ok (.nx s')
    | .rt t => .ok (.rt t)
/-- target, then the body -/
def bodyR (f : D → List Ent → Option (List Ent)) (B : List Ent → R Fl) (d : D) (ρ : List Ent) : R Fl := match f d ρ with
  | some ρ1 => B ρ1
  | none => .bad
theorem sim_body {f : D → List Ent → Option (List Ent)} {d : D} {MT : CPS τ} {pT : τ → Pat} {m : τ → Res γ} (ht : TG1 p f d MT pT) (hb : ∀ t, BS (pT t) B (m t) Φ) : BS p (bodyR f B d) (MT γ m) Φ := fun ρ mt => by
  exact ht ρ mt γ Fl m B Φ fun t ρ1 m1 => hb t ρ1 m1
theorem forR_eq (f : D → List Ent → Option (List Ent)) (B : List Ent → R Fl) (d : D) (ds : List D) (ρ : List Ent) : forR f B (d :: ds) ρ = match bodyR f B d ρ with
    | .ok .nx ρ2 => forR f B ds ρ2
    | .ok .ct ρ2 => forR f B ds ρ2
    | .ok .bk ρ2 => .ok .nx ρ2
    | r => r := by
  show (match f d ρ with
    | some ρ1 => match B ρ1 with
      | .ok .nx ρ2 => forR f B ds ρ2
      | .ok .ct ρ2 => forR f B ds ρ2
      | .ok .bk ρ2 => .ok .nx ρ2
      | r => r
    | none => .bad) = _
  unfold bodyR
  cases f d ρ <;> rfl
theorem for_sim {f : D → List Ent → Option (List Ent)} {F : σ → D → Res σ} {mk : σ → Pat} (hb : ∀ s d, BS (mk s) (bodyR f B d) (F s d) (QL mk)) : ∀ (ds : List D) (s : σ) (ρ : List Ent), Mt (mk s) ρ → Sim (forR f B ds ρ) (foldR F ds s) (QN mk)
  | [], s, ρ, mt => ⟨.nx, ρ, rfl, rfl, mt⟩
  | d :: ds, s, ρ, mt => by
    rw [forR_eq]
    have := hb s d ρ mt
    show Sim _ ((F s d).bind fun s' => foldR F ds s') _
    revert this
    cases F s d with
    | bad => exact fun _ => True.intro
    | ex x => rintro ⟨ρ', q⟩; rw [q]; exact ⟨ρ', rfl⟩
    | ok s' =>
      rintro ⟨fl, ρ', q, hq, m'⟩
      rw [q]
      rcases hq with rfl | rfl
      · exact for_sim hb ds s' ρ' m'
      · exact for_sim hb ds s' ρ' m'
theorem loop_sim {f : D → List Ent → Option (List Ent)} {F : σ → D → Res (Ft σ γ)} {mk : σ → Pat} (hb : ∀ s d, BS (mk s) (bodyR f B d) (F s d) (QX mk Φ)) : ∀ (ds : List D) (s : σ) (ρ : List Ent), Mt (mk s) ρ → Sim (forR f B ds ρ) (loopR F ds s) (QF mk Φ)
  | [], s, ρ, mt => ⟨.nx, ρ, rfl, rfl, mt⟩
  | d :: ds, s, ρ, mt => by
    rw [forR_eq]
    have := hb s d ρ mt
    rw [loopR]
    revert this
    cases F s d with
    | bad => exact fun _ => True.intro
    | ex x => rintro ⟨ρ', q⟩; rw [q]; exact ⟨ρ', rfl⟩
    | ok g =>
      rintro ⟨fl, ρ', q, hq⟩
      rw [q]
      cases g with
      | nx s' =>
        obtain ⟨hq, m'⟩ := hq
        rcases hq with rfl | rfl
        · exact loop_sim hb ds s' ρ' m'
        · exact loop_sim hb ds s' ρ' m'
      | bk s' =>
        obtain ⟨rfl, m'⟩ := hq
        exact ⟨.nx, ρ', rfl, rfl, m'⟩
      | rt t =>
        obtain ⟨⟨k, rfl⟩, hq⟩ := hq
        exact ⟨_, ρ', rfl, (fun z => by cases z), hq⟩
section
variable {Gi : List Ent → R (List D)} {MI : CPS α} {dsI : α → List D} {pI : α → Pat} {f : D → List Ent → Option (List Ent)}
/-- for t in xs: ..; rest -/
theorem bs_for (mk : α → σ → Pat) (s0 : α → σ) {F : α → σ → D → Res σ} {m2 : α → σ → Res γ} (hi : EI p Gi MI dsI pI)
    (hw : ∀ a, Wk (mk a (s0 a)) (pI a)) (hb : ∀ a s d, BS (mk a s) (bodyR f B1 d) (F a s d) (QL (mk a))) (h2 : ∀ a s, BS (mk a s) B (m2 a s) Φ) : BS p (seqR (forS Gi f B1) B) (MI γ (fun a => (foldR (F a) (dsI a) (s0 a)).bind (m2 a))) Φ := fun ρ mt => by
  unfold seqR forS
  rw [R.bind_assoc]
  refine hi ρ mt γ Fl _ _ Φ fun a ds ρ1 ⟨e1, m1⟩ => ?_
  subst e1
  refine (for_sim (hb a) (dsI a) (s0 a) ρ1 (m1.weak (hw a))).bind fun s fl ρ2 ⟨e2, m2'⟩ => ?_
  subst e2
  exact h2 a s ρ2 m2'
theorem bs_loop (mk : α → σ → Pat) (s0 : α → σ) {F : α → σ → D → Res (Ft σ γ)} {m2 : α → σ → Res γ} (hi : EI p Gi MI dsI pI)
    (hw : ∀ a, Wk (mk a (s0 a)) (pI a)) (hb : ∀ a s d, BS (mk a s) (bodyR f B1 d) (F a s d) (QX (mk a) Φ)) (h2 : ∀ a s, BS (mk a s) B (m2 a s) Φ) : BS p (seqR (forS Gi f B1) B) (MI γ (fun a => (loopR (F a) (dsI a) (s0 a)).bind (Ft.go (m2 a)))) Φ := fun ρ mt => by
  unfold seqR forS
  rw [R.bind_assoc]
  refine hi ρ mt γ Fl _ _ Φ fun a ds ρ1 ⟨e1, m1⟩ => ?_
  subst e1
  refine (loop_sim (hb a) (dsI a) (s0 a) ρ1 (m1.weak (hw a))).bind fun s fl ρ2 q => ?_
  cases s with
  | nx s =>
    obtain ⟨e2, m2'⟩ := q
    subst e2
    exact h2 a s ρ2 m2'
  | bk s => exact True.intro
  | rt t =>
    obtain ⟨hn, hq⟩ := q
    cases fl with
    | nx => exact (hn rfl).elim
    | bk => exact ⟨_, ρ2, rfl, hq⟩
    | ct => exact ⟨_, ρ2, rfl, hq⟩
    | rt k => exact ⟨_, ρ2, rfl, hq⟩
end
/-- while c: ..; rest -/
def whileM (t : σ → Res Bool) (f : σ → Res σ) : Nat → σ → Res σ
  | 0, _ => .bad
  | n + 1, s => (t s).bind fun b => if b then (f s).bind (whileM t f n) else .ok s
theorem while_sim {t : σ → Res Bool} {F : σ → Res σ} {mk : σ → Pat} (ha : ∀ s ρ, Mt (mk s) ρ → Sim (A ρ) (t s) fun b k ρ' => k = b ∧ Mt (mk s) ρ') (hb : ∀ s, BS (mk s) B (F s) (QL mk)) : ∀ (n : Nat) (s : σ) (ρ : List Ent), Mt (mk s) ρ → Sim (whileR A B n ρ) (whileM t F n s) (QN mk)
  | 0, s, ρ, mt => True.intro
  | n + 1, s, ρ, mt => by
    show Sim ((A ρ).bind fun b ρ1 => if b then match B ρ1 with
      | .ok .nx ρ2 => whileR A B n ρ2
      | .ok .ct ρ2 => whileR A B n ρ2
      | .ok .bk ρ2 => .ok .nx ρ2
      | r => r
      else .ok .nx ρ1) ((t s).bind fun b => if b then (F s).bind (whileM t F n) else .ok s) _
    refine (ha s ρ mt).bind fun b k ρ1 ⟨e1, m1⟩ => ?_
    subst e1
    cases k with
    | false => exact ⟨.nx, ρ1, rfl, rfl, m1⟩
    | true =>
      have := hb s ρ1 m1
      show Sim (match B ρ1 with
        | .ok .nx ρ2 => whileR A B n ρ2
        | .ok .ct ρ2 => whileR A B n ρ2
        | .ok .bk ρ2 => .ok .nx ρ2
        | r => r) ((F s).bind (whileM t F n)) _
      revert this
      cases F s with
      | bad => exact fun _ => True.intro
      | ex x => rintro ⟨ρ', q⟩; rw [q]; exact ⟨ρ', rfl⟩
      | ok s' =>
        rintro ⟨fl, ρ', q, hq, m'⟩
        rw [q]
        rcases hq with rfl | rfl
        · exact while_sim ha hb n s' ρ' m'
        · exact while_sim ha hb n s' ρ' m'
theorem bs_while (mk : σ → Pat) (s0 : σ) {t : σ → CPS Bool} {F : σ → Res σ} {m2 : σ → Res γ} {fuel : Nat} (ha : ∀ s, EBP (mk s) A (t s)) (hw : Wk (mk s0) p) (hb : ∀ s, BS (mk s) B1 (F s) (QL mk)) (h2 : ∀ s, BS (mk s) B (m2 s) Φ) :
    BS p (seqR (fun ρ => whileR A B1 fuel ρ) B) ((whileM (fun s => t s Bool .ok) F fuel s0).bind m2) Φ := fun ρ mt => by
  unfold seqR
  refine (while_sim (fun s ρ mt => (ha s).sim mt) hb fuel s0 ρ (mt.weak hw)).bind fun s fl ρ2 ⟨e2, m2'⟩ => ?_
  subst e2
  exact h2 s ρ2 m2'
end
/-! ### defs -/
def QT : SQ D := fun d fl _ => (∃ k, fl = .rt k ∧ Kr k d) ∨ (fl = .nx ∧ d = .non)
def QTW : SQ D := fun d fl _ => fl = .rt (.ow d) ∧ isMut d
def QTB : SQ (D × D) := fun d fl ρ => ((∃ k, fl = .rt k ∧ Kr k d.1) ∨ (fl = .nx ∧ d.1 = .non)) ∧ ρ[0]? = some (.ow (some 0) d.2)
theorem sim_fin {n : Nat} {r : R Fl} {m : Res D} (h : Sim r m QT) : Sim (fin n r) m fun d k _ => Kr k d := by
  cases m with
  | bad => exact True.intro
  | ex x => obtain ⟨ρ', e⟩ := h; rw [e]; exact ⟨_, rfl⟩
  | ok d =>
    obtain ⟨fl, ρ', e, q⟩ := h
    rw [e]
    rcases q with ⟨k, rfl, q⟩ | ⟨rfl, rfl⟩
    · rcases q with rfl | ⟨rfl, i⟩
      · exact ⟨_, _, rfl, .inl rfl⟩
      · exact ⟨_, _, rfl, .inr ⟨rfl, i⟩⟩
    · exact ⟨_, _, rfl, .inl rfl⟩
theorem sim_finW {n : Nat} {r : R Fl} {m : Res D} (h : Sim r m QTW) : Sim (fin n r) m fun d k _ => k = .ow d ∧ isMut d := by
  cases m with
  | bad => exact True.intro
  | ex x => obtain ⟨ρ', e⟩ := h; rw [e]; exact ⟨_, rfl⟩
  | ok d =>
    obtain ⟨fl, ρ', e, rfl, i⟩ := h
    rw [e]
    exact ⟨_, _, rfl, rfl, i⟩
theorem ownP_hd {n : Nat} {ρ : List Ent} {b : D} (h : ρ[0]? = some (.ow (some 0) b)) : ∃ r, ownP (n + 1) ρ = .ow (some 0) b :: r := by
  unfold ownP
  rw [List.range_succ_eq_map]
  rw [List.map_cons, h]
  exact ⟨_, rfl⟩
theorem sim_finB {n : Nat} {r : R Fl} {m : Res (D × D)} (h : Sim r m QTB) : Sim (fin (n + 1) r) m fun d k ρ' => Kr k d.1 ∧ ∃ r, ρ' = .ow (some 0) d.2 :: r := by
  cases m with
  | bad => exact True.intro
  | ex x => obtain ⟨ρ', e⟩ := h; rw [e]; exact ⟨_, rfl⟩
  | ok d =>
    obtain ⟨fl, ρ', e, q, hb⟩ := h
    rw [e]
    obtain ⟨r, hr⟩ := ownP_hd (n := n) hb
    rcases q with ⟨k, rfl, q⟩ | ⟨rfl, h0⟩
    · rcases q with rfl | ⟨rfl, i⟩
      · exact ⟨_, _, rfl, .inl rfl, r, hr⟩
      · exact ⟨_, _, rfl, .inr ⟨rfl, i⟩, r, hr⟩
    · exact ⟨_, _, rfl, .inl (by rw [h0]), r, hr⟩
theorem mt_vas : ∀ (ds : List D) (k : Nat), Mt (ds.map (fun d => some (Ent.va d)) ++ List.replicate k none) (ds.map .va ++ List.replicate k .no)
  | [], k => ⟨by simp, fun i e h => by
    have h : (List.replicate k (none : Option Ent))[i]? = some (some e) := h
    have := List.getElem?_eq_some_iff.mp h
    simp at this⟩
  | d :: ds, k => by
    have ih := mt_vas ds k
    refine ⟨by simp, fun i e h => ?_⟩
    cases i with
    | zero => simpa using h
    | succ i => simpa using ih.2 i e (by simpa using h)
theorem mt_own (b : D) (ds : List D) (k : Nat) : Mt (some (.ow (some 0) b) :: (ds.map (fun d => some (Ent.va d)) ++ List.replicate k none)) (.ow (some 0) b :: (ds.map .va ++ List.replicate k .no)) := by
  have ih := mt_vas ds k
  refine ⟨by simp, fun i e h => ?_⟩
  cases i with
  | zero => simpa using h
  | succ i => simpa using ih.2 i e (by simpa using h)
theorem fm_mk {n pad : Nat} {Gf : List Ent → R Kd} {G : List Ent → R Fl} {Mf : List D → Res D} (eq : ∀ es, Gf es = fin n (G (es ++ List.replicate pad .no))) (off : ∀ ds : List D, ds.length ≠ n → Mf ds = .bad)
    (h : ∀ ds : List D, ds.length = n → BS (ds.map (fun d => some (Ent.va d)) ++ List.replicate pad none) G (Mf ds) QT) : FM n Gf Mf :=
  ⟨fun ds hn => by rw [eq]; exact sim_fin (h ds hn _ (mt_vas ds pad)), off⟩
theorem fw_mk {n pad : Nat} {Gf : List Ent → R Kd} {G : List Ent → R Fl} {Mf : List D → Res D} (eq : ∀ es, Gf es = fin n (G (es ++ List.replicate pad .no))) (off : ∀ ds : List D, ds.length ≠ n → Mf ds = .bad)
    (h : ∀ ds : List D, ds.length = n → BS (ds.map (fun d => some (Ent.va d)) ++ List.replicate pad none) G (Mf ds) QTW) : FW n Gf Mf :=
  ⟨fun ds hn => by rw [eq]; exact sim_finW (h ds hn _ (mt_vas ds pad)), off⟩
theorem fb_mk {n pad : Nat} {Gf : List Ent → R Kd} {G : List Ent → R Fl} {Mf : D → List D → Res (D × D)} (eq : ∀ es, Gf es = fin (n + 1) (G (es ++ List.replicate pad .no))) (off : ∀ (b : D) (ds : List D), ds.length ≠ n → Mf b ds = .bad) (nox : ∀ (b : D) (ds : List D) (x : Exn), Mf b ds ≠ .ex x)
    (h : ∀ (b : D) (ds : List D), ds.length = n → BS (some (.ow (some 0) b) :: (ds.map (fun d => some (Ent.va d)) ++ List.replicate pad none)) G (Mf b ds) QTB) : FB n Gf Mf :=
  ⟨fun b ds hn => by rw [eq]; exact sim_finB (h b ds hn _ (mt_own b ds pad)), off, nox⟩
abbrev ap0 {δ : Type} (f : Res δ) : List D → Res δ
  | [] => f
  | _ => .bad
abbrev ap1 {δ : Type} (f : D → Res δ) : List D → Res δ
  | [a] => f a
  | _ => .bad
abbrev ap2 {δ : Type} (f : D → D → Res δ) : List D → Res δ
  | [a, b] => f a b
  | _ => .bad
abbrev ap3 {δ : Type} (f : D → D → D → Res δ) : List D → Res δ
  | [a, b, c] => f a b c
  | _ => .bad
abbrev ap4 {δ : Type} (f : D → D → D → D → Res δ) : List D → Res δ
  | [a, b, c, d] => f a b c d
  | _ => .bad
abbrev ap5 {δ : Type} (f : D → D → D → D → D → Res δ) : List D → Res δ
  | [a, b, c, d, e] => f a b c d e
  | _ => .bad
/-- no exception leaves: Sim with ex turned bad -/
theorem BS.nox {γ : Type} {p : Pat} {B : List Ent → R Fl} {m : Res γ} {Φ : SQ γ} (h : BS p B m Φ) : BS p B m.nox Φ := fun ρ mt => by
  have := h ρ mt
  revert this
  cases m with
  | bad => exact id
  | ex x => exact fun _ => True.intro
  | ok a => exact id
theorem nox_ne {α : Type} (r : Res α) (x : Exn) : r.nox ≠ .ex x := by cases r <;> exact fun z => nomatch z
end DL

namespace DL
open PySem PySem.Spec PyProof.Rows L2
section
variable {p : Pat} {A : List Ent → R Bool} {B B1 B2 S : List Ent → R Fl} {G : List Ent → R Kd} {α γ : Type} {dA : α → D} {pA : α → Pat} {Φ : SQ γ}
theorem bs_last {m : Res γ} (h : BS p S m Φ) : BS p (seqR S nxS) m Φ := fun ρ mt => by
  have e : seqR S nxS ρ = S ρ := by
    unfold seqR
    cases S ρ with
    | ok fl ρ' => cases fl <;> rfl
    | ex x ρ' => rfl
    | bad => rfl
  rw [e]
  exact h ρ mt
/-- what leaves does not go on -/
theorem bs_leave {m : Res γ} (h : BS p S m (QR Φ)) : BS p (seqR S B) m Φ := fun ρ mt => by
  have := h ρ mt
  unfold seqR
  revert this
  cases m with
  | bad => exact fun _ => True.intro
  | ex x => rintro ⟨ρ', q⟩; rw [q]; exact ⟨ρ', rfl⟩
  | ok g =>
    rintro ⟨fl, ρ', q, hn, hq⟩
    rw [q]
    cases fl with
    | nx => exact (hn rfl).elim
    | bk => exact ⟨_, ρ', rfl, hq⟩
    | ct => exact ⟨_, ρ', rfl, hq⟩
    | rt k => exact ⟨_, ρ', rfl, hq⟩
theorem bs_retS {M : CPS α} (g : α → γ) (h : EF p G M dA pA) (h2 : ∀ a k ρ', Kr k (dA a) → Mt (pA a) ρ' → Φ (g a) (.rt k) ρ') : BS p (seqR (retR G) B) (M γ (fun a => .ok (g a))) Φ := bs_leave (bs_ret g h fun a k ρ' q m => ⟨(fun z => nomatch z), h2 a k ρ' q m⟩)
theorem bs_retVS {M : CPS α} (g : α → γ) (h : EV p G M dA pA) (h2 : ∀ a k ρ', Kr k (dA a) → Mt (pA a) ρ' → Φ (g a) (.rt k) ρ') : BS p (seqR (retR (fun ρ => toVa (G ρ))) B) (M γ (fun a => .ok (g a))) Φ := bs_leave (bs_retV g h fun a k ρ' q m => ⟨(fun z => nomatch z), h2 a k ρ' q m⟩)
theorem bs_retNS (g : γ) (h : ∀ ρ', Mt p ρ' → Φ g (.rt (.va .non)) ρ') : BS p (seqR (fun ρ => .ok (.rt (.va .non)) ρ) B) (.ok g) Φ := bs_leave (bs_retN g fun ρ' m => ⟨(fun z => nomatch z), h ρ' m⟩)
theorem bs_retW {M : CPS α} (g : α → γ) (h : EW p G M dA pA) (h2 : ∀ a ρ', isMut (dA a) → Mt (pA a) ρ' → Φ (g a) (.rt (.ow (dA a))) ρ') : BS p (seqR (retR G) B) (M γ (fun a => .ok (g a))) Φ := bs_leave fun ρ mt => by
  unfold retR
  refine h ρ mt γ Fl (fun a => .ok (g a)) _ _ fun a k ρ1 ⟨e1, i, m1⟩ => ?_
  subst e1
  exact ⟨_, ρ1, rfl, (fun z => nomatch z), h2 a ρ1 i m1⟩
theorem bs_ctS (g : γ) (h : ∀ ρ', Mt p ρ' → Φ g .ct ρ') : BS p (seqR (fun ρ => .ok .ct ρ) B) (.ok g) Φ := bs_leave fun ρ mt => ⟨_, ρ, rfl, (fun z => nomatch z), h ρ mt⟩
theorem bs_bkS (g : γ) (h : ∀ ρ', Mt p ρ' → Φ g .bk ρ') : BS p (seqR (fun ρ => .ok .bk ρ) B) (.ok g) Φ := bs_leave fun ρ mt => ⟨_, ρ, rfl, (fun z => nomatch z), h ρ mt⟩
theorem bs_bad {S : List Ent → R Fl} : BS p S (.bad : Res γ) Φ := fun _ _ => True.intro
end
end DL

namespace DL
open PySem PySem.Spec PyProof.Rows L2
/-! dict displays -/
section
variable {p : Pat} {Gk Gv : List Ent → R Kd} {GP : List Ent → R (List (Key × D))} {Mk Mv : CPS D}
def keyM (d : D) : Res Key := match keyD d with
  | some k => .ok k
  | none => .bad
def EQ (p : Pat) (GP : List Ent → R (List (Key × D))) (M : CPS (List (Key × D))) : Prop := EX p GP M fun a k ρ' => k = a ∧ Mt p ρ'
theorem eq_nil : EQ p nilP (fun _ K => K []) := ex_ok fun ρ m => ⟨[], ρ, rfl, rfl, m⟩
theorem eq_cons {N : CPS (List (Key × D))} (hk : EP p Gk Mk) (hv : EP p Gv Mv) (h : EQ p GP N) : EQ p (consP Gk Gv GP) (fun γ K => (Mk D .ok).nox.bind fun k => (keyM k).bind fun kk => (Mv D .ok).nox.bind fun v => N γ fun r => K ((kk, v) :: r)) := fun ρ m γ β K f Ψ k => by
  show Sim ((consP Gk Gv GP ρ).bind f) _ _
  unfold consP
  rw [R.bind_assoc]
  refine (sim_noX (hk.ev.sim m)).bind fun a k1 ρ1 ⟨e1, m1⟩ => ?_
  subst e1
  unfold keyM
  dsimp only
  cases keyD a with
  | none => exact True.intro
  | some kk =>
    show Sim (((noX (toVa (Gv ρ1))).bind _).bind f) _ _
    rw [R.bind_assoc]
    refine (sim_noX (hv.ev.sim m1)).bind fun v k2 ρ2 ⟨e2, m2⟩ => ?_
    subst e2
    show Sim (((GP ρ2).bind _).bind f) _ _
    rw [R.bind_assoc]
    refine h ρ2 m2 γ β _ _ Ψ fun r k3 ρ3 ⟨e3, m3⟩ => ?_
    exact k _ _ ρ3 ⟨by rw [e3], m3⟩
def dispM (kds : List (Key × D)) : Res D := if kds.length ≤ 15 ∧ (kds.map (·.1)).Nodup then .ok (.dic kds) else .bad
theorem ew_disp {N : CPS (List (Key × D))} (h : EQ p GP N) : EW p (dispR GP) (fun γ K => (N (List (Key × D)) .ok).nox.bind fun kds => (dispM kds).bind K) (fun d => d) (fun _ => p) := fun ρ m γ β K f Ψ k => by
  show Sim ((dispR GP ρ).bind f) _ _
  unfold dispR
  rw [R.bind_assoc]
  refine (sim_noX (h.sim m)).bind fun kds k1 ρ1 ⟨e1, m1⟩ => ?_
  subst e1
  unfold dispM
  split
  · exact k (.dic k1) (.ow (.dic k1)) ρ1 ⟨rfl, True.intro, m1⟩
  · exact True.intro
end
end DL

namespace DL
open PySem PySem.Spec PyProof.Rows L2
/-! ### dicts read -/
def lookD (kvs : List (Key × D)) (k : Key) : Option D := (kvs.find? fun kv => decide (kv.1 = k)).map (·.2)
def putKD (kvs : List (Key × D)) (k : Key) (d : D) : List (Key × D) := if (kvs.any fun kv => decide (kv.1 = k)) = true then kvs.map (fun kv => if kv.1 = k then (kv.1, d) else kv) else kvs ++ [(k, d)]
theorem RpD.look {K : PySem.W.Frag} {H : Hp} {k : Key} : ∀ {kvs : List (Key × D)} {vs : List (Key × V)}, RpD K H kvs vs → (∀ d, lookD kvs k = some d → ∃ v, valV vs k = some v ∧ Rp K H d v) ∧ (lookD kvs k = none → valV vs k = none)
  | [], _, uz => by
    rw [show _ = [] from uz]
    exact ⟨(fun d z => nomatch z), fun _ => rfl⟩
  | (g, d) :: kvs, _, ⟨y, ys, e, r, uz⟩ => by
    subst e
    have ih := RpD.look (k := k) uz
    by_cases hg : g = k
    · have e1 : lookD ((g, d) :: kvs) k = some d := by simp [lookD, List.find?_cons, hg]
      rw [e1, valV_pos (p := (g, y)) hg]
      exact ⟨fun d' z => by cases z; exact ⟨y, rfl, r⟩, fun z => nomatch z⟩
    · have e1 : lookD ((g, d) :: kvs) k = lookD kvs k := by simp [lookD, List.find?_cons, hg]
      rw [e1, valV_neg (p := (g, y)) hg]
      exact ih
theorem RpD.look_isSome {K : PySem.W.Frag} {H : Hp} {k : Key} {kvs : List (Key × D)} {vs : List (Key × V)} (uz : RpD K H kvs vs) : (valV vs k).isSome = (lookD kvs k).isSome := by
  obtain ⟨h1, h2⟩ := uz.look (k := k)
  cases e : lookD kvs k with
  | none => rw [h2 e]; rfl
  | some d => obtain ⟨v, e1, _⟩ := h1 d e; rw [e1]; rfl
theorem RpD.put {K : PySem.W.Frag} {H : Hp} {k : Key} {d : D} {v : V} (r : Rp K H d v) {kvs : List (Key × D)} {vs : List (Key × V)} (uz : RpD K H kvs vs) : RpD K H (putKD kvs k d) (putK vs k v) := by
  have any : ∀ {kvs : List (Key × D)} {vs : List (Key × V)}, RpD K H kvs vs → (kvs.any fun kv => decide (kv.1 = k)) = (vs.any fun kv => decide (kv.1 = k)) := fun {kvs} => by
    induction kvs with
    | nil => intro vs uz; rw [show vs = [] from uz]; rfl
    | cons p kvs ih =>
      obtain ⟨g, e⟩ := p
      rintro vs ⟨y, ys, e1, _, h2⟩
      rw [e1, List.any_cons, List.any_cons, ih h2]
  have mp : ∀ {kvs : List (Key × D)} {vs : List (Key × V)}, RpD K H kvs vs → RpD K H (kvs.map fun kv => if kv.1 = k then (kv.1, d) else kv) (vs.map fun kv => if kv.1 = k then (kv.1, v) else kv) := fun {kvs} => by
    induction kvs with
    | nil => intro vs uz; rw [show vs = [] from uz]; exact rfl
    | cons p kvs ih =>
      obtain ⟨g, e⟩ := p
      rintro vs ⟨y, ys, e1, r1, h2⟩
      rw [e1, List.map_cons, List.map_cons]
      by_cases hg : g = k
      · rw [if_pos (show (g, e).1 = k from hg), if_pos (show (g, y).1 = k from hg)]
        exact ⟨v, _, rfl, r, ih h2⟩
      · rw [if_neg (show ¬ (g, e).1 = k from hg), if_neg (show ¬ (g, y).1 = k from hg)]
        exact ⟨y, _, rfl, r1, ih h2⟩
  have ap : ∀ {kvs : List (Key × D)} {vs : List (Key × V)}, RpD K H kvs vs → RpD K H (kvs ++ [(k, d)]) (vs ++ [(k, v)]) := fun {kvs} => by
    induction kvs with
    | nil => intro vs uz; rw [show vs = [] from uz]; exact ⟨v, [], rfl, r, rfl⟩
    | cons p kvs ih =>
      obtain ⟨g, e⟩ := p
      rintro vs ⟨y, ys, e1, r1, h2⟩
      rw [e1]
      exact ⟨y, _, rfl, r1, ih h2⟩
  unfold putKD putK
  rw [any uz]
  split
  · exact mp uz
  · exact ap uz
theorem RpD.len {K : PySem.W.Frag} {H : Hp} : ∀ {kvs : List (Key × D)} {vs : List (Key × V)}, RpD K H kvs vs → vs.length = kvs.length
  | [], _, uz => by rw [show _ = [] from uz]; rfl
  | (g, d) :: kvs, _, ⟨y, ys, e, _, uz⟩ => by rw [e, List.length_cons, List.length_cons, RpD.len uz]
theorem key_kV {K : PySem.W.Frag} {H : Hp} {d : D} {v : V} {k : Key} (uz : keyD d = some k) (r : Rp K H d v) : v = kV k := by
  cases d with
  | int i => cases uz; exact r
  | str s => cases uz; exact r
  | _ => cases uz
/-- a dict's content, by the top -/
theorem dic_top {K : PySem.W.Frag} {Hm H : Hp} {kvs : List (Key × D)} {y : V} (sm : Same Hm H) (r : RpTop K Hm H (.dic kvs) y) : ∃ a vs, y = .ref a ∧ H a = some (.dK vs) ∧ RpD K Hm kvs vs := r
def rInD : R2 := fun x y H Q => ∃ a o, y = .ref a ∧ DGet H a x o ∧ Q (.bl o.isSome) H
def rNotInD : R2 := fun x y H Q => ∃ a o, y = .ref a ∧ DGet H a x o ∧ Q (.bl (!o.isSome)) H
def rIxD : R2 := fun x y H Q => ∃ a v, x = .ref a ∧ DGet H a y (some v) ∧ Q v H
def inD2 : D → D → Option Out
  | x, .dic kvs => (keyD x).map fun k => .same (.bl (lookD kvs k).isSome)
  | x, y => inSD x y
def notInD2 : D → D → Option Out
  | x, .dic kvs => (keyD x).map fun k => .same (.bl (!(lookD kvs k).isSome))
  | x, y => notInSD x y
def ixD2 : D → D → Option Out
  | .dic kvs, y => (keyD y).bind fun k => (lookD kvs k).map .same
  | x, y => ixD x y
section
variable {X : Cx}
theorem OpR.or {f : Value → Value → Sem Value} {r r' : R2} (uz : OpR X f r) (u'z : OpR X f r') : OpR X f (fun x y H Q => r x y H Q ∨ r' x y H Q) := by
  intro pins s σ H x y v u Q I rx ry q
  rcases q with q | q
  · exact uz pins s σ H x y v u Q I rx ry q
  · exact u'z pins s σ H x y v u Q I rx ry q
theorem op_in_dict (hu : X.A.units + 1 < cLine) : OpR X (compareOp .In) rInD := by
  intro pins s σ H x y v u Q I rx ry uz
  obtain ⟨a, o, rfl, g, q⟩ := uz
  cases ry
  exact d_in hu I g rx fun s' I' => ⟨.bl _, H, I', rfl, q⟩
theorem op_notIn_dict (hu : X.A.units + 1 < cLine) : OpR X (compareOp .NotIn) rNotInD := by
  intro pins s σ H x y v u Q I rx ry uz
  obtain ⟨a, o, rfl, g, q⟩ := uz
  cases ry
  exact d_notIn hu I g rx fun s' I' => ⟨.bl _, H, I', rfl, q⟩
theorem ix_dict (hu : X.A.units + 1 < cLine) : IxR X rIxD := by
  intro value slice pins s σ H x y v u Q I rx ry uz hs
  obtain ⟨a, z, rfl, g, q⟩ := uz
  cases rx
  exact tail_any (dict_typeIs I g) PySem.F.slot_dict_getitem.lookup (d_getItem hu I g ry fun w' s' I' r' => ⟨z, H, I', r', q⟩) hs
theorem op_in2 (hu : X.A.units + 1 < cLine) : OpR X (compareOp .In) (fun x y H Q => rIn X.K false x y H Q ∨ rInD x y H Q) := OpR.or op_in_seq (op_in_dict hu)
theorem op_notIn2 (hu : X.A.units + 1 < cLine) : OpR X (compareOp .NotIn) (fun x y H Q => rIn X.K true x y H Q ∨ rNotInD x y H Q) := OpR.or op_notIn_seq (op_notIn_dict hu)
theorem ixA2 (hu : X.A.units + 1 < cLine) : IxR X (fun x y H Q => (rIxL X.K x y H Q ∨ rIxT X.K x y H Q) ∨ rIxD x y H Q) := ixA.or (ix_dict hu)
end
section
variable {K : PySem.W.Frag}
theorem dget_of {Hm H : Hp} {kvs : List (Key × D)} {x y : V} {d : D} {k : Key} (sm : Same Hm H) (re : RpTop K Hm H (.dic kvs) y) (hk : keyD d = some k) (rd : RpTop K Hm H d x) : ∃ a vs, y = .ref a ∧ RpD K Hm kvs vs ∧ DGet H a x (valV vs k) := by
  obtain ⟨a, vs, e1, e2, e3⟩ := re
  refine ⟨a, vs, e1, e3, ?_⟩
  rw [key_kV hk (rd.full sm)]
  exact DGet.k e2
theorem snd_in2 : SndOp K (fun x y H Q => rIn K false x y H Q ∨ rInD x y H Q) inD2 := by
  intro Hm H x y d e Q out sm rd re hg post
  cases e with
  | dic kvs =>
    have hg : (keyD d).map (fun k => Out.same (.bl (lookD kvs k).isSome)) = some out := hg
    cases hk : keyD d with
    | none => rw [hk] at hg; cases hg
    | some k =>
      rw [hk] at hg
      cases hg
      obtain ⟨a, vs, e1, e2, e3⟩ := dget_of sm re hk rd
      refine .inr ⟨a, _, e1, e3, ?_⟩
      rw [e2.look_isSome]
      exact post _ rfl
  | _ => exact .inl (snd_in Hm H x y d _ Q out sm rd re hg post)
theorem snd_notIn2 : SndOp K (fun x y H Q => rIn K true x y H Q ∨ rNotInD x y H Q) notInD2 := by
  intro Hm H x y d e Q out sm rd re hg post
  cases e with
  | dic kvs =>
    have hg : (keyD d).map (fun k => Out.same (.bl (!(lookD kvs k).isSome))) = some out := hg
    cases hk : keyD d with
    | none => rw [hk] at hg; cases hg
    | some k =>
      rw [hk] at hg
      cases hg
      obtain ⟨a, vs, e1, e2, e3⟩ := dget_of sm re hk rd
      refine .inr ⟨a, _, e1, e3, ?_⟩
      rw [e2.look_isSome]
      exact post _ rfl
  | _ => exact .inl (snd_notIn Hm H x y d _ Q out sm rd re hg post)
theorem snd_ix2 : SndOp K (fun x y H Q => (rIxL K x y H Q ∨ rIxT K x y H Q) ∨ rIxD x y H Q) ixD2 := by
  intro Hm H x y d e Q out sm rd re hg post
  cases d with
  | dic kvs =>
    have hg : (keyD e).bind (fun k => (lookD kvs k).map Out.same) = some out := hg
    cases hk : keyD e with
    | none => rw [hk] at hg; cases hg
    | some k =>
      rw [hk] at hg
      have hg : (lookD kvs k).map Out.same = some out := hg
      cases hl : lookD kvs k with
      | none => rw [hl] at hg; cases hg
      | some z =>
        rw [hl] at hg
        cases hg
        obtain ⟨a, vs, e1, e2, e3⟩ := dget_of sm rd hk re
        obtain ⟨w, e4, r⟩ := (e2.look (k := k)).1 z hl
        rw [e4] at e3
        exact .inr ⟨a, w, e1, e3, post w r⟩
  | _ => exact .inl (snd_ix Hm H x y _ e Q out sm rd re hg post)
end
section
variable {X : Cx} {F : Fr} {E : XK} {a b : Expr} {pos : Pos} {Ga Gb : List Ent → R Kd}
theorem je_ix2 (hu : X.A.units + 1 < cLine) (ha : PE X a (tE X.K F E Ga)) (hb : PE X b (tE X.K F E Gb)) (hs : PlainIx b := by exact fun _ _ => rfl) : PE X (.Subscript a b pos) (tE X.K F E (binR ixD2 Ga Gb)) :=
  peI (pe_ix (ixA2 hu) (je_fz ha) (je_fz hb) hs) fun _ _ _ uz => tOp_of snd_ix2 uz
end
/-! d.get(k, x) -/
def get2R (Gd Gk Gx : List Ent → R Kd) (ρ : List Ent) : R Kd := (toVa (Gd ρ)).bind fun k1 ρ1 => match k1 with
  | .va (.dic kvs) => (toVa (Gk ρ1)).bind fun k2 ρ2 => (toVa (Gx ρ2)).bind fun k3 ρ3 => match k2, k3 with
    | .va k, .va x => match keyD k with
      | some k => .ok (.va ((lookD kvs k).getD x)) ρ3
      | none => .bad
    | _, _ => .bad
  | _ => .bad
section
variable {X : Cx} {F : Fr} {E : XK} {o e f : Expr} {apos cpos : Pos} {Gd Gk Gx : List Ent → R Kd}
theorem je_get2 (hu : X.A.units + 1 < cLine) (ho : PE X o (tE X.K F E Gd)) (he : PE X e (tE X.K F E Gk)) (hf : PE X f (tE X.K F E Gx)) (m : M2 X o "get" apos e f cpos) : PE X (.Call (.Attribute o "get" apos) [e, f] [] cpos) (tE X.K F E (get2R Gd Gk Gx)) :=
  peI (pe_dget2 hu (je_toVa ho) (je_toVa he) (je_toVa hf) m) fun σ H Q ⟨ρ, T, mt, o0, p⟩ => by
    refine bdV (pf_E Q) mt o0 p fun x H1 d ρ1 o1 p1 => ?_
    cases d with
    | dic kvs =>
      obtain ⟨a, vs, e1, e2, e3⟩ := o1.t.2
      refine ⟨a, e1, .inl ⟨vs, .inl (wo_le _ _ e2)⟩, ?_⟩
      refine bdV (T := fun uz => T uz ∧ Rp X.K uz (.dic kvs) x) (pf_E Q) (mt.and mono_rp) o1 ((pf_E Q).pw _ _ _ (fun _ z => z.1) p1) fun y H2 dk ρ2 o2 p2 => ?_
      refine bdV (T := fun uz => (T uz ∧ Rp X.K uz (.dic kvs) x) ∧ Rp X.K uz dk y) (pf_E Q) ((mt.and mono_rp).and mono_rp) o2 ((pf_E Q).pw _ _ _ (fun _ z => z.1) p2) fun z H3 dx ρ3 o3 p3 => ?_
      have p3 : PostE X.K F E _ σ Q (match keyD dk with
        | some k => .ok (.va ((lookD kvs k).getD dx)) ρ3
        | none => .bad) := p3
      cases hk : keyD dk with
      | none => rw [hk] at p3; exact p3.elim
      | some k =>
        rw [hk] at p3
        have p3 : PostE X.K F E (fun uz => (T uz ∧ Rp X.K uz (.dic kvs) x) ∧ Rp X.K uz dk y) σ Q (.ok (.va ((lookD kvs k).getD dx)) ρ3) := p3
        obtain ⟨⟨⟨t1, t2⟩, t3⟩, t4⟩ := o3.t
        obtain ⟨a', vs', f1, f2, f3⟩ := t2
        rw [e1] at f1
        cases f1
        refine ⟨valV vs' k, ?_, ?_⟩
        · rw [key_kV hk t3]
          exact DGet.k (wo_le _ _ f2)
        · have lk := f3.look (k := k)
          refine p3 _ H3 (o3.to ⟨⟨⟨t1, a, vs', e1, f2, f3⟩, t3⟩, ?_⟩)
          cases hl : lookD kvs k with
          | none => rw [lk.2 hl]; exact t4
          | some dz =>
            obtain ⟨w, e4, r4⟩ := lk.1 dz hl
            rw [e4]
            exact r4
    | _ => exact p1.elim
end
/-! ### dict comprehensions -/
def dcLoop (f : D → List Ent → Option (List Ent)) (A : List Ent → R Bool) (Gk Gv : List Ent → R Kd) (vs : List Nat) : List D → List (Key × D) → List Ent → R (List (Key × D))
  | [], acc, ρ => .ok acc ρ
  | d :: ds, acc, ρ => match f d (wipeE ρ vs) with
    | some ρ1 => (noX (A ρ1)).bind fun b ρ2 => if b then (noX (toVa (Gk ρ2))).bind fun k ρ3 => match k with
        | .va dk => match keyD dk with
          | some kk => (noX (toVa (Gv ρ3))).bind fun v ρ4 => match v with
            | .va dv => if acc.length < big then dcLoop f A Gk Gv vs ds (putKD acc kk dv) ρ4 else .bad
            | _ => .bad
          | none => .bad
        | _ => .bad
      else dcLoop f A Gk Gv vs ds acc ρ2
    | none => .bad
def dcR (Gi : List Ent → R (List D)) (f : D → List Ent → Option (List Ent)) (A : List Ent → R Bool) (Gk Gv : List Ent → R Kd) (vs : List Nat) (ρ : List Ent) : R Kd := (Gi ρ).bind fun ds ρ1 => (dcLoop f A Gk Gv vs ds [] ρ1).bind fun acc ρ2 => .ok (.ow (.dic acc)) (wipeE ρ2 vs)
theorem putKD_len (acc : List (Key × D)) (k : Key) (d : D) : (putKD acc k d).length ≤ acc.length + 1 := by
  unfold putKD
  split
  · rw [List.length_map]; omega
  · rw [List.length_append]; simp
section
variable {K : PySem.W.Frag} {F : Fr} {E : XK} {T : HT} {σ : L2.St} {Q : VK}
/-- the reading of a dict comprehension -/
theorem tDc_of {Gi : List Ent → R (List D)} {f : D → List Ent → Option (List Ent)} {A : List Ent → R Bool} {Gk Gv : List Ent → R Kd} {vs js : List Nat} {g : TG} {H : Hp} (ht : TgD K g js f) (hv : ∀ i ∈ js, i ∈ vs) (uz : tE K F E (dcR Gi f A Gk Gv vs) σ H Q) :
    tDc (tI K F E Gi) g (fun σ H Q => ∃ F', tT K F' noE A σ H Q) (fun σ H Q => ∃ F', tE K F' noE (fun ρ => toVa (Gk ρ)) σ H Q) (fun σ H Q => ∃ F', tE K F' noE (fun ρ => toVa (Gv ρ)) σ H Q) vs σ H Q := by
  obtain ⟨ρ, T, m, o, p⟩ := uz
  refine bdI (pf_E Q) m o p fun J H1 TG ds ρ1 mg wk o1 p1 => ?_
  intro L hL
  have h0 := o1.new_h0 hL
  have hm : ¬ F.M0 L := fun z => o1.m_new hL (.inl z)
  have hm0 := o1.m0
  have hwt := o1.wt
  have p1 : PostE K F E T σ Q ((dcLoop f A Gk Gv vs ds [] ρ1).bind fun acc ρ2 => .ok (.ow (.dic acc)) (wipeE ρ2 vs)) := p1
  have wip : ∀ {F' : Fr} {T' : HT} {H' : Hp} {σ2 : L2.St} {ρ2 : List Ent}, Ok K F' T' H' σ2 ρ2 → Mono T' → Ok K F' T' H' (wipe σ2 vs) (wipeE ρ2 vs) := fun {F' T' H' σ2 ρ2} o2 m2 =>
    o2.sub m2 (by rw [wipe_length, wipeE_len]; exact o2.len) id (fun j e v h1 ne h2 => by
      obtain ⟨k1, k2⟩ := wipeE_get ne h1
      rw [wipe_out k2] at h2
      exact ⟨k1, h2⟩) fun _ _ z => z
  let W : Nat → Nat → Hp → Prop := fun i n H2 => n = ds.length - i ∧ i ≤ ds.length ∧ ∃ (acc : List (Key × D)) (ρ2 : List Ent) (xs : List (Key × V)),
    Ok K (frK F L xs) (fun uz => (T uz ∧ TG uz) ∧ RpD K uz acc xs) H2 (wipe σ vs) (wipeE ρ2 vs) ∧ PostE K F E T σ Q ((dcLoop f A Gk Gv vs (ds.drop i) acc ρ2).bind fun acc ρ2 => .ok (.ow (.dic acc)) (wipeE ρ2 vs))
  refine ⟨W, ⟨ds.length, by simp, Nat.zero_le _, [], ρ1, [], ?_, p1⟩, ?_⟩
  · have o2 := wip (o1.enterK (L := L) (m.and mg) hL) (m.and mg)
    exact o2.to ⟨o2.t, rfl⟩
  · rintro i n H2 ⟨rfl, hi, acc, ρ2, xs, o2, p2⟩
    have m2 : ∀ {acc : List (Key × D)} {xs : List (Key × V)}, Mono fun uz => (T uz ∧ TG uz) ∧ RpD K uz acc xs := (m.and mg).and mono_rpd
    by_cases hlt : i < ds.length
    · have hd : ds[i]? = some ds[i] := by simp [hlt]
      rw [List.drop_eq_getElem_cons hlt] at p2
      simp only [dcLoop] at p2
      cases e1 : f ds[i] (wipeE ρ2 vs) with
      | none => rw [e1] at p2; exact p2.elim
      | some ρ3 =>
        rw [e1] at p2
        simp only at p2
        rw [R.bind_assoc] at p2
        refine .inr ⟨wk.go i _ H2 _ hd o2.t.1.2, fun H' => ds.length - (i + 1) < ds.length - i ∧ W (i + 1) (ds.length - (i + 1)) H', fun H' ⟨h1, h2⟩ => ⟨_, h1, h2⟩, fun x H' y => ?_⟩
        have o3 := wk.yld i _ x H2 H' (frK F L xs) (wipe σ vs) (wipeE ρ2 vs) (fun uz => T uz ∧ RpD K uz acc xs) hd (m.and mono_rpd) (o2.weak fun _ z => ⟨⟨z.1.1, z.2⟩, z.1.2⟩) y
        refine ht (frK F L xs) ds[i] x (wipe σ vs) H' (wipeE ρ2 vs) ρ3 (fun uz => (T uz ∧ TG uz) ∧ RpD K uz acc xs) _ m2 (o3.weak fun _ z => ⟨⟨⟨z.1.1.1, z.1.2⟩, z.1.1.2⟩, z.2⟩) e1 fun σ4 H4 s4 l4 o4 => ?_
        have hw : wipe σ4 vs = wipe σ vs := by
          have w2 : wipe (wipe σ vs) vs = wipe σ vs := wipe_eq (wipe_length σ vs) fun i hi => wipe_out hi
          exact (wipe_eq l4 fun i hi => s4 i fun z => hi (hv i z)).trans w2
        refine ⟨hw, frK F L xs, ρ3, _, m2, o4, ?_⟩
        obtain ⟨b, ρ5, e5, p5⟩ := p2.bindNX
        rw [e5]
        intro H5 o5
        cases b with
        | false =>
          rw [if_neg Bool.false_ne_true]
          refine ⟨by omega, rfl, hlt, acc, ρ5, xs, ?_, p5⟩
          have := wip o5 m2
          rw [hw] at this
          exact this
        | true =>
          rw [if_pos rfl]
          have p5 : PostE K F E T σ Q (((noX (toVa (Gk ρ5))).bind fun k ρ3 => match k with
            | .va dk => match keyD dk with
              | some kk => (noX (toVa (Gv ρ3))).bind fun v ρ4 => match v with
                | .va dv => if acc.length < big then dcLoop f A Gk Gv vs (ds.drop (i + 1)) (putKD acc kk dv) ρ4 else .bad
                | _ => .bad
              | none => .bad
            | _ => .bad).bind fun acc ρ2 => .ok (.ow (.dic acc)) (wipeE ρ2 vs)) := p5
          rw [R.bind_assoc] at p5
          obtain ⟨k, ρ6, e6, p6⟩ := p5.bindNX
          refine ⟨frK F L xs, ρ5, _, m2, o5, ?_⟩
          show PostE K (frK F L xs) noE _ σ4 _ (toVa (Gk ρ5))
          rw [e6]
          cases k with
          | ow d => exact p6.elim
          | al j => exact p6.elim
          | va dk =>
            intro w H6 o6
            have p6 : PostE K F E T σ Q ((match keyD dk with
              | some kk => (noX (toVa (Gv ρ6))).bind fun v ρ4 => match v with
                | .va dv => if acc.length < big then dcLoop f A Gk Gv vs (ds.drop (i + 1)) (putKD acc kk dv) ρ4 else .bad
                | _ => .bad
              | none => .bad).bind fun acc ρ2 => .ok (.ow (.dic acc)) (wipeE ρ2 vs)) := p6
            cases hk : keyD dk with
            | none => rw [hk] at p6; exact p6.elim
            | some kk =>
              rw [hk] at p6
              have p6 : PostE K F E T σ Q (((noX (toVa (Gv ρ6))).bind fun v ρ4 => match v with
                | .va dv => if acc.length < big then dcLoop f A Gk Gv vs (ds.drop (i + 1)) (putKD acc kk dv) ρ4 else .bad
                | _ => .bad).bind fun acc ρ2 => .ok (.ow (.dic acc)) (wipeE ρ2 vs)) := p6
              rw [R.bind_assoc] at p6
              obtain ⟨v, ρ7, e7, p7⟩ := p6.bindNX
              refine ⟨frK F L xs, ρ6, _, m2.and mono_kat, o6, ?_⟩
              show PostE K (frK F L xs) noE _ σ4 _ (toVa (Gv ρ6))
              rw [e7]
              cases v with
              | ow d => exact p7.elim
              | al j => exact p7.elim
              | va dv =>
                intro z H7 o7
                have p7 : PostE K F E T σ Q ((if acc.length < big then dcLoop f A Gk Gv vs (ds.drop (i + 1)) (putKD acc kk dv) ρ7 else .bad).bind fun acc ρ2 => .ok (.ow (.dic acc)) (wipeE ρ2 vs)) := p7
                split at p7
                · rename_i hz
                  obtain ⟨⟨⟨t1, t2⟩, t3⟩, t4⟩ := o7.t
                  refine ⟨xs, kk, key_kV hk t3, o7.at_LK, big_lt (by rw [t2.len]; exact hz), by omega, rfl, hlt, putKD acc kk dv, ρ7, putK xs kk z, ?_, p7⟩
                  have o8 := (o7.weak (U := fun uz => (T uz ∧ TG uz) ∧ RpD K uz (putKD acc kk dv) (putK xs kk z)) fun _ z => ⟨z.1.1.1, RpD.put z.2 z.1.1.2⟩).turnK (ys := putK xs kk z) m2
                  have := wip o8 m2
                  rw [hw] at this
                  exact this
                · exact p7.elim
    · have e : i = ds.length := by omega
      subst e
      rw [List.drop_length] at p2
      refine .inl ⟨wk.stop H2 _ o2.t.1.2, ?_⟩
      have o3 := o2.leaveK m2 o2.t.2 h0 hm hm0 hwt
      refine p2 _ H2 ((o3.weak fun _ z => z.1.1).sub m (by rw [List.length_cons, List.length_cons, wipeE_len]; have := o2.len; rw [wipe_length, wipeE_len] at this; rw [this]) id (fun j e v h1 ne h2 => ?_) fun _ _ z => z)
      cases j with
      | zero => exact ⟨h1, h2⟩
      | succ j =>
        have h1 : (wipeE ρ2 vs)[j]? = some e := by simpa using h1
        have h2 : σ[j]? = some v := by simpa using h2
        obtain ⟨k1, k2⟩ := wipeE_get ne h1
        exact ⟨by simpa using h1, by show (wipe σ vs)[j]? = some v; rw [wipe_out k2]; exact h2⟩
end
section
variable {X : Cx} {F : Fr} {E : XK} {kx vx tg iter : Expr} {ifs : List Expr} {scope : Scope} {own : List (Str × Nat)} {pos : Pos} {g : TG} {Gi : List Ent → R (List D)} {f : D → List Ent → Option (List Ent)} {A : List Ent → R Bool} {Gk Gv : List Ent → R Kd} {js vs : List Nat}
theorem je_dcV (hc : X.calm = true) (hN : X.N.Nodup) (hi : PI X tg iter (tI X.K F E Gi)) (ok : BlkOk X.N X.env.scope scope own)
    (hg : ∀ (s : Shared) (H : Hp) (C : Addr) (cl : List (Str × Addr)) (fp : List Addr), PG (X.blk s H scope (compEnvC scope cl C X.env) fp) tg g) (ht : TgD X.K g js f) (hv : ∀ i ∈ js, i ∈ vs)
    (hA : ∀ (s : Shared) (H : Hp) (C : Addr) (cl : List (Str × Addr)) (fp : List Addr) (F' : Fr), PTs (X.blk s H scope (compEnvC scope cl C X.env) fp) ifs (tT X.K F' noE A))
    (hk : ∀ (s : Shared) (H : Hp) (C : Addr) (cl : List (Str × Addr)) (fp : List Addr) (F' : Fr), PE (X.blk s H scope (compEnvC scope cl C X.env) fp) kx (tE X.K F' noE Gk))
    (hG : ∀ (s : Shared) (H : Hp) (C : Addr) (cl : List (Str × Addr)) (fp : List Addr) (F' : Fr), PE (X.blk s H scope (compEnvC scope cl C X.env) fp) vx (tE X.K F' noE Gv)) (hvs : own.map (·.2) = vs) (hs : ∀ x, foldedSetIterable iter X.env x = pure x := by intro _; rfl) :
    PE X (.DictComp kx vx [⟨tg, iter, ifs, 0⟩] scope pos) (tE X.K F E (dcR Gi f A Gk Gv vs)) := by
  subst hvs
  exact peI (pe_dc hc hN hi ok hg (fun s H C cl fp => PTs.union (X := X.blk s H scope (compEnvC scope cl C X.env) fp) fun F' => hA s H C cl fp F') (fun s H C cl fp => PE.union (X := X.blk s H scope (compEnvC scope cl C X.env) fp) fun F' => je_toVa (X := X.blk s H scope (compEnvC scope cl C X.env) fp) (hk s H C cl fp F')) (fun s H C cl fp => PE.union (X := X.blk s H scope (compEnvC scope cl C X.env) fp) fun F' => je_toVa (X := X.blk s H scope (compEnvC scope cl C X.env) fp) (hG s H C cl fp F')) hs) fun σ H Q uz => tDc_of ht hv uz
end
end DL

namespace DL
open PySem PySem.Spec PyProof.Rows L2
/-! d.get(k, x) -/
def get2M (d k x : D) : Res D := match d with
  | .dic kvs => match keyD k with
    | some k => .ok ((lookD kvs k).getD x)
    | none => .bad
  | _ => .bad
/-- the dict, first -/
def dicOf : D → Res Unit
  | .dic _ => .ok ()
  | _ => .bad
section
variable {p : Pat} {Gd Gk Gx : List Ent → R Kd} {Md Mk Mx : CPS D}
theorem ep_get2 (hd : EP p Gd Md) (hk : EP p Gk Mk) (hx : EP p Gx Mx) : EP p (get2R Gd Gk Gx) (fun γ K => Md γ fun d => (dicOf d).bind fun _ => Mk γ fun k => Mx γ fun x => (get2M d k x).bind K) := fun ρ m γ β K f Ψ h => by
  show Sim ((get2R Gd Gk Gx ρ).bind f) _ _
  unfold get2R
  rw [R.bind_assoc]
  refine hd.ev ρ m γ β _ _ Ψ fun d k1 ρ1 ⟨e1, m1⟩ => ?_
  subst e1
  cases d with
  | dic kvs =>
    show Sim (((toVa (Gk ρ1)).bind _).bind f) _ _
    rw [R.bind_assoc]
    refine hk.ev ρ1 m1 γ β _ _ Ψ fun k k2 ρ2 ⟨e2, m2⟩ => ?_
    subst e2
    rw [R.bind_assoc]
    refine hx.ev ρ2 m2 γ β _ _ Ψ fun x k3 ρ3 ⟨e3, m3⟩ => ?_
    subst e3
    unfold get2M
    dsimp only
    cases keyD k with
    | none => exact True.intro
    | some kk => exact h _ _ ρ3 ⟨.inl rfl, m3⟩
  | _ => exact True.intro
end
/-! dict comprehensions -/
def dcStep (f : D → List Ent → Option (List Ent)) (A : List Ent → R Bool) (Gk Gv : List Ent → R Kd) (vs : List Nat) (d : D) (ρ : List Ent) : R (Option (Key × D)) := match f d (wipeE ρ vs) with
  | some ρ1 => (noX (A ρ1)).bind fun b ρ2 => if b then (noX (toVa (Gk ρ2))).bind fun k ρ3 => match k with
      | .va dk => match keyD dk with
        | some kk => (noX (toVa (Gv ρ3))).bind fun v ρ4 => match v with
          | .va dv => .ok (some (kk, dv)) ρ4
          | _ => .bad
        | none => .bad
      | _ => .bad
    else .ok none ρ2
  | none => .bad
theorem dcLoop_step (f : D → List Ent → Option (List Ent)) (A : List Ent → R Bool) (Gk Gv : List Ent → R Kd) (vs : List Nat) (d : D) (ds : List D) (acc : List (Key × D)) (ρ : List Ent) : dcLoop f A Gk Gv vs (d :: ds) acc ρ = (dcStep f A Gk Gv vs d ρ).bind fun o ρ' => match o with
    | some kv => if acc.length < big then dcLoop f A Gk Gv vs ds (putKD acc kv.1 kv.2) ρ' else .bad
    | none => dcLoop f A Gk Gv vs ds acc ρ' := by
  rw [dcLoop]
  unfold dcStep
  cases f d (wipeE ρ vs) with
  | none => rfl
  | some ρ1 =>
    dsimp only
    rw [R.bind_assoc]
    congr 1
    funext b ρ2
    cases b with
    | false => rfl
    | true =>
      show (noX (toVa (Gk ρ2))).bind _ = R.bind ((noX (toVa (Gk ρ2))).bind _) _
      rw [R.bind_assoc]
      congr 1
      funext k ρ3
      cases k with
      | ow _ => rfl
      | al _ => rfl
      | va dk =>
        dsimp only
        cases keyD dk with
        | none => rfl
        | some kk =>
          show (noX (toVa (Gv ρ3))).bind _ = R.bind ((noX (toVa (Gv ρ3))).bind _) _
          rw [R.bind_assoc]
          congr 1
          funext v ρ4
          cases v <;> rfl
theorem sim_nx {α κ : Type} {r : R κ} {m : Res α} {Φ : α → κ → List Ent → Prop} (h : Sim r m Φ) : Sim r m.nox Φ := by
  cases m with
  | bad => exact True.intro
  | ex x => exact True.intro
  | ok a => exact h
def dcS (f : D → Res (Option (Key × D))) : List D → List (Key × D) → Res (List (Key × D))
  | [], acc => .ok acc
  | d :: ds, acc => (f d).nox.bind fun o => dcS f ds (match o with
    | some kv => putKD acc kv.1 kv.2
    | none => acc)
section
variable {p : Pat} {f : D → List Ent → Option (List Ent)} {A : List Ent → R Bool} {Gk Gv : List Ent → R Kd} {vs : List Nat} {Gi : List Ent → R (List D)}
theorem dc_sim {F : D → Res (Option (Key × D))} (hb : ∀ d ρ, Mt p ρ → Sim (dcStep f A Gk Gv vs d ρ) (F d).nox fun o k ρ' => k = o ∧ Mt p ρ') :
    ∀ (ds : List D) (acc : List (Key × D)) (ρ : List Ent), acc.length + ds.length ≤ big → Mt p ρ → Sim (dcLoop f A Gk Gv vs ds acc ρ) (dcS F ds acc) fun r k ρ' => k = r ∧ Mt p ρ'
  | [], acc, ρ, _, mt => ⟨acc, ρ, rfl, rfl, mt⟩
  | d :: ds, acc, ρ, hn, mt => by
    rw [dcLoop_step, dcS]
    refine (hb d ρ mt).bind fun o k ρ' ⟨e, m'⟩ => ?_
    subst e
    rw [List.length_cons] at hn
    cases k with
    | none => exact dc_sim hb ds acc ρ' (by omega) m'
    | some kv =>
      show Sim (if acc.length < big then dcLoop f A Gk Gv vs ds (putKD acc kv.1 kv.2) ρ' else .bad) _ _
      rw [if_pos (by omega)]
      have := putKD_len acc kv.1 kv.2
      exact dc_sim hb ds _ ρ' (by omega) m'
/-- an item's turn: target, test, key, value -/
theorem cb_dc {τ : Type} {MT : CPS τ} {pT : τ → Pat} {d : D} {Mk Mv : τ → CPS D} (ht : TG1 (wipeP p vs) f d MT pT) (hk : ∀ t, EP (pT t) Gk (Mk t)) (hg : ∀ t, EP (pT t) Gv (Mv t)) (hw : ∀ t, Wk p (pT t)) :
    ∀ ρ, Mt p ρ → Sim (dcStep f yesT Gk Gv vs d ρ) (MT (Option (Key × D)) fun t => (Mk t D .ok).nox.bind fun k => (keyM k).bind fun kk => (Mv t D .ok).nox.bind fun v => .ok (some (kk, v))).nox fun o k ρ' => k = o ∧ Mt p ρ' := fun ρ mt => by
  unfold dcStep
  have h := ht _ (mt.wipe vs) (Option (Key × D)) (Option (Key × D)) (fun t => (Mk t D .ok).nox.bind fun k => (keyM k).bind fun kk => (Mv t D .ok).nox.bind fun v => .ok (some (kk, v))) (fun ρ1 => (noX (toVa (Gk ρ1))).bind fun k ρ3 => match k with
      | .va dk => match keyD dk with
        | some kk => (noX (toVa (Gv ρ3))).bind fun v ρ4 => match v with
          | .va dv => .ok (some (kk, dv)) ρ4
          | _ => .bad
        | none => .bad
      | _ => .bad) (fun o k ρ' => k = o ∧ Mt p ρ') fun t ρ1 m1 => by
    refine (sim_noX ((hk t).ev.sim m1)).bind fun a k ρ2 ⟨e, m2⟩ => ?_
    subst e
    unfold keyM
    dsimp only
    cases keyD a with
    | none => exact True.intro
    | some kk =>
      refine (sim_noX ((hg t).ev.sim m2)).bind fun v k2 ρ3 ⟨e2, m3⟩ => ?_
      subst e2
      exact ⟨_, ρ3, rfl, rfl, m3.weak (hw t)⟩
  have h := sim_nx h
  revert h
  cases f d (wipeE ρ vs) with
  | none => exact id
  | some ρ1 => exact id
theorem ew_dc {N : CPS (List D)} (hi : EIP p Gi N) (hv : wipeP p vs = p) {F : D → Res (Option (Key × D))} (hb : ∀ d ρ, Mt p ρ → Sim (dcStep f A Gk Gv vs d ρ) (F d).nox fun o k ρ' => k = o ∧ Mt p ρ') :
    EW p (dcR Gi f A Gk Gv vs) (fun γ K => N γ fun ds => (few ds (dcS F ds [])).bind fun l => K (.dic l)) (fun d => d) (fun _ => p) := fun ρ m γ β K g Ψ k => by
  show Sim ((dcR Gi f A Gk Gv vs ρ).bind g) _ _
  unfold dcR
  rw [R.bind_assoc]
  refine hi ρ m γ β _ _ Ψ fun ds k1 ρ1 ⟨e1, m1⟩ => ?_
  subst e1
  rw [R.bind_assoc]
  refine Sim.bind (sim_few fun hn => dc_sim hb k1 [] ρ1 (by rw [List.length_nil]; omega) m1) fun l k2 ρ2 ⟨e2, m2⟩ => ?_
  subst e2
  exact k (.dic k2) (.ow (.dic k2)) _ ⟨rfl, True.intro, mt_wiped hv m2⟩
end
/-! an if whose branches do something to the slots -/
section
variable {p : Pat} {A : List Ent → R Bool} {Ga Gb : List Ent → R Kd} {α σ β1 β2 : Type} {MA : CPS α} {bA : α → Bool} {pA : α → Pat}
theorem ef_ifS {Ma : α → CPS β1} {Mb : α → CPS β2} {da : α → β1 → D} {db : α → β2 → D} {pa : α → β1 → Pat} {pb : α → β2 → Pat} (mk : σ → Pat) (sa : α → β1 → σ) (sb : α → β2 → σ)
    (h : EB p A MA bA pA) (ha : ∀ t, EF (pA t) Ga (Ma t) (da t) (pa t)) (hb : ∀ t, EF (pA t) Gb (Mb t) (db t) (pb t)) (wa : ∀ t u, Wk (mk (sa t u)) (pa t u)) (wb : ∀ t u, Wk (mk (sb t u)) (pb t u)) :
    EF p (ifR A Ga Gb) (fun γ K => MA γ fun t => (if bA t then Ma t (D × σ) (fun u => .ok (da t u, sa t u)) else Mb t (D × σ) (fun u => .ok (db t u, sb t u))).bind K) (fun t => t.1) (fun t => mk t.2) := fun ρ m γ β K f Ψ k => by
  show Sim ((ifR A Ga Gb ρ).bind f) _ _
  unfold ifR
  rw [R.bind_assoc]
  refine h ρ m γ β _ _ Ψ fun t k1 ρ1 ⟨e1, m1⟩ => ?_
  subst e1
  cases bA t with
  | true =>
    have q := ha t ρ1 m1 (D × σ) Kd (fun u => .ok (da t u, sa t u)) .ok (fun d kd ρ' => Kr kd d.1 ∧ Mt (mk d.2) ρ') fun u kd ρ' ⟨e, m'⟩ => ⟨kd, ρ', rfl, e, m'.weak (wa t u)⟩
    rw [R.bind_ok] at q
    exact q.bind k
  | false =>
    have q := hb t ρ1 m1 (D × σ) Kd (fun u => .ok (db t u, sb t u)) .ok (fun d kd ρ' => Kr kd d.1 ∧ Mt (mk d.2) ρ') fun u kd ρ' ⟨e, m'⟩ => ⟨kd, ρ', rfl, e, m'.weak (wb t u)⟩
    rw [R.bind_ok] at q
    exact q.bind k
end
end DL

namespace DL
open PySem PySem.Spec PyProof.Rows L2
/-! ### methods of tuples -/
def tyTup (K : PySem.W.Frag) (x : V) (H : Hp) : Prop := ∃ a xs, x = .ref a ∧ SqM K H a xs
theorem ty_tup {X : Cx} : TyOk X "tuple" (tyTup X.K) := by
  intro pq1 σ H s x v I r ty
  obtain ⟨a, xs, rfl, m⟩ := ty
  cases r
  rcases m with ⟨o, h, gd1⟩ | ⟨o, ws1, n, gk1, gc1, _, _, _, gd1⟩
  · obtain ⟨go1, _, _, _, o', ho', gc1, _⟩ := I.hok a _ h
    rw [go1] at ho'
    cases ho'
    refine ⟨⟨o, go1, gc1⟩, fun b e => ?_⟩
    cases e
    exact ⟨o, go1, gd1⟩
  · refine ⟨⟨o, I.kIn a o gk1, gc1⟩, fun b e => ?_⟩
    cases e
    exact ⟨o, I.kIn _ o gk1, gd1⟩
def rTupIndex (K : PySem.W.Frag) : V → List V → Hp → VK → Prop := fun x xs H Q => ∃ (a : Addr) (ys : List V) (y : V) (j : Nat) (z : V), x = V.ref a ∧ xs = [y] ∧ SqT K H a ys ∧ flatV y = true ∧ ys.all flatV = true ∧ ys[j]? = some z ∧ eqV z y = true ∧
  (∀ (m : Nat) (z' : V), m < j → ys[m]? = some z' → eqV z' y = false) ∧ Q (.int (j : Nat)) H
theorem mt_tupIndex {X : Cx} : MtR X "tuple.index" (rTupIndex X.K) := by
  intro pq1 s σ H x xs v us1 Q I ry1 ry2 h
  obtain ⟨a, ys, y, j, z, rfl, rfl, gs2, fy, fys, gz1, hzj, hno, q⟩ := h
  cases ry1
  cases ry2 with
  | cons ry rt =>
    rename_i uy ut
    cases rt
    obtain ⟨ws1, gv1, ⟨⟨cls, dd, data, sl⟩, go1, gc1, n, gd1⟩, hlen⟩ := I.tuple gs2
    simp only at gc1 gd1
    subst gc1 gd1
    obtain ⟨u, gu1, gr1⟩ := gv1.get gz1
    obtain ⟨hjl, hje⟩ := List.getElem?_eq_some_iff.mp gu1
    have hvl := gv1.length
    have gn1 : j < ws1.toArray.size := by simpa using hjl
    refine call_meets PySem.F.slot_tuple_index ⟨_, go1, rfl⟩ PySem.F.entry_tuple_index (PySem.F.args_tuple_index_2 _ _)
      (TI.tuple_indexAt a ws1.toArray n dd sl uy (eqU y) j gn1 ?_ ?_) ⟨go1, fun u' hu' => mem_eqAt ry fy gv1 fys u' (by simpa using hu'), ?_⟩
    · have e1 : ws1.toArray[j] = u := by simpa using hje
      rw [e1, eqU_of gr1 (flat_at fys gz1)]
      exact hzj
    · intro m hm hmj
      have hml : m < ws1.length := by simpa using hm
      have umyz : m < ys.length := by omega
      have uy'z : ys[m]? = some ys[m] := List.getElem?_eq_getElem umyz
      obtain ⟨u2, hu2, ru2⟩ := gv1.get uy'z
      obtain ⟨_, umez⟩ := List.getElem?_eq_some_iff.mp hu2
      have e1 : ws1.toArray[m] = u2 := by simpa using umez
      rw [e1, eqU_of ru2 (flat_at fys uy'z)]
      exact hno m _ hmj uy'z
    · exact ⟨.int (j : Nat), H, I.tok _, ⟨_, rfl⟩, q⟩
def idxV (y : V) : List V → Option Nat
  | [] => none
  | z :: zs => if eqV z y then some 0 else (idxV y zs).map (· + 1)
theorem idxV_some {y : V} : ∀ {ys : List V} {j : Nat}, idxV y ys = some j → ∃ z, ys[j]? = some z ∧ eqV z y = true ∧ ∀ (m : Nat) (z' : V), m < j → ys[m]? = some z' → eqV z' y = false
  | z :: zs, j, h => by
    unfold idxV at h
    split at h
    · rename_i e
      cases h
      exact ⟨z, rfl, e, fun m _ hm => absurd hm (Nat.not_lt_zero m)⟩
    · rename_i e
      cases q : idxV y zs with
      | none => rw [q] at h; cases h
      | some k =>
        rw [q] at h
        cases h
        obtain ⟨w, h1, h2, h3⟩ := idxV_some q
        refine ⟨w, h1, h2, fun m z' hm gz1 => ?_⟩
        cases m with
        | zero => cases gz1; exact Bool.eq_false_iff.mpr e
        | succ m => exact h3 m z' (Nat.lt_of_succ_lt_succ hm) gz1
def idxM (d k : D) : Res D := match d with
  | .tup ds => if flatD k && ds.all flatD then match idxV (toV k) (ds.map toV) with
    | some j => .ok (.int (j : Nat))
    | none => .bad
    else .bad
  | _ => .bad
def idxR (Go Ge : List Ent → R Kd) (ρ : List Ent) : R Kd := (toVa (Go ρ)).bind fun k1 ρ1 => match k1 with
  | .va (.tup ds) => (toVa (Ge ρ1)).bind fun k2 ρ2 => match k2 with
    | .va k => if flatD k && ds.all flatD then match idxV (toV k) (ds.map toV) with
      | some j => .ok (.va (.int (j : Nat))) ρ2
      | none => .bad
      else .bad
    | _ => .bad
  | _ => .bad
section
variable {X : Cx} {F : Fr} {E : XK} {o e : Expr} {apos cpos : Pos} {Go Ge : List Ent → R Kd}
theorem je_idx (go1 : PE X o (tE X.K F E Go)) (gi1 : PE X e (tE X.K F E Ge))
    (hbase : attributeBase o "index" X.env (eval o X.env) = eval o X.env := by rfl)
    (ufewz : ((backTo cpos (starEach [e] X.env)).all (fun x => !x.1) && (backToKw cpos (keywordEach [] X.env)).all (fun x => x.1.isSome)
      && decide ([e].length + ([] : List Keyword).length + (if ([] : List Keyword).isEmpty then 0 else 1) < 30)) = true := by rfl)
    (hline : (apos.endLine == cpos.line) = true := by rfl) (gs2 : starEach [e] X.env = (false, eval e X.env) :: starEach [] X.env := by rfl) (hplain : (backTo cpos (starEach [] X.env)).any (·.1) = false := by rfl) :
    PE X (.Call (.Attribute o "index" apos) [e] [] cpos) (tE X.K F E (idxR Go Ge)) :=
  peI (pe_mG ty_tup PySem.F.plainAttrs_tuple PySem.F.slot_tuple_index PySem.F.type_tuple_index mt_tupIndex (je_toVa go1) (pa_cons (je_toVa gi1) pa_nil gs2) hbase ufewz hline gs2 hplain) fun σ H Q ⟨ρ, T, mt, o0, p⟩ => by
    refine bdV (pf_E Q) mt o0 p fun x H1 d ρ1 o1 p1 => ?_
    cases d with
    | tup ds =>
      obtain ⟨a, vs, e1, e2, e3⟩ := o1.t.2
      refine ⟨⟨a, vs, e1, ?_⟩, ?_⟩
      · exact e2.mono wo_le
      refine bdV (T := fun h => T h ∧ Rp X.K h (.tup ds) x) (pf_E Q) (mt.and mono_rp) o1 ((pf_E Q).pw _ _ _ (fun _ z => z.1) p1) fun y H2 dk ρ2 o2 p2 => ?_
      have p2 : PostE X.K F E _ σ Q (if flatD dk && ds.all flatD then match idxV (toV dk) (ds.map toV) with
        | some j => .ok (.va (.int (j : Nat))) ρ2
        | none => .bad
        else .bad) := p2
      split at p2
      · rename_i fl
        rw [Bool.and_eq_true] at fl
        cases q : idxV (toV dk) (ds.map toV) with
        | none => rw [q] at p2; exact p2.elim
        | some j =>
          rw [q] at p2
          obtain ⟨⟨t1, t2⟩, t3⟩ := o2.t
          obtain ⟨a', vs', f1, f2, f3⟩ := t2
          obtain ⟨z, g1, g2, g3⟩ := idxV_some q
          refine ⟨a', vs', y, j, z, f1, rfl, SqT.mono wo_le f2.sq, ?_, ?_, ?_, ?_, ?_, ?_⟩
          · rw [toV_of fl.1 t3]; exact flatV_toV fl.1
          · rw [toV_all fl.2 f3]; exact flatV_all fl.2
          · rw [toV_all fl.2 f3]; exact g1
          · rw [toV_of fl.1 t3]; exact g2
          · rw [toV_all fl.2 f3, toV_of fl.1 t3]; exact g3
          · exact p2 _ _ (o2.to ⟨o2.t.1, rfl⟩)
      · exact p2.elim
    | _ => exact p1.elim
end
section
variable {p : Pat} {Go Ge : List Ent → R Kd} {Mo Me : CPS D}
/-- the tuple, first -/
def tupOf : D → Res Unit
  | .tup _ => .ok ()
  | _ => .bad
theorem ep_idx (go1 : EP p Go Mo) (gi1 : EP p Ge Me) : EP p (idxR Go Ge) (fun γ K => Mo γ fun d => (tupOf d).bind fun _ => Me γ fun k => (idxM d k).bind K) := fun ρ m γ β K f Ψ h => by
  show Sim ((idxR Go Ge ρ).bind f) _ _
  unfold idxR
  rw [R.bind_assoc]
  refine go1.ev ρ m γ β _ _ Ψ fun d k1 ρ1 ⟨e1, m1⟩ => ?_
  subst e1
  cases d with
  | tup ds =>
    show Sim (((toVa (Ge ρ1)).bind _).bind f) _ _
    rw [R.bind_assoc]
    refine gi1.ev ρ1 m1 γ β _ _ Ψ fun k k2 ρ2 ⟨e2, m2⟩ => ?_
    subst e2
    unfold idxM
    dsimp only
    split
    · cases idxV (toV k) (ds.map toV) with
      | none => exact True.intro
      | some j => exact h _ _ ρ2 ⟨.inl rfl, m2⟩
    · exact True.intro
  | _ => exact True.intro
end
end DL

namespace DL
open PySem PySem.Spec PyProof.Rows L2
/-! ### sorted(xs, reverse=True), xs tuples of as many numbers -/
def rowT (ns : List Int) : D := .tup (ns.map .int)
def rowD : D → Option (List Int)
  | .tup ds => intsD ds
  | _ => none
def rowsD : List D → Option (List (List Int))
  | [] => some []
  | d :: ds => match rowD d with
    | some ns => (rowsD ds).map (ns :: ·)
    | none => none
theorem intsD_eq : ∀ {ds : List D} {ns : List Int}, intsD ds = some ns → ds = ns.map .int
  | [], ns, h => by cases h; rfl
  | .int b :: ds, ns, h => by
    simp only [intsD] at h
    cases q : intsD ds with
    | none => rw [q] at h; cases h
    | some ms =>
      rw [q] at h
      cases h
      rw [intsD_eq q]
      rfl
theorem intsD_of : ∀ ns : List Int, intsD (ns.map .int) = some ns
  | [] => rfl
  | n :: ns => by
    show (intsD (ns.map .int)).map (n :: ·) = _
    rw [intsD_of ns]
    rfl
theorem rowsD_of : ∀ nss : List (List Int), rowsD (nss.map rowT) = some nss
  | [] => rfl
  | ns :: nss => by
    show (match rowD (rowT ns) with
      | some ns => (rowsD (nss.map rowT)).map (ns :: ·)
      | none => none) = _
    rw [show rowD (rowT ns) = some ns from intsD_of ns, rowsD_of nss]
    rfl
theorem rowsD_eq : ∀ {ds : List D} {nss : List (List Int)}, rowsD ds = some nss → ds = nss.map rowT
  | [], nss, h => by cases h; rfl
  | d :: ds, nss, h => by
    unfold rowsD at h
    cases q : rowD d with
    | none => rw [q] at h; cases h
    | some ns =>
      rw [q] at h
      cases q2 : rowsD ds with
      | none => rw [q2] at h; cases h
      | some nss' =>
        rw [q2] at h
        cases h
        have e : d = rowT ns := by
          cases d with
          | tup es => exact congrArg D.tup (intsD_eq q)
          | _ => cases q
        rw [e, rowsD_eq q2]
        rfl
def leR (x y : List Int) : Bool := !HT.lexLt x y
def sortDesc (nss : List (List Int)) : List (List Int) := nss.mergeSort leR
theorem lex_anti : ∀ {x y : List Int}, x.length = y.length → HT.lexLt x y = false → HT.lexLt y x = false → x = y
  | [], [], _, _, _ => rfl
  | a :: x, b :: y, h, h1, h2 => by
    rw [HT.lexLt_cons] at h1 h2
    by_cases e : a = b
    · subst e
      rw [if_pos rfl] at h1 h2
      rw [lex_anti (Nat.succ.inj h) h1 h2]
    · rw [if_neg e] at h1
      rw [if_neg (fun z => e z.symm)] at h2
      have := of_decide_eq_false h1
      have := of_decide_eq_false h2
      omega
  | [], _ :: _, h, _, _ => by cases h
  | _ :: _, [], h, _, _ => by cases h
theorem sortDesc_pw (nss : List (List Int)) : (sortDesc nss).Pairwise fun x y => HT.lexLt x y = false := by
  have h := List.pairwise_mergeSort (le := leR) (fun a b c h1 h2 => by
    unfold leR at *
    rw [Bool.not_eq_true'] at *
    exact NtL.lex_tr c b a h2 h1) (fun a b => by
    unfold leR
    cases q : HT.lexLt a b with
    | false => rfl
    | true => rw [NtL.lex_asym _ _ q]; rfl) nss
  exact h.imp fun {a b} z => by
    unfold leR at z
    rwa [Bool.not_eq_true'] at z
theorem sortDesc_perm (nss : List (List Int)) : (sortDesc nss).Perm nss := List.mergeSort_perm _ _
theorem sortDesc_uniq {nss l : List (List Int)} {d : Nat} (gd1 : ∀ x ∈ nss, x.length = d) (p : l.Perm nss) (s : l.Pairwise fun x y => HT.lexLt x y = false) : l = sortDesc nss :=
  List.Perm.eq_of_pairwise (fun a b ha gj1 h1 h2 => lex_anti ((gd1 a (p.mem_iff.mp ha)).trans (gd1 b ((sortDesc_perm nss).mem_iff.mp gj1)).symm) h1 h2) s (sortDesc_pw nss) (p.trans (sortDesc_perm nss).symm)
section
variable {prog : Program} {w : World} {A : Around} {s : Shared} {Q : Bool → Shared → Prop}
theorem lexL_ints {b : Bool} {xs ys : List Value} {ns ms : List Int} (i : Nat) (gx1 : IntsAre xs ns) (gy1 : IntsAre ys ms) (gh1 : ns.length = ms.length) (h : Q (HT.lexLt ns ms) s) : PySem.W.KatLex prog w A b false Q (xs.zip ys) i s := by
  induction gx1 generalizing ys ms i with
  | nil =>
    cases gy1 with
    | nil => exact PySem.W.kat_nil h
    | cons q u gy1 => simp at gh1
  | @cons p t xs ns gx1 ih =>
    cases gy1 with
    | nil => simp at gh1
    | @cons q u ys ms gy1 =>
      have hl' : ns.length = ms.length := by simpa using gh1
      show PySem.W.KatLex prog w A b false Q ((Value.int p t, Value.int q u) :: xs.zip ys) i s
      refine PySem.W.kat_cons (wpAny_eqBool_int ?_)
      rw [HT.lexLt_cons] at h
      by_cases e : p = q
      · subst e
        rw [beq_self_eq_true]
        rw [if_pos rfl] at h
        refine PySem.W.kat_yes ?_
        first
          | exact ih (i + 1) gy1 hl' h
          | exact ih _ _ (i + 1) gy1 hl' h
      · rw [show (p == q) = false from beq_eq_false_iff_ne.mpr e]
        rw [if_neg e] at h
        exact PySem.W.kat_no (TS.oneLt_ints _ h)
theorem rows_cmp {vs : List Value} {k : Value → List Int} {d : Nat} (gp1 : ∀ v ∈ vs, TS.TupInts s.heap v (k v) ∧ (k v).length = d) : SrtO.Cmp prog w A s (tuples' true) (fun p => p.1 ∈ vs) (SrtO.lt2 fun v u => HT.lexLt (k v) (k u)) := by
  intro p q umz hm'
  obtain ⟨h1, l1⟩ := gp1 _ umz
  obtain ⟨h2, l2⟩ := gp1 _ hm'
  show wpAny (model prog w) A (keyLt' (tuples' true) p.1 q.1) (fun r s' => s' = s ∧ r = HT.lexLt (k p.1) (k q.1)) (fun _ _ => False) s
  generalize k p.1 = ns at h1 l1 ⊢
  generalize k q.1 = ms at h2 l2 ⊢
  obtain ⟨a, xs, e1, ⟨o, go1, gc1, n, hdt⟩, i⟩ := h1
  obtain ⟨a', ys, e2, ⟨o', ho', hc', n', hdt'⟩, i'⟩ := h2
  rw [e1, e2]
  refine PySem.W.kat_lt go1 hdt ho' hdt' ?_
  have sz : decide (xs.size < ys.size) = false := by
    have l1 := i.length
    have l2 := i'.length
    rw [Array.length_toList] at l1 l2
    exact decide_eq_false (by omega)
  rw [sz]
  exact lexL_ints 0 i i' (l1.trans l2.symm) ⟨rfl, rfl⟩
theorem rows_firsts {h : Heap} {k : Value → List Int} {d : Nat} (gd1 : 1 ≤ d) : ∀ vs : List Value, (∀ v ∈ vs, TS.TupInts h v (k v) ∧ (k v).length = d) → ∃ fs, PySem.W.KatTups h vs fs ∧ fs.length = vs.length ∧ ∀ f, f ∈ fs → ∃ n t, f = Value.int n t
  | [], _ => ⟨[], PySem.W.KatTups.nil, rfl, fun f gf1 => by simp at gf1⟩
  | v :: vs, x => by
    obtain ⟨fs, kk, gh1, gi2⟩ := rows_firsts gd1 vs fun u gu1 => x u (List.mem_cons_of_mem _ gu1)
    obtain ⟨tv, hn⟩ := x v (List.mem_cons_self ..)
    generalize k v = ns at tv hn
    obtain ⟨a, xs, rfl, ⟨o, go1, gc1, n, hdt⟩, i⟩ := tv
    obtain ⟨y, ys, e⟩ : ∃ y ys, xs.toList = y :: ys := by
      cases q : xs.toList with
      | nil =>
        rw [q] at i
        have l := i.length
        rw [List.length_nil, hn] at l
        omega
      | cons y ys => exact ⟨y, ys, rfl⟩
    obtain ⟨m, t, gy1⟩ := i.all y (by rw [e]; exact List.mem_cons_self ..)
    refine ⟨y :: fs, PySem.W.KatTups.cons go1 gc1 hdt ?_ kk, by simp [gh1], ?_⟩
    · have z := congrArg (fun l : List Value => l[0]?) e
      simpa using z
    · intro f gf1
      rcases List.mem_cons.mp gf1 with rfl | gf1
      · exact ⟨m, t, gy1⟩
      · exact gi2 f gf1
theorem rows_sortable {a : Addr} {vs : List Value} {k : Value → List Int} {d : Nat} (gd1 : 1 ≤ d) (h0 : 0 < vs.length) (gp1 : ∀ v ∈ vs, TS.TupInts s.heap v (k v) ∧ (k v).length = d) (ha : ∀ o, s.heap.get? a = some o → o.cls ≠ .type "tuple") : SrtO.SortableO prog w A s a vs fun v u => HT.lexLt (k v) (k u) := by
  intro h' keep
  have hp' : ∀ v ∈ vs, TS.TupInts h' v (k v) ∧ (k v).length = d := fun v umz => ⟨(gp1 v umz).1.keeps fun b o e c => keep b o (fun z => by subst z; exact ha o e c) e, (gp1 v umz).2⟩
  obtain ⟨fs, h1, h2, h3⟩ := rows_firsts gd1 vs hp'
  refine ⟨tuples' true, fun Q E gq1 => ?_, rows_cmp hp'⟩
  refine PySem.W.kat_kind (T := .type "int") h1 (by omega) (fun f umz => ?_) (by rfl) ?_
  · obtain ⟨x, t, rfl⟩ := h3 f umz
    exact PySem.W.Looks.now
  · have e : (Value.type "int" != Value.type "tuple") = true := by first | decide +kernel | rfl | decide
    rw [e]
    exact gq1
end
/-- the values of a list of such tuples -/
theorem rows_at {X : Cx} {pq1 : List (Addr × Obj)} {s : Shared} {σ : L2.St} {H Hm : Hp} (I : L2.Inv X pq1 σ H s) (sm : Same Hm H) : ∀ {ds : List D} {nss : List (List Int)} {xs : List V} {ws1 : List Value}, rowsD ds = some nss → RpL X.K Hm ds xs → Vals xs ws1 →
    ws1.map (TS.intsOf s.heap) = nss ∧ ∀ u ∈ ws1, ∃ t, u = Value.ref t ∧ Rp X.K Hm (rowT (TS.intsOf s.heap u)) (.ref t) ∧ TS.TupInts s.heap u (TS.intsOf s.heap u)
  | [], nss, xs, ws1, h, r, gv1 => by
    cases h
    rw [show xs = [] from r] at gv1
    cases gv1
    exact ⟨rfl, fun u gu1 => by simp at gu1⟩
  | d :: ds, nss, xs, ws1, h, ⟨y, ys, e, r1, r2⟩, gv1 => by
    subst e
    unfold rowsD at h
    cases q : rowD d with
    | none => rw [q] at h; cases h
    | some ns =>
      rw [q] at h
      cases q2 : rowsD ds with
      | none => rw [q2] at h; cases h
      | some nss' =>
        rw [q2] at h
        cases h
        cases gv1 with
        | cons ry rt =>
          rename_i u us1
          obtain ⟨h1, h2⟩ := rows_at I sm q2 r2 rt
          have e : d = rowT ns := by
            cases d with
            | tup es => exact congrArg D.tup (intsD_eq q)
            | _ => cases q
          subst e
          obtain ⟨a, xs, e1, e2, e3⟩ := r1
          subst e1
          cases ry
          have ex : xs = ns.map V.int := ints_rp (intsD_of ns) e3
          subst ex
          have ti := tupI_raw I (SqT.mono sm e2.sq)
          have ei := ti.ints
          refine ⟨by rw [List.map_cons, ei, h1], fun u gu1 => ?_⟩
          rcases List.mem_cons.mp gu1 with z | gu1
          · subst z
            rw [ei]
            exact ⟨a, rfl, ⟨a, _, rfl, e2, e3⟩, ti⟩
          · exact h2 u gu1
theorem rows_back {K : PySem.W.Frag} {Hm : Hp} {k : Value → List Int} : ∀ {us1 : List Value}, (∀ u ∈ us1, ∃ t, u = Value.ref t ∧ Rp K Hm (rowT (k u)) (.ref t)) → RpL K Hm ((us1.map k).map rowT) (us1.map bkV)
  | [], _ => rfl
  | u :: us1, h => by
    obtain ⟨t, e, r⟩ := h u (List.mem_cons_self ..)
    exact ⟨bkV u, us1.map bkV, rfl, by rw [e]; rw [e] at r; exact r, rows_back fun v gw1 => h v (List.mem_cons_of_mem _ gw1)⟩
def rSortR (K : PySem.W.Frag) : List V → List V → Hp → VK → Prop := fun vs zs H Q => ∃ (a : Addr) (xs : List V) (Hm : Hp) (ds : List D) (nss : List (List Int)) (d : Nat), vs = [.ref a] ∧ zs = [.bl true] ∧ SqL K H a xs ∧ Same Hm H ∧ RpL K Hm ds xs ∧ rowsD ds = some nss ∧ 1 ≤ d ∧ (∀ ns ∈ nss, ns.length = d) ∧
  ∀ (ys : List V) (p : Addr), RpL K Hm ((sortDesc nss).map rowT) ys → H p = none → Q (.ref p) (upd H p (.lst ys))
theorem cr_sortR {X : Cx} : CallRK X (.builtin "sorted") [Str.ofString "reverse"] (rSortR X.K) := by
  intro pq1 s σ H vs zs us1 ws Q I r rz h
  obtain ⟨a, xs, Hm, ds, nss, d, rfl, rfl, gs2, sm, hr, hn, gd1, gh1, q⟩ := h
  obtain rfl := Vals.ref1 r
  obtain ⟨w1, rfl, e1⟩ := vals1 rz
  obtain rfl : w1 = Value.bool true := e1
  obtain ⟨ws1, gv1, hli, gz1⟩ := I.list gs2
  obtain ⟨k1, k2⟩ := rows_at I sm hn hr gv1
  have gk1 : ∀ v ∈ ws1, TS.TupInts s.heap v (TS.intsOf s.heap v) ∧ (TS.intsOf s.heap v).length = d := fun v gw1 => by
    obtain ⟨t, _, _, ti⟩ := k2 v gw1
    exact ⟨ti, gh1 _ (by rw [← k1]; exact List.mem_map.mpr ⟨v, gw1, rfl⟩)⟩
  refine SrtR.sorted_ordK (b := true) (fun _ => rfl) (PyProof.Rows.args_sorted_rev _ _) (fun _ => PyProof.Rows.args_list_sort_rev _ _) (NtL.swo_lexL (TS.intsOf s.heap)) hli.isList (by rw [← gv1.length]; exact gz1) (fun h2 h₁ a' ha kk => ?_) fun out h1 h2 => ?_
  · refine rows_sortable (s := { s with heap := h₁ }) gd1 (by omega) (fun v gw1 => ⟨(gk1 v gw1).1.keeps fun b o e _ => (kk b o e).2, (gk1 v gw1).2⟩) fun o e => ?_
    have e' : some o = some (seqObj "list" ws1.toArray 0) := e.symm.trans ha
    cases e'
    intro c
    exact absurd (Value.type.inj c) (by decide)
  · have gp1 : out.Perm ws1 := h2.perm.trans (List.reverse_perm _)
    have h3 : ∀ u ∈ out.reverse, ∃ t, u = Value.ref t ∧ Rp X.K Hm (rowT (TS.intsOf s.heap u)) (.ref t) := fun u gu1 => by
      obtain ⟨t, e, r, _⟩ := k2 u (gp1.mem_iff.mp (List.mem_reverse.mp gu1))
      exact ⟨t, e, r⟩
    have es : out.reverse.map (TS.intsOf s.heap) = sortDesc nss := by
      refine sortDesc_uniq gh1 ?_ ?_
      · rw [← k1]
        exact ((List.reverse_perm _).trans gp1).map _
      · rw [List.pairwise_map, List.pairwise_reverse]
        exact h1
    obtain ⟨ep, he'⟩ := PyProof.Rows.sortedAll_at s.heap ws1 out.toArray.reverse
    have eo : out.toArray.reverse.toList = out.reverse := by rw [Array.toList_reverse]
    have hlen : (out.reverse.map bkV).length ≤ sizeLine := by
      rw [List.length_map, List.length_reverse, gp1.length_eq, ← gv1.length]
      exact gz1
    have e0 : out.reverse.toArray = out.toArray.reverse := by rw [← eo, Array.toArray_toList]
    exact ⟨.ref _, upd H (s.heap.objs.size + 1) (.lst (out.reverse.map bkV)), I.laid (t' := s.toks) (fun _ _ => PyProof.Rows.sortedAll_old) (Nat.le_succ _) ⟨hlen, out.reverse, ep, bkV_vals fun u gu1 => by
      obtain ⟨t, e, _⟩ := h3 u gu1
      exact ⟨t, e⟩, by rw [e0]; exact he'⟩, rfl, q _ _ (by rw [← es]; exact rows_back h3) (I.hok.fresh (Nat.le_succ _))⟩
def sameLen (nss : List (List Int)) : Bool := match nss with
  | [] => true
  | ns :: _ => decide (1 ≤ ns.length) && nss.all fun x => x.length == ns.length
theorem sameLen_iff {nss : List (List Int)} (h : sameLen nss = true) : ∃ d, 1 ≤ d ∧ ∀ ns ∈ nss, ns.length = d := by
  cases nss with
  | nil => exact ⟨1, Nat.le_refl 1, fun _ h => by simp at h⟩
  | cons ns nss =>
    unfold sameLen at h
    rw [Bool.and_eq_true] at h
    exact ⟨ns.length, of_decide_eq_true h.1, fun x gx1 => beq_iff_eq.mp (List.all_eq_true.mp h.2 x gx1)⟩
def sortRD : List D → Option Out
  | [.lst ds] => match rowsD ds with
    | some nss => if sameLen nss then some (.newL ((sortDesc nss).map rowT)) else none
    | none => none
  | _ => none
theorem snd_sortR {K : PySem.W.Frag} : SndC K (fun xs H Q => rSortR K xs [.bl true] H Q) sortRD := by
  intro Hm H xs ds Q out sm r gg1 post
  unfold sortRD at gg1
  split at gg1
  · rename_i ds
    cases q : rowsD ds with
    | none => rw [q] at gg1; cases gg1
    | some nss =>
      rw [q] at gg1
      have gg1 : (if sameLen nss = true then some (Out.newL ((sortDesc nss).map rowT)) else none) = some out := gg1
      split at gg1
      · rename_i sl
        cases gg1
        obtain ⟨y, ys, h1, ⟨a, us1, e1, e2, e3⟩, h3⟩ := r
        obtain ⟨d, d1, d2⟩ := sameLen_iff sl
        exact ⟨a, us1, Hm, ds, nss, d, by rw [h1, show ys = [] from h3, e1], rfl, SqL.of e2, sm, e3, q, d1, d2, fun ys p r gp1 => post p ys gp1 r⟩
      · cases gg1
  · cases gg1
section
variable {X : Cx} {F : Fr} {E : XK} {e : Expr} {GA : List Ent → R (List Kd)} {pos p kp kpos : Pos} {j : Nat}
theorem je_sortR (gg1 : Gl X "sorted") (umz : X.mg "sorted" = none) (gw1 : bootBuiltins "sorted" = some (.builtin "sorted")) (ha : PA X [e] (tA X.K F E GA))
    (gi1 : backTo pos (starEach [e] X.env) = (false, eval e X.env) :: backTo pos (starEach [] X.env) := by rfl) (hpl : (backTo pos (starEach [e] X.env)).any (·.1) = false := by rfl)
    (hall : (backToKw pos (keywordEach [⟨some "reverse", .Constant (.bool true) j kp, kpos⟩] X.env)).all (·.1.isSome) = true := by rfl) (hnone : (backToKw pos (keywordEach [⟨some "reverse", .Constant (.bool true) j kp, kpos⟩] X.env)).any (·.1.isNone) = false := by rfl) (hks : (backToKw pos (keywordEach [⟨some "reverse", .Constant (.bool true) j kp, kpos⟩] X.env)).filterMap (·.1) = [Str.ofString "reverse"] := by rfl) :
    PE X (.Call (.Name "sorted" p) [e] [⟨some "reverse", .Constant (.bool true) j kp, kpos⟩] pos) (tE X.K F E (callR sortRD GA)) :=
  peI (pe_callBK cr_sortR gg1 umz gw1 ha (pk_cons pe_bl pk_nil) (by decide) (by decide) gi1 hpl hall hnone hks) fun σ H Q h => by
    have := tCB_of (Q := Q) snd_sortR h
    exact this
end
end DL

namespace DL
open PySem PySem.Spec PyProof.Rows L2
theorem huD {X : Cx} {k : Nat} (hr : Room k X.A) : X.A.units + 1 < cLine := by
  have := hr.units
  omega
/-! ### calls by keywords in any order -/
def permL {α : Type} (q : List Nat) (l : List α) : List α := q.filterMap fun i => l[i]?
theorem permL_vals {q : List Nat} {vs : List V} {us : List Value} (h : Vals vs us) : Vals (permL q vs) (permL q us) := by
  induction q with
  | nil => exact .nil
  | cons i q ih =>
    unfold permL at ih ⊢
    rw [List.filterMap_cons, List.filterMap_cons]
    cases e : vs[i]? with
    | none =>
      have e2 : us[i]? = none := by
        rw [List.getElem?_eq_none_iff] at e ⊢
        rw [← h.length]; exact e
      rw [e2]
      exact ih
    | some x =>
      obtain ⟨u, hu, r⟩ := h.get e
      rw [hu]
      exact .cons r ih
theorem permL_kats {K : PySem.W.Frag} {σ : L2.St} {H : Hp} : ∀ {ks : List Kd} {vs : List V}, KAts K σ H ks vs → ∀ (i : Nat) (k : Kd), ks[i]? = some k → ∃ v : V, vs[i]? = some v ∧ KAt K σ H k v
  | _ :: _, _, ⟨y, ys, e, h2, h3⟩, 0, k, h => by cases h; subst e; exact ⟨y, rfl, h2⟩
  | _ :: ks, _, ⟨y, ys, e, h2, h3⟩, i + 1, k, h => by subst e; exact permL_kats h3 i k h
theorem kats_len {K : PySem.W.Frag} {σ : L2.St} {H : Hp} : ∀ {ks : List Kd} {vs : List V}, KAts K σ H ks vs → vs.length = ks.length
  | [], vs, h => by rw [show vs = [] from h]; rfl
  | _ :: ks, _, ⟨y, ys, e, h2, h3⟩ => by rw [e, List.length_cons, List.length_cons, kats_len h3]
theorem kats_perm {K : PySem.W.Frag} {σ : L2.St} {H : Hp} {ks : List Kd} {vs : List V} (h : KAts K σ H ks vs) (q : List Nat) : KAts K σ H (permL q ks) (permL q vs) := by
  have hl := kats_len h
  induction q with
  | nil => exact rfl
  | cons i q ih =>
    unfold permL at ih ⊢
    rw [List.filterMap_cons, List.filterMap_cons]
    cases e : ks[i]? with
    | none =>
      have e2 : vs[i]? = none := by
        rw [List.getElem?_eq_none_iff] at e ⊢
        rw [hl]; exact e
      rw [e2]
      exact ih
    | some x =>
      obtain ⟨v, hv, r⟩ := permL_kats h i x e
      rw [hv]
      exact ⟨v, _, rfl, r, ih⟩
def KBp (K : PySem.W.Frag) (fd : FuncData) (ps ks : List Str) (q : List Nat) : Prop := KBn K fd ps 0 ks (fun _ ws => permL q ws) (fun _ zs => permL q zs)
theorem kbp_of {K : PySem.W.Frag} {x qual : Str} {st : Stmt} {f : Addr} {fd : FuncData} {ps ks : List Str} {q : List Nat} (F : Fun K x qual st f fd)
    (h : ∀ (kV doc pm : Value) (an : Option Addr) (cdv ct : Value) (ws : List Value), ws.length = ks.length → bindArgs (PySem.W.fnOf x qual (defArgs st) (defBody st) (defScope st) .none kV doc pm an cdv ct) { pos := [], kw := ks.zip ws } = pure (ps.zip (permL q ws))) : KBp K fd ps ks q := by
  obtain ⟨oc, od, kV, doc, pm, an, cdv, ct, osl, e, lk, hc⟩ := F.ex
  subst e
  refine ⟨fun s us ws _ hu hw => ?_, fun _ r => permL_vals r⟩
  cases us with
  | nil => exact BindsTo.of_eq (h kV doc pm an cdv ct ws hw)
  | cons u us => cases hu
def FnKP (P : Program) (w : World) (K : PySem.W.Frag) (mg : Str → Option Value) (base : Heap) (x : Str) (ps ks : List Str) (q : List Nat) (k n : Nat) (G : List Ent → R Kd) : Prop :=
  ∃ (f : Addr) (fd : FuncData), FnOk P w K mg base (L2.CX P w) k f fd ps (spD K n G) ∧ mg x = some (.ref f) ∧ PySem.W.keepIn K (.ref f) = true ∧ KBp K fd ps ks q
def permR (m : Nat) (q : List Nat) (GA : List Ent → R (List Kd)) (ρ : List Ent) : R (List Kd) := (GA ρ).bind fun ks ρ1 => if ks.length = m then .ok (permL q ks) ρ1 else .bad
section
variable {X : Cx} {F : Fr} {E : XK} {k n : Nat} {x : Str} {p pos : Pos} {ps names : List Str} {q : List Nat} {kws : List Keyword} {G : List Ent → R Kd} {GA : List Ent → R (List Kd)}
theorem je_fKP (h : FnKP X.prog X.w X.K X.mg X.base x ps names q k n G) (hr : Room k X.A) (hx : Passes (L2.CX X.prog X.w) X E) (ha : PK X kws (tA X.K F E GA)) (hg : Gl X x := by rfl)
    (hall : ((backToKw pos (keywordEach kws X.env)).all fun x => x.1.isSome) = true := by rfl) (hks : (backToKw pos (keywordEach kws X.env)).filterMap (fun x => x.1) = names := by rfl) (hdb : (x == ("__debug__" : Str)) = false := by decide)
    (hpl : (((backTo pos (starEach [] X.env)).any fun x => x.1) || (backToKw pos (keywordEach kws X.env)).any fun x => x.1.isNone) = false := by rfl) :
    PE X (.Call (.Name x p) [] kws pos) (tE X.K F E (callU n G [] (permR names.length q GA))) := by
  obtain ⟨f, fd, h1, h2, h3, h4⟩ := h
  refine peI (pe_callK0 (n := n) h1 hr hg h2 h3 h4 hx ha hall hks hdb hpl) fun σ H Q ⟨ρ, T, m, o, p⟩ => ?_
  have p : PostE X.K F E T σ Q ((permR names.length q GA ρ).bind fun ks ρ1 => match vas ks with
      | some ds => if (ds ++ []).length = n then retU ρ1 (G ((ds ++ []).map .va)) else .bad
      | none => .bad) := p
  unfold permR at p
  rw [R.bind_assoc] at p
  refine bdA (pf_E Q) m o p fun vs H1 ks ρ1 o1 p1 => ?_
  split at p1
  · rename_i hn
    have p1 : PostE X.K F E T σ Q (match vas (permL q ks) with
      | some ds => if (ds ++ []).length = n then retU ρ1 (G ((ds ++ []).map .va)) else .bad
      | none => .bad) := p1
    cases hv : vas (permL q ks) with
    | none => rw [hv] at p1; exact p1.elim
    | some ds =>
      rw [hv] at p1
      have p1 : PostE X.K F E T σ Q (if (ds ++ []).length = n then retU ρ1 (G ((ds ++ []).map .va)) else .bad) := p1
      split at p1
      · rename_i hl
        rw [List.append_nil] at p1 hl
        have r := vas_rp hv (kats_perm o1.t.2 q)
        have l : (permL q vs).length = n := by rw [r.len]; exact hl
        exact ⟨rfl, (kats_len o1.t.2).trans hn, sp_vas (o1.weak fun _ z => z.1) m r l p1⟩
      · exact p1.elim
  · exact p1.elim
end
def permM (m : Nat) (q : List Nat) (ds : List D) : Res (List D) := if ds.length = m then .ok (permL q ds) else .bad
section
variable {p : Pat} {GA : List Ent → R (List Kd)} {N : CPS (List D)}
theorem permL_map (q : List Nat) (ds : List D) : permL q (ds.map Kd.va) = (permL q ds).map .va := by
  unfold permL
  induction q with
  | nil => rfl
  | cons i q ih =>
    rw [List.filterMap_cons, List.filterMap_cons, List.getElem?_map]
    cases ds[i]? with
    | none => exact ih
    | some d => exact congrArg (Kd.va d :: ·) ih
theorem ea_perm {m : Nat} {q : List Nat} (h : EAP p GA N) : EAP p (permR m q GA) (fun γ K => N γ fun ds => (permM m q ds).bind K) := fun ρ mt γ β K f Ψ k => by
  show Sim ((permR m q GA ρ).bind f) _ _
  unfold permR
  rw [R.bind_assoc]
  refine h ρ mt γ β _ _ Ψ fun ds ks ρ1 ⟨e, m1⟩ => ?_
  subst e
  unfold permM
  rw [List.length_map]
  split
  · exact k (permL q ds) _ ρ1 ⟨permL_map q ds, m1⟩
  · exact True.intro
end
end DL

namespace DL
open PySem PySem.Spec PyProof.Rows L2
/-! ### a slice whose end does something to the slots -/
section
variable {p : Pat} {G Gh : List Ent → R Kd} {M : CPS D} {α : Type} {Mh : CPS α} {dh : α → D} {ph : α → Pat}
theorem ef_sliceTo (h : EP p G M) (h2 : EF p Gh Mh dh ph) : EF p (sliceR G partN (partS Gh)) (fun γ K => M γ fun a => Mh γ fun t => (asI (dh t)).bind fun i => (slM a none (some i)).bind fun v => K (t, v)) (fun u => u.2) (fun u => ph u.1) := fun ρ m γ β K f Ψ k => by
  show Sim ((sliceR G partN (partS Gh) ρ).bind f) _ _
  unfold sliceR
  rw [R.bind_assoc, fz_b]
  refine h ρ m γ β _ _ Ψ fun a k1 ρ1 ⟨e1, m1⟩ => ?_
  have e0 : fk k1 = .va a := by
    rcases e1 with rfl | ⟨rfl, _⟩ <;> rfl
  rw [e0]
  have e : ∀ (g : Option Int → List Ent → R β), (partS Gh ρ1).bind g = (Gh ρ1).bind fun kd ρ' => (match kd with
    | .va (.int i) => R.ok (some i) ρ'
    | _ => .bad).bind g := fun g => by
    unfold partS
    cases Gh ρ1 with
    | ok kd ρ' =>
      cases kd with
      | va d => cases d <;> rfl
      | ow d => rfl
      | al i => rfl
    | ex x ρ' => rfl
    | bad => rfl
  show Sim (R.bind ((partS Gh ρ1).bind _) f) _ _
  rw [R.bind_assoc, e]
  refine h2 ρ1 m1 γ β _ _ Ψ fun t k2 ρ2 ⟨e2, m2⟩ => ?_
  cases hd : dh t with
  | int i =>
    rw [hd] at e2
    rcases e2 with rfl | ⟨_, z⟩
    · show Sim (R.bind (outO (slD none (some i) a) ρ2) f) ((slM a none (some i)).bind _) _
      exact (sim_outO m2).bind fun v k3 ρ3 ⟨e3, m3⟩ => k (t, v) k3 ρ3 ⟨e3, m3⟩
    · exact z.elim
  | _ =>
    rw [hd] at e2
    rcases e2 with rfl | ⟨rfl, z⟩ <;> exact True.intro
end
end DL

namespace DL
open PySem PySem.Spec PyProof.Rows L2
/-! ### enumerate of a tuple -/
theorem meets_enumerate_new1 {v : Value} {o : Obj} {H : Heap → Prop} (B : Begins v o H) :
    Meets (Builtin.«enumerate.__new__» ⟨[.type "enumerate", v], []⟩) (fun _ R s => H s.heap ∧
      R (.ok (.ret (.ref (s.heap.push o).objs.size))) { s with heap := (s.heap.push o).push { cls := .type "enumerate", data := .fields #[.none, .bool false, .ref s.heap.objs.size, rawInt 0, .none, .none] } }) :=
  .of_wp fun prog w A R s uz => by
    obtain ⟨gp1, g, d, tk, os⟩ := s; obtain ⟨h1, uz⟩ := uz
    have hsub := sub_enumerate
    have q1 : ∀ {A' : Around} {E : Value → Shared → Prop} {Q : Value → Shared → Prop}, Q (.ref gp1.objs.size) ⟨gp1.push o, g, d, tk, os⟩ → wpAny (model prog w) A' (pyIter v) Q E ⟨gp1, g, d, tk, os⟩ :=
      fun q => B.iter prog w _ _ ⟨gp1, g, d, tk, os⟩ _ h1 q
    wp_walk using q1
    refine wpAny_stack_any fun st => wpAny_pure ?_
    split
    · rename_i c _ _ _ _ _
      cases (c == Value.type "enumerate")
      · wp_walk using q1
        exact ⟨_, rfl, uz⟩
      · wp_walk using q1
        exact ⟨_, rfl, uz⟩
    · wp_walk using q1
      exact ⟨_, rfl, uz⟩
section
variable {prog : Program} {w : World} {A : Around} {E : Value → Shared → Prop} {s : Shared}
theorem enum_begins1 {v : Value} {o : Obj} {H : Heap → Prop} {Q : Value → Shared → Prop} (B : Begins v o H) (h1 : H s.heap)
    (uz : ∀ h', IsEnum h' (s.heap.objs.size + 1) s.heap.objs.size 0 .none → h'.get? s.heap.objs.size = some o → h'.objs.size = s.heap.objs.size + 2 →
      (∀ b o, s.heap.get? b = some o → h'.get? b = some o) → Q (.ref (s.heap.objs.size + 1)) { s with heap := h' }) :
    wpAny (model prog w) A (call (.type "enumerate") [v]) Q E s := by
  refine callType_new F.called_enumerate (by decide) (F.typeCall_enumerate_1 _) (F.newCall_enumerate_1 _) (fun obj => F.args_object_init_2 obj _) F.entry_enumerate_new
    (meets_enumerate_new1 B) ⟨h1, ?_⟩
  have gz1 : (s.heap.push o).objs.size = s.heap.objs.size + 1 := Heap.size_push ..
  show _ ∧ _
  rw [gz1]
  have gi1 : IsEnum ((s.heap.push o).push { cls := .type "enumerate", data := .fields #[.none, .bool false, .ref s.heap.objs.size, rawInt 0, .none, .none] }) (s.heap.objs.size + 1) s.heap.objs.size 0 .none := by
    have := Heap.get?_push_size (s.heap.push o) (o := { cls := .type "enumerate", data := .fields #[.none, .bool false, .ref s.heap.objs.size, rawInt 0, .none, .none] }) rfl
    rw [gz1] at this; exact this
  refine ⟨⟨_, gi1, rfl⟩, uz _ gi1 (Heap.get?_push_of_some _ (Heap.get?_push_size _ B.free)) (by rw [Heap.size_push, gz1]) fun b o x => Heap.get?_push_of_some _ (Heap.get?_push_of_some _ x)⟩
end
/-- the tuple at a as it stands at each turn, each item in a new pair -/
def IteT (K : PySem.W.Frag) (a : Addr) : It :=
  ⟨fun i H => ∃ (xs : List V) (x : V), SqT K H a xs ∧ xs[i]? = some x, fun i H v H' => ∃ T x, v = .ref T ∧ H T = none ∧ H' = upd H T (.tup [.int (i : Nat), x]) ∧ ∀ xs, SqT K H a xs → xs[i]? = some x, fun i H => ∃ xs : List V, SqT K H a xs ∧ xs.length = i⟩
theorem turn_enumT {P : Program} {w : World} {K : PySem.W.Frag} {elts : List Expr} {kk : Nat} {tpos : Pos} (a e it : Addr) :
    L2.Turn P w K (.Tuple elts kk tpos) (IteT K a) [e, it] e (fun i uz => (∃ old, IsEnum uz e it ((i : Nat) : Int) old) ∧ uz.IsTupleIter it a i ∧ e ≠ it ∧ a ≠ it ∧ e ≠ a) where
  mem := by simp
  obj := fun i uz st b gj1 => by
    obtain ⟨⟨old, gi1⟩, ⟨o, go1, gc1, gd1⟩, _⟩ := st
    have e' : b = e ∨ b = it := by simpa using gj1
    rcases e' with z | z
    · rw [z]; exact ⟨_, gi1, fun v q => nomatch q⟩
    · rw [z]; exact ⟨o, go1, fun v q => by rw [gd1] at q; cases q⟩
  keep := fun i uz h' st k => let ⟨⟨old, gi1⟩, gi2, ge1⟩ := st; ⟨⟨old, k e (by simp) _ gi1⟩, gi2.at fun o q => k it (by simp) o q, ge1⟩
  item := by
    intro X hP hw hK gc1 i pq1 s σ H E I gf1 st gg1
    subst hP hw hK
    obtain ⟨⟨old, gi1⟩, gt1, ge1, hai, hea⟩ := st
    obtain ⟨xs, x, gq1, gx1⟩ := gg1
    obtain ⟨ws1, gv1, p, gz1⟩ := I.tuple gq1
    obtain ⟨u, gu1, gr1⟩ := gv1.get gx1
    have gl1 : e < s.heap.objs.size := Heap.lt_size gi1
    have gl2 : it < s.heap.objs.size := by obtain ⟨_, q, _⟩ := gt1; exact Heap.lt_size q
    have hu' : ws1.toArray[i]? = some u := by simpa using gu1
    have gm1 : i < ws1.toArray.size := (Array.getElem?_eq_some_iff.mp hu').1
    refine wpAny_pyNext_enum_itemD (Draws.tuple (A := X.A.in1) (I.ok.hd gc1) it a hai ws1.toArray) gi1 ⟨gt1, p⟩ gm1 ge1 (by simp [ge1, hea]) fun y h' tk gy1 go1 hst gT1 gs1 gk1 => ?_
    have hit' := hst.1
    have ey : y = u := by
      have gy1 : ws1.toArray[i]? = some y := gy1
      rw [hu'] at gy1
      exact (Option.some.inj gy1).symm
    subst ey
    refine ⟨_, rfl, wpAny_letOwnedTupleGo_enum (s := { s with heap := h', toks := tk + 1 }) go1 fun h'' he' gb1 => ?_⟩
    have gT2 : h''.get? s.heap.objs.size = some { cls := .type "tuple", data := .seq #[.int i tk, y] } := (gb1.2 _ (Nat.ne_of_gt gl1)).trans gT1
    have new : ObjOk X.prog X.w (upd H s.heap.objs.size (.tup [.int (i : Nat), x])) h'' s.heap.objs.size (.tup [.int (i : Nat), x]) :=
      ⟨by show 2 ≤ sizeLine; decide, [.int i tk, y], .cons ⟨_, rfl⟩ (.cons gr1 .nil), ⟨_, gT2, rfl, _, rfl⟩⟩
    have I1 : L2.Inv X pq1 σ (upd H s.heap.objs.size (.tup [.int (i : Nat), x])) { s with heap := h'', toks := tk + 1 } :=
      I.turnedNew (ch := [e, it]) (fun b ob gj1 q => (gb1.2 b (fun z => gj1 (by simp [z]))).trans (gk1 b ob (fun z => gj1 (by simp [z])) (fun z => gj1 (by simp [z])) q)) gf1 (Nat.le_refl _) new
    refine ⟨.ref s.heap.objs.size, _, I1, rfl, ⟨_, x, rfl, I.hok.fresh (Nat.le_refl _), rfl, fun ys gy1 => by rw [I.tuple_inj gy1 gq1]; exact gx1⟩, ⟨⟨y, ?_⟩, hit'.at fun o q => (gb1.2 it (Ne.symm ge1)).trans q, ge1, hai, hea⟩, fun b gj1 => ?_⟩
    · have e1 : ((i + 1 : Nat) : Int) = (i : Int) + 1 := by omega
      rw [e1]; exact he'
    · have ub'z : b < s.heap.objs.size := by
        have e' : b = e ∨ b = it := by simpa using gj1
        rcases e' with z | z
        · rw [z]; exact gl1
        · rw [z]; exact gl2
      rw [upd_ne (Nat.ne_of_lt ub'z)]
      exact (gf1 b gj1).1
  done := by
    intro X hP hw hK gc1 i pq1 s σ H E I gf1 st gg1
    subst hP hw hK
    obtain ⟨⟨old, gi1⟩, gt1, ge1, hai, hea⟩ := st
    obtain ⟨xs, gq1, gx1⟩ := gg1
    obtain ⟨ws1, gv1, p, gz1⟩ := I.tuple gq1
    obtain ⟨f0, f1, f2, f3, f4, f5⟩ := gf1 it (by simp)
    have gh1 := gv1.length
    have en : ws1.toArray.size = i := by simp; omega
    exact wpAny_pyNext_enum_endD (Draws.tuple (A := X.A.in1) (I.ok.hd gc1) it a hai ws1.toArray) gi1 ⟨by rw [en]; exact gt1, p⟩ fun h' eb => ⟨rfl, I.turned (t' := s.toks) (fun b o gj1 q => eb b o gj1 q) f0 f1 f3 f4 f5⟩
  self := fun A i s Q E st uz => let ⟨⟨_, gi1⟩, _⟩ := st; wpAny_pyIter_enum gi1 uz
def iEnumA (K : PySem.W.Frag) (ta : TA) : TI := fun σ H R => ta σ H fun vs H1 => ∃ a xs, vs = [.ref a] ∧ ((SqL K H1 a xs ∧ R (Ite K a) H1) ∨ (SqT K H1 a xs ∧ R (IteT K a) H1))
theorem pi_enumA {X : Cx} {e : Expr} {ta : TA} {p pos tpos : Pos} {elts : List Expr} {kk : Nat} (gg1 : Gl X "enumerate") (hm : X.mg "enumerate" = none) (ha : PA X [e] ta) (gs2 : starEach [e] X.env = [(false, eval e X.env)] := by rfl) :
    PI X (.Tuple elts kk tpos) (.Call (.Name "enumerate" p) [e] [] pos) (iEnumA X.K ta) := by
  refine ⟨fun pq1 s σ H R I uz => ?_⟩
  refine Call_ (ld_blt I gg1 hm boot_enumerate (PyProof.Rows.callWith_type1 (thn (ha.run pos pq1 s σ H _ I uz) fun us1 s1 ⟨vs, H1, I1, r1, q1⟩ => ?_) gs2 rfl))
  obtain ⟨a, xs, ex, gq1⟩ := q1
  subst ex
  cases r1 with
  | cons r rr =>
    cases rr
    cases r
    have fin : ∀ b, b ∈ [s1.heap.objs.size + 1, s1.heap.objs.size] → s1.heap.objs.size ≤ b := fun b gj1 => by
      have e' : b = s1.heap.objs.size + 1 ∨ b = s1.heap.objs.size := by simpa using gj1
      rcases e' with z | z
      · rw [z]; exact Nat.le_add_right _ _
      · rw [z]; exact Nat.le_refl _
    rcases gq1 with ⟨gq1, q⟩ | ⟨gq1, q⟩
    · obtain ⟨ws1, gv1, p', gz1⟩ := I1.list gq1
      refine call_enumerate_list p'.isList fun h' gi1 gt1 gs1 gk1 => wpAny_pyIter_enum gi1 ?_
      have I2 : L2.Inv X pq1 σ H1 { s1 with heap := h' } := I1.kept (t' := s1.toks) gk1
      exact ⟨s1.heap.objs.size + 1, [s1.heap.objs.size + 1, s1.heap.objs.size], _, _, H1, rfl, I2, turn_enum a (s1.heap.objs.size + 1) s1.heap.objs.size, ⟨⟨.none, gi1⟩, gt1, Nat.succ_ne_self _⟩, fun b gj1 => I1.fpOk (fin b gj1) (I1.hok.fresh (fin b gj1)), q⟩
    · obtain ⟨ws1, gv1, p', gz1⟩ := I1.tuple gq1
      have hal : a < s1.heap.objs.size := by obtain ⟨o, go1, _⟩ := p'; exact Heap.lt_size go1
      refine enum_begins1 (begins_tuple a ws1.toArray) p' fun h' gi1 gt1 gs1 gk1 => wpAny_pyIter_enum gi1 ?_
      have I2 : L2.Inv X pq1 σ H1 { s1 with heap := h' } := I1.kept (t' := s1.toks) gk1
      exact ⟨s1.heap.objs.size + 1, [s1.heap.objs.size + 1, s1.heap.objs.size], _, _, H1, rfl, I2, turn_enumT a (s1.heap.objs.size + 1) s1.heap.objs.size, ⟨⟨.none, gi1⟩, ⟨_, gt1, rfl, rfl⟩, Nat.succ_ne_self _, Nat.ne_of_lt hal, Nat.ne_of_gt (Nat.lt_succ_of_lt hal)⟩, fun b gj1 => I1.fpOk (fin b gj1) (I1.hok.fresh (fin b gj1)), q⟩
section
variable {K : PySem.W.Frag}
theorem enumD_len (ds : List D) : (enumD ds).length = ds.length := by unfold enumD; simp
theorem walkD_enumT {a : Addr} {xs : List V} {ds : List D} : WalkD K (IteT K a) (enumD ds) (fun uz => SqT K uz a xs ∧ RpL K uz ds xs) where
  stop := fun H M z => ⟨xs, SqT.mono wo_le z.1, by rw [enumD_len, z.2.len]⟩
  go := fun i d H M q z => by
    obtain ⟨x, q1, _⟩ := enumD_get q
    obtain ⟨u, k1, _⟩ := z.2.get q1
    exact ⟨xs, u, SqT.mono wo_le z.1, k1⟩
  yld := fun i d x H H' F vs es' T q m o y => by
    obtain ⟨p, u, e1, gp1, e2, e3⟩ := y
    obtain ⟨d1, q1, q3⟩ := enumD_get q
    subst e1; subst e2; subst q3
    obtain ⟨u', k1, r1⟩ := o.t.2.2.get q1
    have e3 := e3 xs (SqT.mono wo_le o.t.2.1)
    rw [e3] at k1
    cases k1
    exact o.newPair (m.and fun uz h' s z => ⟨SqT.mono s z.1, z.2.mono s⟩) gp1 rfl r1
end
def enumI2 (GA : List Ent → R (List Kd)) (ρ : List Ent) : R (List D) := (GA ρ).bind fun ks ρ1 => match ks with
  | [.va (.lst xs)] => .ok (enumD xs) ρ1
  | [.va (.tup xs)] => .ok (enumD xs) ρ1
  | _ => .bad
section
variable {X : Cx} {F : Fr} {E : XK} {a : Expr} {pos p tpos : Pos} {elts : List Expr} {kk : Nat} {GA : List Ent → R (List Kd)}
theorem ji_enumA (gg1 : Gl X "enumerate") (hm : X.mg "enumerate" = none) (ha : PA X [a] (tA X.K F E GA)) (gs2 : starEach [a] X.env = [(false, eval a X.env)] := by rfl) :
    PI X (.Tuple elts kk tpos) (.Call (.Name "enumerate" p) [a] [] pos) (tI X.K F E (enumI2 GA)) :=
  piI (pi_enumA gg1 hm ha gs2) fun σ H Rr ⟨ρ, T, m, o, p⟩ => bdA (pf_I Rr) m o p fun vs H1 ks ρ1 o1 p1 => by
    split at p1
    · rename_i xs
      obtain ⟨y, ys', e1, ⟨a1, us1, f1, f2, f3⟩, e5⟩ := o1.t.2
      exact ⟨a1, us1, by rw [e1, show ys' = [] from e5, f1], .inl ⟨SqL.of ((wo_some f2).2), p1 _ _ _ (fun uz h' s z => ⟨s _ _ z.1, z.2.mono s⟩) walkD_enum (o1.to ⟨o1.t.1, f2, f3⟩)⟩⟩
    · rename_i xs
      obtain ⟨y, ys', e1, ⟨a1, us1, f1, f2, f3⟩, e5⟩ := o1.t.2
      exact ⟨a1, us1, by rw [e1, show ys' = [] from e5, f1], .inr ⟨SqT.mono wo_le f2.sq, p1 _ _ _ (fun uz h' s z => ⟨SqT.mono s z.1, z.2.mono s⟩) walkD_enumT (o1.to ⟨o1.t.1, f2.sq, f3⟩)⟩⟩
    · exact p1.elim
end
def enumM2 : List D → Res (List D)
  | [.lst xs] => .ok (enumD xs)
  | [.tup xs] => .ok (enumD xs)
  | _ => .bad
section
variable {p : Pat} {GA : List Ent → R (List Kd)} {α : Type} {MA : CPS α} {dsA : α → List D} {pA : α → Pat}
theorem sim_enum2 : ∀ (ds : List D) (ρ : List Ent), Sim (match ds.map Kd.va with
  | [.va (.lst xs)] => R.ok (enumD xs) ρ
  | [.va (.tup xs)] => R.ok (enumD xs) ρ
  | _ => .bad) (enumM2 ds) fun d k ρ' => k = d ∧ ρ' = ρ := fun ds ρ => by
  rcases ds with _ | ⟨d, _ | ⟨e, r⟩⟩
  · exact True.intro
  · cases d <;> first | exact ⟨_, _, rfl, rfl, rfl⟩ | exact True.intro
  · cases d <;> exact True.intro
theorem eip_enum2 {N : CPS (List D)} (uz : EAP p GA N) : EIP p (enumI2 GA) (fun γ K => N γ fun a => (enumM2 a).bind K) := eip_args (GI := enumI2) (fun _ _ => rfl) sim_enum2 uz
theorem ei_enum2 (uz : EA p GA MA dsA pA) : EI p (enumI2 GA) (fun γ K => MA γ fun a => (enumM2 (dsA a)).bind fun ds => K (a, ds)) (fun t => t.2) (fun t => pA t.1) := ei_args (GI := enumI2) (fun _ _ => rfl) sim_enum2 uz
end
end DL

namespace DL
open PySem PySem.Spec PyProof.Rows L2
/-! ### any of a tuple of numbers -/
theorem truth_ints {prog : Program} {w : World} {A : Around} {ns : List Int} {ws1 : List Value} (e : IntsAre ws1 ns) :
    TruthOf prog w A (fun i v => ws1.toArray[i]? = some v) (fun i => (ns.map fun n => n != 0).getD i false) := fun i v s Q E gw1 gq1 => by
  have hv' : ws1[i]? = some v := by simpa using gw1
  have key : ∀ {ws1 : List Value} {ns : List Int} {i : Nat}, IntsAre ws1 ns → ws1[i]? = some v → ∃ n t, v = Value.int n t ∧ ns[i]? = some n := by
    intro ws1 ns i uz
    induction uz generalizing i with
    | nil => intro uz; simp at uz
    | cons q u gy1 ih =>
      intro uz
      cases i with
      | zero => cases uz; exact ⟨_, _, rfl, rfl⟩
      | succ i => exact ih uz
  obtain ⟨n, t, rfl, hn⟩ := key e hv'
  have gg1 : (ns.map fun n => n != 0).getD i false = (n != 0) := by rw [List.getD_eq_getElem?_getD, List.getElem?_map, hn] <;> rfl
  have hq' : Q ((ns.map fun n => n != 0).getD i false) s := gq1
  rw [gg1] at hq'
  first | exact PySem.truthy_int hq' | exact PyProof.Rows.truthy_int hq' | exact PySem.PureInt.truthy_int hq'
def rAnyT (K : PySem.W.Frag) : List V → Hp → VK → Prop := fun vs H Q => ∃ (a : Addr) (ns : List Int), vs = [V.ref a] ∧ SqT K H a (ns.map V.int) ∧ Q (.bl (ns.any fun n => n != 0)) H
theorem cr_anyT {X : Cx} (gc1 : X.calm = true) : CallR X (.builtin "any") (rAnyT X.K) := by
  intro pq1 s σ H vs us1 Q I r uz
  obtain ⟨a, ns, rfl, gs2, q⟩ := uz
  obtain ⟨ws1, gv1, gh1, _⟩ := I.tuple gs2
  rw [Vals.ref1 r]
  have gi2 := gv1.ints
  have hal : a < s.heap.objs.size := by obtain ⟨o, go1, _⟩ := gh1; exact Heap.lt_size go1
  refine call_any_walk ((begins_tuple a ws1.toArray).iter _ _ _ _ s _ gh1 ?_)
  have hl2 : (s.heap.push { cls := .type "tuple_iterator", data := .fields #[.ref a, .int 0 0] }).IsTuple a ws1.toArray := by
    obtain ⟨o, go1, r⟩ := gh1
    exact ⟨o, Heap.get?_push_of_some _ go1, r⟩
  refine ⟨_, _, _, _, _, _, _, rfl, Walks.tuple (A := X.A.in1) (I.ok.hd gc1) _ a (Nat.ne_of_lt hal) ws1.toArray, ⟨⟨_, Heap.get?_push_size _ rfl, rfl, rfl⟩, hl2⟩, truth_ints gi2, fun h' tk gk1 => ?_⟩
  refine ⟨.bl _, H, I.kept fun b o eo => gk1 b o (fun umemz => ?_) (Heap.get?_push_of_some _ eo), ?_, q⟩
  · rcases List.mem_cons.mp umemz with e1 | umemz
    · exact absurd (e1 ▸ Heap.lt_size eo) (Nat.lt_irrefl _)
    · cases umemz
  · show Value.bool _ = Value.bool _
    have e1 : (ns.any fun n => n != 0) = (ns.map fun n => n != 0).any id := by rw [List.any_map]; rfl
    rw [e1, ← L2.any_range, List.size_toArray, List.length_map, gi2.length]
def anyD2 : List D → Option Out
  | [.tup ds] => (intsD ds).map fun ns => .same (.bl (ns.any fun n => n != 0))
  | ds => anyD ds
theorem snd_any2 {K : PySem.W.Frag} : SndC K (fun xs H Q => rAny K xs H Q ∨ rAnyT K xs H Q) anyD2 := by
  intro Hm H xs ds Q out sm r gg1 post
  unfold anyD2 at gg1
  split at gg1
  · rename_i ds
    cases q : intsD ds with
    | none => rw [q] at gg1; cases gg1
    | some ns =>
      rw [q] at gg1
      cases gg1
      obtain ⟨y, ys, h1, ⟨a, us1, e1, e2, e3⟩, h3⟩ := r
      refine .inr ⟨a, ns, by rw [h1, show ys = [] from h3, e1], ?_, post _ rfl⟩
      rw [← ints_rp q e3]
      exact SqT.mono sm e2.sq
  · exact .inl (snd_any Hm H xs _ Q out sm r gg1 post)
theorem cr_any2 {X : Cx} (gc1 : X.calm = true) : CallR X (.builtin "any") (fun xs H Q => rAny X.K xs H Q ∨ rAnyT X.K xs H Q) := CallR.or (cr_any gc1) (cr_anyT gc1)
end DL

namespace DL
open PySem PySem.Spec PyProof.Rows L2
/-! ### zip of any number of lists and tuples -/
theorem newCall_zipN : ∀ (vs : List Value), checkBuiltinCall "zip.__new__" ⟨.type "zip" :: vs, []⟩ = pure ()
  | [] => by kernel_rfl
  | v :: vs => by kernel_rfl
theorem typeCall_zipN (vs : List Value) : checkTypeCall "zip" ⟨vs, []⟩ = pure () := by kernel_rfl
theorem args_initN (obj : Value) (vs : List Value) : argsOk "object.__init__" ⟨obj :: vs, []⟩ := by unfold argsOk; kernel_rfl
/-- one source of a zip: its iterator, where it lies, what it holds -/
structure Src where
  it : Addr
  a : Addr
  tup : Bool
  ws : List Value
def Src.St (c : Src) (i : Nat) (h : Heap) : Prop := match c.tup with
  | true => h.IsTupleIter c.it c.a i ∧ h.IsTuple c.a c.ws.toArray
  | false => h.IsListIter c.it c.a i ∧ h.IsList c.a c.ws.toArray
theorem Src.draws {prog : Program} {w : World} {A : Around} (c : Src) (hh : A.handled = none) (hne : c.a ≠ c.it) : Draws prog w A c.it [c.it, c.a] c.ws.length (fun i v => c.ws[i]? = some v) c.St := by
  obtain ⟨it, a, tup, ws⟩ := c
  cases tup with
  | true => have := Draws.tuple (prog := prog) (w := w) (A := A) hh it a hne ws.toArray; simp only [List.size_toArray, List.getElem?_toArray] at this; exact this
  | false => have := Draws.list (prog := prog) (w := w) (A := A) hh it a hne ws.toArray; simp only [List.size_toArray, List.getElem?_toArray] at this; exact this
/-- the cells lie apart -/
structure ZSep (z TI TO : Addr) (L : List Src) : Prop where
  TIz : TI ≠ z
  TOz : TO ≠ z
  TITO : TI ≠ TO
  nd : (L.map Src.it).Nodup
  itz : ∀ c ∈ L, c.it ≠ z
  itTI : ∀ c ∈ L, c.it ≠ TI
  itTO : ∀ c ∈ L, c.it ≠ TO
  az : ∀ c ∈ L, c.a ≠ z
  aTO : ∀ c ∈ L, c.a ≠ TO
  ai : ∀ c ∈ L, ∀ d ∈ L, c.a ≠ d.it
abbrev IsZ (h : Heap) (z TI TO : Addr) (f0 : Value) (b : Bool) : Prop := h.get? z = some { cls := .type "zip", dict := none, data := .fields #[f0, .bool b, .bool false, .ref TI, .ref TO], slots := #[] }
abbrev IsT (h : Heap) (T : Addr) (xs : Array Value) : Prop := h.get? T = some { cls := .type "tuple", data := .seq xs }
/-- what else there is stays -/
def But (z TO : Addr) (L : List Src) (h h' : Heap) : Prop := ∀ c o, c ≠ z → c ≠ TO → (∀ d ∈ L, c ≠ d.it) → h.get? c = some o → h'.get? c = some o
section
variable {prog : Program} {w : World} {A : Around} {E : Value → Shared → Prop} {z TI TO : Addr} {L : List Src} {i : Nat}
theorem But.ofz {h h' h'' : Heap} (b : But z TO L h h') (e : ∀ c o, c ≠ z → h'.get? c = some o → h''.get? c = some o) : But z TO L h h'' := fun c o a1 a2 a3 q => e c o a1 (b c o a1 a2 a3 q)
theorem But.oft {h h' h'' : Heap} (b : But z TO L h h') (e : ∀ c o, c ≠ TO → h'.get? c = some o → h''.get? c = some o) : But z TO L h h'' := fun c o a1 a2 a3 q => e c o a2 (b c o a1 a2 a3 q)
theorem But.ofi {h h' h'' : Heap} (b : But z TO L h h') {d : Src} (hd : d ∈ L) (e : ∀ c o, c ≠ d.it → h'.get? c = some o → h''.get? c = some o) : But z TO L h h'' := fun c o a1 a2 a3 q => e c o (a3 d hd) (b c o a1 a2 a3 q)
theorem Src.St.keep {c : Src} {i : Nat} {h h' : Heap} (st : c.St i h) (k : ∀ o, h.get? c.it = some o → h'.get? c.it = some o) (k2 : ∀ o, h.get? c.a = some o → h'.get? c.a = some o) : c.St i h' := by
  obtain ⟨it, a, tup, ws⟩ := c
  cases tup with
  | true => exact ⟨st.1.at k, st.2.at k2⟩
  | false => exact ⟨st.1.at k, st.2.at k2⟩
/-- in the middle of a turn -/
structure ZMid (z TI TO : Addr) (L L1 L2 : List Src) (i : Nat) (fb : Bool) (h0 h : Heap) : Prop where
  hz : IsZ h z TI TO .ellipsis fb
  s1 : ∀ c ∈ L1, c.St (i + 1) h
  s2 : ∀ c ∈ L2, c.St i h
  sz : h.objs.size = h0.objs.size
  bt : But z TO L h0 h
  to_ : ∃ ys : Array Value, IsT h TO ys ∧ ys.size = L.length ∧ ∀ (k : Nat) (c : Src), L1[k]? = some c → ys[k]? = c.ws[i]?
theorem updateSeq_T {s : Shared} {T : Addr} {ys : Array Value} {x : Value} {k : Nat} {Q : Unit → Shared → Prop} (hT : IsT s.heap T ys) (uzz : ys.size ≤ sizeLine)
    (h : ∀ h', IsT h' T (ys.setIfInBounds k x) → Heap.SameBut T s.heap h' → Q () { s with heap := h' }) : wpAny (model prog w) A (updateSeq T (·.setIfInBounds k x)) Q E s := by
  refine wpAny_updateSeq hT rfl (h _ ?_ (Heap.SameBut.update ..)) uzz (by rw [Array.size_setIfInBounds]; omega)
  show Heap.get? _ _ = _
  rw [Heap.get?_update_self _ hT rfl]
  simp [Obj.mapSeq]
theorem nodup_mid {L1 L2 : List Src} {c : Src} (nd : ((L1 ++ c :: L2).map Src.it).Nodup) : (∀ d ∈ L1, d.it ≠ c.it) ∧ ∀ d ∈ L2, d.it ≠ c.it := by
  rw [List.map_append, List.map_cons] at nd
  have h := List.nodup_append.mp nd
  refine ⟨fun d hd e => ?_, fun d hd e => ?_⟩
  · exact h.2.2 _ (List.mem_map_of_mem hd) _ (List.mem_cons_self) e
  · exact (List.nodup_cons.mp h.2.1).1 (e ▸ List.mem_map_of_mem hd)
theorem zip_free {s : Shared} {fb : Bool} {Q : Unit → Shared → Prop} {X : Type} (hh : A.handled = none) (S : ZSep z TI TO L) (hle : ∀ c ∈ L, i ≤ c.ws.length) (hL : L.length ≤ sizeLine)
    (uzz : IsZ s.heap z TI TO .ellipsis fb) (hTO : ∃ ys : Array Value, IsT s.heap TO ys ∧ ys.size = L.length) (st : ∀ c ∈ L, c.St i s.heap)
    (f : Value × Nat → Option X × Unit → Sem (ForInStep (Option X × Unit)))
    (hf : ∀ (c : Src) (k : Nat) (b : Option X × Unit) (s' : Shared) (R : ForInStep (Option X × Unit) → Shared → Prop), 
      wpAny (model prog w) A (Builtin.SmallTypes.nextOf (.ref c.it)) (fun x s1 => wpAny (model prog w) A (seqItems? (.ref TO)) (fun r s2 => ∃ kept, r = some kept ∧ wpAny (model prog w) A (updateSeq TO (·.setIfInBounds k x)) (fun _ s3 => R (.yield (none, ())) s3) E s2) E s1)
        (fun e s1 => wpAny (model prog w) A (setField (.ref z) 0 .none) (fun _ s2 => E e s2) E s1) s' → wpAny (model prog w) A (f (.ref c.it, k) b) R E s')
    (hQ : (∀ c ∈ L, i < c.ws.length) → ∀ h' tk, ZMid z TI TO L L [] i fb s.heap h' → Q () { s with heap := h', toks := tk })
    (hE : (∃ c ∈ L, i = c.ws.length) → ∀ h' tk e, But z TO L s.heap h' → (∃ o, h'.get? e = some o ∧ o.cls = .type "StopIteration") → E (.ref e) { s with heap := h', toks := tk }) :
    wpAny (model prog w) A (forIn (L.map fun c => Value.ref c.it).zipIdx (none, ()) f) (fun r s' => r = (none, ()) ∧ Q () s') E s := by
  obtain ⟨upz, g, d, tk0, os⟩ := s
  refine wpAny_forIn_list f (fun rest b s' => b = (none, ()) ∧ ∃ L1 L2, L = L1 ++ L2 ∧ rest = (L2.map fun c => Value.ref c.it).zipIdx L1.length ∧ (∀ c ∈ L1, i < c.ws.length) ∧ ∃ h' tk, s' = ⟨h', g, d, tk, os⟩ ∧ ZMid z TI TO L L1 L2 i fb upz h') _ ?_ ?_ _ _ ?_
  · rintro ⟨x, k⟩ rest b s' ⟨eb, L1, L2, eL, er, hl1, h', tk, es, m⟩
    subst es
    cases L2 with
    | nil => simp at er
    | cons c L2 =>
      simp only [List.map_cons, List.zipIdx_cons, List.cons.injEq, Prod.mk.injEq] at er
      obtain ⟨⟨ex, ek⟩, er⟩ := er
      subst ex ek eb
      have hc : c ∈ L := by rw [eL]; simp
      have nd := S.nd
      rw [eL] at nd
      obtain ⟨n1, n2⟩ := nodup_mid nd
      have D := c.draws (prog := prog) (w := w) hh (S.ai c hc c hc)
      refine hf c _ _ _ _ ?_
      by_cases hlt : i < c.ws.length
      · refine D.item i ⟨h', g, d, tk, os⟩ _ _ hlt (m.s2 c (by simp)) fun x p1 tk1 hx sn hs => ?_
        replace hs : Heap.SameBut c.it h' p1 := hs
        obtain ⟨ys, hT, hy, hys⟩ := m.to_
        have hT1 : IsT p1 TO ys := hs.extBut _ _ (S.itTO c hc).symm hT
        refine wpAny_seqItems (s := ⟨p1, g, d, tk1, os⟩) hT1 rfl ⟨_, rfl, ?_⟩
        refine updateSeq_T (s := ⟨p1, g, d, tk1, os⟩) hT1 (by omega) fun h2 hT2 hs2 => ?_
        replace hs2 : Heap.SameBut TO p1 h2 := hs2
        have kp : ∀ b o, b ≠ c.it → b ≠ TO → h'.get? b = some o → h2.get? b = some o := fun b o q1 q2 q => hs2.extBut _ _ q2 (hs.extBut _ _ q1 q)
        refine ⟨rfl, L1 ++ [c], L2, by rw [eL]; simp, by rw [er]; simp, ?_, h2, tk1, rfl, ?_, ?_, ?_, ?_, ?_, ys.setIfInBounds L1.length x, hT2, by simp [hy], ?_⟩
        · intro e uez
          rcases List.mem_append.mp uez with uez | uez
          · exact hl1 e uez
          · rw [List.mem_singleton.mp uez]; exact hlt
        · exact kp _ _ (S.itz c hc).symm S.TOz.symm m.hz
        · intro e uez
          rcases List.mem_append.mp uez with uez | uez
          · have he' : e ∈ L := by rw [eL]; simp [uez]
            exact (m.s1 e uez).keep (fun o => kp _ _ (n1 e uez) (S.itTO e he')) fun o => kp _ _ (S.ai e he' c hc) (S.aTO e he')
          · rw [List.mem_singleton.mp uez]
            exact sn.keep (fun o => hs2.extBut _ _ (S.itTO c hc)) fun o => hs2.extBut _ _ (S.aTO c hc)
        · intro e uez
          have he' : e ∈ L := by rw [eL]; simp [uez]
          exact (m.s2 e (by simp [uez])).keep (fun o => kp _ _ (n2 e uez) (S.itTO e he')) fun o => kp _ _ (S.ai e he' c hc) (S.aTO e he')
        · rw [hs2.1, hs.1]; exact m.sz
        · exact (m.bt.ofi hc fun c' o q e => hs.extBut _ _ q e).oft fun c' o q e => hs2.extBut _ _ q e
        · intro k e uez
          by_cases hk : k < L1.length
          · rw [List.getElem?_append_left hk] at uez
            rw [Array.getElem?_setIfInBounds_ne (by omega)]
            exact hys k e uez
          · rw [List.getElem?_append_right (by omega)] at uez
            have : k - L1.length = 0 := by
              have := (List.getElem?_eq_some_iff.mp uez).1
              simp at this; omega
            rw [this] at uez
            have hk : k = L1.length := by omega
            subst hk
            cases uez
            rw [Array.getElem?_setIfInBounds_self_of_lt (by rw [hy, eL]; simp)]
            exact hx.symm
      · have hi : i = c.ws.length := by have := hle c hc; omega
        refine D.done ⟨h', g, d, tk, os⟩ _ _ (by rw [← hi]; exact m.s2 c (by simp)) fun q e hq uez => ?_
        replace hq : Heap.ExtBut c.it h' q := hq
        obtain ⟨oe, uoez, hce⟩ := uez
        replace uoez : q.get? e = some oe := uoez
        have hzq : IsZ q z TI TO .ellipsis fb := hq _ _ (S.itz c hc).symm m.hz
        have hez : e ≠ z := fun x => by subst x; rw [hzq] at uoez; cases uoez; simp at hce
        refine wpAny_setField_rec (s := ⟨q, g, d, tk, os⟩) hzq (by simp) fun q' _ uq'z => ?_
        replace uq'z : Heap.SameBut z q q' := uq'z
        exact hE ⟨c, hc, hi⟩ q' tk e ((m.bt.ofi hc fun c' o a b => hq _ _ a b).ofz fun c' o a b => uq'z.extBut _ _ a b) ⟨oe, uq'z.extBut _ _ hez uoez, hce⟩
  · rintro b s' ⟨eb, L1, L2, eL, er, hl1, h', tk, es, m⟩
    cases L2 with
    | nil =>
      rw [List.append_nil] at eL
      subst es
      refine ⟨eb, hQ ?_ h' tk ?_⟩
      · rw [eL]; exact hl1
      · rw [← eL] at m; exact m
    | cons c L2 => simp at er
  · obtain ⟨ys, hT, hy⟩ := hTO
    exact ⟨rfl, [], L, rfl, by simp, by simp, upz, tk0, rfl, uzz, by simp, st, rfl, fun c o _ _ _ q => q, ys, hT, hy, by simp⟩
theorem zip_held {s : Shared} {Q : Unit → Shared → Prop} {X : Type} {f0 : Value} {fb : Bool} (hh : A.handled = none) (S : ZSep z TI TO L) (hle : ∀ c ∈ L, i ≤ c.ws.length)
    (uzz : IsZ s.heap z TI TO f0 fb) (st : ∀ c ∈ L, c.St i s.heap)
    (f : Value → Option X × Array Value → Sem (ForInStep (Option X × Array Value)))
    (hf : ∀ (c : Src) (b : Option X × Array Value) (s' : Shared) (R : ForInStep (Option X × Array Value) → Shared → Prop), 
      wpAny (model prog w) A (Builtin.SmallTypes.nextOf (.ref c.it)) (fun x s1 => R (.yield (none, b.2.push x)) s1) E s' → wpAny (model prog w) A (f (.ref c.it) b) R E s')
    (hQ : (∀ c ∈ L, i < c.ws.length) → ∀ h' tk, IsZ h' z TI TO f0 fb → (∀ c ∈ L, c.St (i + 1) h') → h'.objs.size = s.heap.objs.size → But z TO L s.heap h' → (∀ o, s.heap.get? TO = some o → h'.get? TO = some o) → Q () { s with heap := h', toks := tk })
    (hE : (∃ c ∈ L, i = c.ws.length) → ∀ h' tk e, But z TO L s.heap h' → (∃ o, h'.get? e = some o ∧ o.cls = .type "StopIteration") → E (.ref e) { s with heap := h', toks := tk }) :
    wpAny (model prog w) A (forIn (L.map fun c => Value.ref c.it).toArray (none, #[]) f) (fun r s' => (∃ ys : Array Value, r = (none, ys) ∧ ys.size = L.length ∧ ∀ (k : Nat) (c : Src), L[k]? = some c → ys[k]? = c.ws[i]?) ∧ Q () s') E s := by
  obtain ⟨upz, g, d, tk0, os⟩ := s
  refine PyProof.Rows.forIn_array_ f (fun rest b s' => ∃ ys, b = (none, ys) ∧ ∃ L1 L2, L = L1 ++ L2 ∧ rest = (L2.map fun c => Value.ref c.it) ∧ (∀ c ∈ L1, i < c.ws.length) ∧ ys.size = L1.length ∧ (∀ (k : Nat) (c : Src), L1[k]? = some c → ys[k]? = c.ws[i]?) ∧ ∃ h' tk, s' = ⟨h', g, d, tk, os⟩ ∧ IsZ h' z TI TO f0 fb ∧ (∀ c ∈ L1, c.St (i + 1) h') ∧ (∀ c ∈ L2, c.St i h') ∧ h'.objs.size = upz.objs.size ∧ But z TO L upz h' ∧ ∀ o, upz.get? TO = some o → h'.get? TO = some o) _ ?_ ?_ _ _ ?_
  · rintro x rest b s' ⟨ys, eb, L1, L2, eL, er, hl1, hy, hys, h', tk, es, m1, m2, m3, m4, m5, m6⟩
    subst es
    cases L2 with
    | nil => simp at er
    | cons c L2 =>
      simp only [List.map_cons, List.cons.injEq] at er
      obtain ⟨ex, er⟩ := er
      subst ex eb
      have hc : c ∈ L := by rw [eL]; simp
      have nd := S.nd
      rw [eL] at nd
      obtain ⟨n1, n2⟩ := nodup_mid nd
      have D := c.draws (prog := prog) (w := w) hh (S.ai c hc c hc)
      refine hf c _ _ _ ?_
      by_cases hlt : i < c.ws.length
      · refine D.item i ⟨h', g, d, tk, os⟩ _ _ hlt (m3 c (by simp)) fun x p1 tk1 hx sn hs => ?_
        replace hs : Heap.SameBut c.it h' p1 := hs
        have kp : ∀ b o, b ≠ c.it → h'.get? b = some o → p1.get? b = some o := fun b o q1 q => hs.extBut _ _ q1 q
        refine ⟨ys.push x, rfl, L1 ++ [c], L2, by rw [eL]; simp, er, ?_, by simp [hy], ?_, p1, tk1, rfl, ?_, ?_, ?_, ?_, ?_, ?_⟩
        · intro e uez
          rcases List.mem_append.mp uez with uez | uez
          · exact hl1 e uez
          · rw [List.mem_singleton.mp uez]; exact hlt
        · intro k e uez
          by_cases hk : k < L1.length
          · rw [List.getElem?_append_left hk] at uez
            rw [Array.getElem?_push_lt (by omega)]
            have := hys k e uez
            rw [← this]
            simp [Array.getElem?_eq_getElem (show k < ys.size by omega)]
          · rw [List.getElem?_append_right (by omega)] at uez
            have : k - L1.length = 0 := by
              have := (List.getElem?_eq_some_iff.mp uez).1
              simp at this; omega
            rw [this] at uez
            have hk : k = ys.size := by omega
            subst hk
            cases uez
            rw [Array.getElem?_push_size]
            exact hx.symm
        · exact kp _ _ (S.itz c hc).symm m1
        · intro e uez
          rcases List.mem_append.mp uez with uez | uez
          · have he' : e ∈ L := by rw [eL]; simp [uez]
            exact (m2 e uez).keep (fun o => kp _ _ (n1 e uez)) fun o => kp _ _ (S.ai e he' c hc)
          · rw [List.mem_singleton.mp uez]
            exact sn
        · intro e uez
          have he' : e ∈ L := by rw [eL]; simp [uez]
          exact (m3 e (by simp [uez])).keep (fun o => kp _ _ (n2 e uez)) fun o => kp _ _ (S.ai e he' c hc)
        · rw [hs.1]; exact m4
        · exact m5.ofi hc fun c' o q e => hs.extBut _ _ q e
        · exact fun o q => kp _ _ (S.itTO c hc).symm (m6 o q)
      · have hi : i = c.ws.length := by have := hle c hc; omega
        refine D.done ⟨h', g, d, tk, os⟩ _ _ (by rw [← hi]; exact m3 c (by simp)) fun q e hq uez => ?_
        exact hE ⟨c, hc, hi⟩ q tk e (m5.ofi hc fun c' o a b => hq _ _ a b) uez
  · rintro b s' ⟨ys, eb, L1, L2, eL, er, hl1, hy, hys, h', tk, es, m1, m2, m3, m4, m5, m6⟩
    cases L2 with
    | nil =>
      rw [List.append_nil] at eL
      subst es
      rw [← eL] at hl1 hy hys m2
      exact ⟨⟨ys, eb, hy, hys⟩, hQ hl1 h' tk m1 m2 m4 m5 m6⟩
    | cons c L2 => simp at er
  · exact ⟨#[], rfl, [], L, rfl, by simp, by simp, rfl, by simp, upz, tk0, rfl, uzz, by simp, st, rfl, fun c o _ _ _ q => q, fun o q => q⟩
/-- between two turns -/
structure ZSt (z TI TO : Addr) (L : List Src) (i : Nat) (h : Heap) : Prop where
  hz : ∃ f0 fb, IsZ h z TI TO f0 fb ∧ (f0 = .none ∨ ∃ T : Nat, f0 = rawInt T)
  hTI : IsT h TI (L.map fun c => Value.ref c.it).toArray
  hTO : ∃ ys : Array Value, IsT h TO ys ∧ ys.size = L.length
  st : ∀ c ∈ L, c.St i h
theorem wpAny_free_any {s : Shared} {f0 : Value} {fb : Bool} {Q : Bool → Shared → Prop} (uzz : IsZ s.heap z TI TO f0 fb) (hf : f0 = .none ∨ ∃ T : Nat, f0 = rawInt T)
    (h : ∀ b h' fb', IsZ h' z TI TO f0 fb' → Heap.SameBut z s.heap h' → Q b { s with heap := h' }) : wpAny (model prog w) A (Builtin.SmallTypes.ownedTupleIsFree (.ref z)) Q E s := by
  unfold Builtin.SmallTypes.ownedTupleIsFree
  refine wpAny_bind (wpAny_field uzz rfl (x := f0) rfl ?_)
  rcases hf with rfl | ⟨T, rfl⟩
  · exact wpAny_pure (h true s.heap fb uzz (Heap.SameBut.refl _ _))
  · show wpAny _ _ (loadIfAlive ((T : Int).toNat) >>= _) _ _ _
    rw [Int.toNat_natCast]
    have al : ∀ {R : Option Obj → Shared → Prop}, R (s.heap.get? T) s → wpAny (model prog w) A (loadIfAlive T) R E s := fun q Γ p _ => by
      show Sem.wp _ _ (.loadIfAlive T .pure) _ _ _ _
      rw [Sem.wp_loadIfAlive]
      exact q
    refine wpAny_bind (al ?_)
    cases s.heap.get? T with
    | none => exact wpAny_pure (h true s.heap fb uzz (Heap.SameBut.refl _ _))
    | some o =>
      simp only [Option.isNone_some, Bool.false_eq_true, if_false]
      refine wpAny_bind (wpAny_field uzz rfl (x := .bool fb) rfl ?_)
      cases fb with
      | true =>
        rw [if_neg (show ¬ ((Value.bool true != Value.bool true) = true) from Bool.false_ne_true)]
        exact wpAny_pure (h false s.heap true uzz (Heap.SameBut.refl _ _))
      | false =>
        rw [if_pos (show (Value.bool false != Value.bool true) = true from rfl)]
        exact wpAny_bind (wpAny_setField_rec uzz (by simp) fun h₁ hz₁ hs₁ => wpAny_pure (h false h₁ true hz₁ hs₁))
theorem ZSt.over {h h' : Heap} (S : ZSep z TI TO L) (x : ZSt z TI TO L i h) (k : ∀ b o, b ≠ z → h.get? b = some o → h'.get? b = some o) (uzz : ∃ f0 fb, IsZ h' z TI TO f0 fb ∧ (f0 = .none ∨ ∃ T : Nat, f0 = rawInt T)) : ZSt z TI TO L i h' :=
  ⟨uzz, k _ _ S.TIz x.hTI, let ⟨ys, a, b⟩ := x.hTO; ⟨ys, k _ _ S.TOz a, b⟩, fun c hc => (x.st c hc).keep (fun o => k _ _ (S.itz c hc)) fun o => k _ _ (S.az c hc)⟩
theorem zipN_next {s : Shared} {Q : Value → Shared → Prop} (hh : A.handled = none) (S : ZSep z TI TO L) (hne : L ≠ []) (hL : L.length ≤ sizeLine) (hle : ∀ c ∈ L, i ≤ c.ws.length) (st : ZSt z TI TO L i s.heap)
    (hQ : (∀ c ∈ L, i < c.ws.length) → ∀ h' tk xs, ZSt z TI TO L (i + 1) h' → IsT h' s.heap.objs.size xs → xs.size = L.length → (∀ (k : Nat) (c : Src), L[k]? = some c → xs[k]? = c.ws[i]?) → But z TO L s.heap h' → h'.objs.size = s.heap.objs.size + 1 → Q (.ref s.heap.objs.size) { s with heap := h', toks := tk })
    (hE : (∃ c ∈ L, i = c.ws.length) → ∀ h' tk e, But z TO L s.heap h' → (∃ o, h'.get? e = some o ∧ o.cls = .type "StopIteration") → E (.ref e) { s with heap := h', toks := tk }) :
    wpAny (model prog w) A (Builtin.«zip.__next__» ⟨[.ref z], []⟩) (fun fin s' => ∃ v, fin = .done (.ret v) ∧ Q v s') E s := by
  obtain ⟨upz, g, d, tk0, os⟩ := s
  obtain ⟨⟨f0, fb, uzz, hf0⟩, hTI, hTO, hst⟩ := st
  show wpAny _ _ (field (.ref z) 2 >>= _) _ _ _
  refine wpAny_bind (wpAny_field uzz rfl (x := .bool false) rfl ?_)
  show wpAny _ _ (field (.ref z) 3 >>= _) _ _ _
  refine wpAny_bind (wpAny_field uzz rfl (x := .ref TI) rfl ?_)
  refine wpAny_bind (wpAny_seqItems hTI rfl ?_)
  dsimp only
  rw [if_neg (by simp [hne])]
  show wpAny _ _ (Builtin.SmallTypes.ownedTupleIsFree (.ref z) >>= _) _ _ _
  refine wpAny_bind (wpAny_free_any uzz hf0 fun b h1 fb1 hz1 hs1 => ?_)
  replace hs1 : Heap.SameBut z upz h1 := hs1
  have hTO1 : ∃ ys : Array Value, IsT h1 TO ys ∧ ys.size = L.length := let ⟨ys, a, b⟩ := hTO; ⟨ys, hs1.extBut _ _ S.TOz a, b⟩
  have hTI1 : IsT h1 TI (L.map fun c => Value.ref c.it).toArray := hs1.extBut _ _ S.TIz hTI
  have hst1 : ∀ c ∈ L, c.St i h1 := fun c hc => (hst c hc).keep (fun o => hs1.extBut _ _ (S.itz c hc)) fun o => hs1.extBut _ _ (S.az c hc)
  have bt1 : But z TO L upz h1 := fun c o a _ _ e => hs1.extBut _ _ a e
  have trans : ∀ {a b c : Heap}, But z TO L a b → But z TO L b c → But z TO L a c := fun x y c o q1 q2 q3 e => y c o q1 q2 q3 (x c o q1 q2 q3 e)
  cases b with
  | true =>
    simp only [if_true]
    refine wpAny_bind (wpAny_rule ?_)
    refine wpAny_bind (wpAny_field hz1 rfl (x := .ref TO) rfl ?_)
    dsimp only
    refine wpAny_bind (wpAny_setField_rec hz1 (by simp) fun h2 hz2 hs2 => ?_)
    replace hz2 : IsZ h2 z TI TO .ellipsis fb1 := hz2
    replace hs2 : Heap.SameBut z h1 h2 := hs2
    have bt2 : But z TO L upz h2 := trans bt1 fun c o a _ _ e => hs2.extBut _ _ a e
    have hTO2 : ∃ ys : Array Value, IsT h2 TO ys ∧ ys.size = L.length := let ⟨ys, a, b⟩ := hTO1; ⟨ys, hs2.extBut _ _ S.TOz a, b⟩
    have hst2 : ∀ c ∈ L, c.St i h2 := fun c hc => (hst1 c hc).keep (fun o => hs2.extBut _ _ (S.itz c hc)) fun o => hs2.extBut _ _ (S.az c hc)
    refine wpAny_bind (wpAny_mono (zip_free (Q := fun _ s' => (∀ c ∈ L, i < c.ws.length) ∧ ∃ h' tk, s' = ⟨h', g, d, tk, os⟩ ∧ ZMid z TI TO L L [] i fb1 h2 h') hh S hle hL hz2 hTO2 hst2 _ (fun c k b s' R hb => ?_) (fun al h' tk m => ⟨al, h', tk, rfl, m⟩) fun hno h' tk e bt uez => hE hno h' tk e (trans bt2 bt) uez) (fun r s' hr => ?_) fun _ _ x => x)
    · show wpAny _ _ ((Builtin.SmallTypes.nextOf (.ref c.it) >>= fun x => pure (some x)).onRaise _ >>= _) _ _ _
      refine wpAny_bind (wpAny_onRaise (wpAny_bind (wpAny_mono hb (fun x s1 h1 => wpAny_pure ?_) fun e s1 h1 => h1)))
      dsimp only
      refine wpAny_bind (wpAny_mono h1 (fun r s2 h2 => ?_) fun _ _ x => x)
      obtain ⟨kept, rfl, h2⟩ := h2
      dsimp only
      exact wpAny_bind (wpAny_mono h2 (fun _ s3 h3 => wpAny_bind (wpAny_letGo (wpAny_pure h3))) fun _ _ x => x)
    · obtain ⟨rfl, al, h3, tk, rfl, m⟩ := hr
      dsimp only
      obtain ⟨ys, hT3, hy, hys⟩ := m.to_
      refine wpAny_bind (wpAny_seqItems (s := ⟨h3, g, d, tk, os⟩) hT3 rfl ?_)
      dsimp only
      refine wpAny_bind (wpAny_newTuple ?_ (by rw [Array.length_toList]; omega))
      have hsz : h3.objs.size = upz.objs.size := by rw [m.sz, hs2.1, hs1.1]
      have hzlt : z < h3.objs.size := Heap.lt_size m.hz
      show wpAny _ _ (Builtin.SmallTypes.ownedTupleHandOut (.ref z) (.ref h3.objs.size) >>= _) _ _ ⟨h3.push { cls := .type "tuple", data := .seq ys.toList.toArray }, g, d, tk, os⟩
      refine wpAny_bind ?_
      unfold Builtin.SmallTypes.ownedTupleHandOut
      have hz₆ : IsZ (h3.push { cls := .type "tuple", data := .seq ys.toList.toArray }) z TI TO .ellipsis fb1 := Heap.get?_push_of_some _ m.hz
      refine wpAny_bind (wpAny_setField_rec hz₆ (by simp) fun h₇ hz₇ hs₇ => ?_)
      replace hz₇ : IsZ h₇ z TI TO (rawInt h3.objs.size) fb1 := hz₇
      refine wpAny_setField_rec hz₇ (by simp) fun h₈ hz₈ us₈z => ?_
      replace hz₈ : IsZ h₈ z TI TO (rawInt h3.objs.size) false := hz₈
      replace hs₇ : Heap.SameBut z (h3.push { cls := .type "tuple", data := .seq ys.toList.toArray }) h₇ := hs₇
      replace us₈z : Heap.SameBut z h₇ h₈ := us₈z
      have up : ∀ c o, c ≠ z → h3.get? c = some o → h₈.get? c = some o := fun c o c1 e => us₈z.extBut _ _ c1 (hs₇.extBut _ _ c1 (Heap.get?_push_of_some _ e))
      have hT₈ : IsT h₈ h3.objs.size ys := by
        have : (h3.push { cls := .type "tuple", data := .seq ys.toList.toArray }).get? h3.objs.size = some { cls := .type "tuple", data := .seq ys.toList.toArray } := Heap.get?_push_size _ rfl
        have := us₈z.extBut _ _ (Nat.ne_of_gt hzlt) (hs₇.extBut _ _ (Nat.ne_of_gt hzlt) this)
        simpa using this
      have hz8 : h₈.objs.size = h3.objs.size + 1 := by rw [us₈z.1, hs₇.1, Heap.size_push]
      rw [hsz] at hT₈ hz8
      refine wpAny_pure ⟨_, rfl, ?_⟩
      show Q (.ref h3.objs.size) ⟨h₈, g, d, tk, os⟩
      rw [hsz]
      refine hQ al h₈ tk ys ⟨⟨_, _, hz₈, .inr ⟨_, rfl⟩⟩, up _ _ S.TIz (m.bt _ _ S.TIz S.TITO (fun e uez => (S.itTI e uez).symm) (hs2.extBut _ _ S.TIz hTI1)), ⟨ys, up _ _ S.TOz hT3, hy⟩, fun c hc => (m.s1 c hc).keep (fun o => up _ _ (S.itz c hc)) fun o => up _ _ (S.az c hc)⟩ hT₈ hy hys ?_ hz8
      exact trans (trans bt2 m.bt) fun c o a _ _ e => up c o a e
  | false =>
    simp only [Bool.false_eq_true, if_false]
    refine wpAny_bind (wpAny_mono (zip_held (Q := fun _ s' => (∀ c ∈ L, i < c.ws.length) ∧ ∃ h' tk, s' = ⟨h', g, d, tk, os⟩ ∧ IsZ h' z TI TO f0 fb1 ∧ (∀ c ∈ L, c.St (i + 1) h') ∧ h'.objs.size = h1.objs.size ∧ But z TO L h1 h' ∧ (∀ o, h1.get? TO = some o → h'.get? TO = some o)) hh S hle hz1 hst1 _ (fun c b s' R hb => ?_) (fun al h' tk m1 m2 m3 m4 m5 => ⟨al, h', tk, rfl, m1, m2, m3, m4, m5⟩) fun hno h' tk e bt uez => hE hno h' tk e (trans bt1 bt) uez) (fun r s' hr => ?_) fun _ _ x => x)
    · refine wpAny_bind (wpAny_holding ?_)
      show wpAny _ _ (Builtin.SmallTypes.nextOf (.ref c.it) >>= fun x => pure (some x)) _ _ _
      exact wpAny_bind (wpAny_mono hb (fun x s1 h1 => wpAny_pure (wpAny_pure h1)) fun _ _ x => x)
    · obtain ⟨⟨ys, rfl, hy, hys⟩, al, h3, tk, rfl, m1, m2, m3, m4, m5⟩ := hr
      dsimp only
      refine wpAny_bind (wpAny_newTuple ?_ (by rw [Array.length_toList]; omega))
      have hsz : h3.objs.size = upz.objs.size := by rw [m3, hs1.1]
      have hT₈ : IsT (h3.push { cls := .type "tuple", data := .seq ys.toList.toArray }) h3.objs.size ys := by
        have : (h3.push { cls := .type "tuple", data := .seq ys.toList.toArray }).get? h3.objs.size = some { cls := .type "tuple", data := .seq ys.toList.toArray } := Heap.get?_push_size _ rfl
        simpa using this
      have up : ∀ c o, h3.get? c = some o → (h3.push { cls := .type "tuple", data := .seq ys.toList.toArray }).get? c = some o := fun c o e => Heap.get?_push_of_some _ e
      have hz8 : (h3.push { cls := .type "tuple", data := .seq ys.toList.toArray }).objs.size = h3.objs.size + 1 := Heap.size_push ..
      rw [hsz] at hT₈ hz8
      refine wpAny_pure ⟨_, rfl, ?_⟩
      show Q (.ref h3.objs.size) ⟨h3.push { cls := .type "tuple", data := .seq ys.toList.toArray }, g, d, tk, os⟩
      rw [hsz]
      refine hQ al _ tk ys ⟨⟨_, _, up _ _ m1, hf0⟩, up _ _ (m4 _ _ S.TIz S.TITO (fun e uez => (S.itTI e uez).symm) hTI1), (let ⟨zs, a, b⟩ := hTO1; ⟨zs, up _ _ (m5 _ a), b⟩), fun c hc => (m2 c hc).keep (fun o => up _ _) fun o => up _ _⟩ hT₈ hy hys ?_ hz8
      exact trans (trans bt1 m4) fun c o _ _ _ e => up c o e
end
end DL

namespace DL
open PySem PySem.Spec PyProof.Rows L2
section
variable {prog : Program} {w : World} {A : Around} {E : Value → Shared → Prop} {z TI TO : Addr} {L : List Src} {i : Nat}
theorem zipN_pyNext {s : Shared} {Q : Option Value → Shared → Prop} (hh : A.handled = none) (S : ZSep z TI TO L) (hne : L ≠ []) (hL : L.length ≤ sizeLine) (hle : ∀ c ∈ L, i ≤ c.ws.length) (st : ZSt z TI TO L i s.heap)
    (hQ : (∀ c ∈ L, i < c.ws.length) → ∀ h' tk xs, ZSt z TI TO L (i + 1) h' → IsT h' s.heap.objs.size xs → xs.size = L.length → (∀ (k : Nat) (c : Src), L[k]? = some c → xs[k]? = c.ws[i]?) → But z TO L s.heap h' → h'.objs.size = s.heap.objs.size + 1 → Q (some (.ref s.heap.objs.size)) { s with heap := h', toks := tk })
    (hE : (∃ c ∈ L, i = c.ws.length) → ∀ h' tk, But z TO L s.heap h' → Q none { s with heap := h', toks := tk }) :
    wpAny (model prog w) A (pyNext (.ref z)) Q E s := by
  have uTz : s.TypeIs (.ref z) "zip" := by obtain ⟨f0, fb, uzz, _⟩ := st.hz; exact ⟨_, uzz, rfl⟩
  unfold pyNext
  refine wpAny_bind (wpAny_attempt (wpAny_callSpecial?_slot (name := Str.ofString "__next__") uTz F.slot_zip_next
    (wpAny_call_entry F.slot_zip_next uTz F.entry_zip_next (zipN_next hh S hne hL hle st (fun al h' tk xs a b c d e f => wpAny_pure (hQ al h' tk xs a b c d e f)) fun hno h' tk e hk he => ?_) (F.args_zip_next_1 _))))
  obtain ⟨o, uoz, hc⟩ := he
  refine wpAny_bind (wpAny_isInstance (T := "StopIteration") (b := true) ⟨o, uoz, hc⟩ isSubtype_stop ?_)
  exact wpAny_pure (hE hno _ _ hk)
/-- the step ahead of the store -/
theorem zipN_go {s : Shared} {tg : Expr} {T : Addr} {Q : Unit → Shared → Prop} (S : ZSep z TI TO L) (st : ZSt z TI TO L i s.heap)
    (hQ : ∀ h', ZSt z TI TO L i h' → Heap.SameBut z s.heap h' → Q () { s with heap := h' }) : wpAny (model prog w) A (letOwnedTupleGo tg (.ref z) (.ref T)) Q E s := by
  have same : Q () s := hQ s.heap st (Heap.SameBut.refl _ _)
  obtain ⟨f0, fb, uzz, hf⟩ := st.hz
  have go : ∀ {M : Sem Unit}, M = (do
      let o ← load z
      match o.cls, o.data with
      | .type n, .fields vs =>
        if ["enumerate", "zip", "dict_itemiterator", "dict_reverseitemiterator", "odict_iterator", "itertools.zip_longest", "itertools.pairwise"].contains n && vs[0]? == some (rawInt T) then
          rule "for.unpacks-the-owned-tuple"
          updateField z 0 .none
      | _, _ => pure ()) → wpAny (model prog w) A M Q E s := by
    rintro _ rfl
    refine wpAny_bind (wpAny_load uzz ?_)
    show wpAny _ _ (if (["enumerate", "zip", "dict_itemiterator", "dict_reverseitemiterator", "odict_iterator", "itertools.zip_longest", "itertools.pairwise"].contains "zip" &&
        (#[f0, .bool fb, .bool false, .ref TI, .ref TO] : Array Value)[0]? == some (rawInt T)) = true then _ else _) Q E s
    split
    · refine wpAny_bind (wpAny_rule ?_)
      show wpAny _ _ (setField (.ref z) 0 .none) Q E s
      exact wpAny_setField_rec uzz (by simp) fun h' hz' hs' => hQ h' (st.over S (fun b o a e => hs'.extBut _ _ a e) ⟨.none, fb, hz', .inl rfl⟩) hs'
    · exact wpAny_pure same
  unfold letOwnedTupleGo
  cases tg <;> first
    | exact wpAny_pure same
    | exact go rfl
/-- what a zip's sources are ahead of the call -/
structure Sr where
  a : Addr
  tup : Bool
  ws : List Value
def Sr.Ob (c : Sr) (uz : Heap) : Prop := match c.tup with
  | true => uz.IsTuple c.a c.ws.toArray
  | false => uz.IsList c.a c.ws.toArray
def Sr.iter (c : Sr) : Obj := match c.tup with
  | true => { cls := .type "tuple_iterator", data := .fields #[.ref c.a, .int 0 0] }
  | false => { cls := .type "list_iterator", data := .fields #[.ref c.a, .int 0 0] }
theorem Sr.Ob.keep {c : Sr} {uz h' : Heap} (x : c.Ob uz) (k : ∀ o, uz.get? c.a = some o → h'.get? c.a = some o) : c.Ob h' := by
  obtain ⟨a, tup, ws⟩ := c
  cases tup with
  | true => exact Heap.IsTuple.at x k
  | false => exact Heap.IsList.at x k
theorem Sr.Ob.lt {c : Sr} {uz : Heap} (x : c.Ob uz) : c.a < uz.objs.size := by
  obtain ⟨a, tup, ws⟩ := c
  cases tup with
  | true => obtain ⟨o, uoz, _⟩ := id (show uz.IsTuple a ws.toArray from x); exact Heap.lt_size uoz
  | false => obtain ⟨o, uoz, _⟩ := id (show uz.IsList a ws.toArray from x); exact Heap.lt_size uoz
theorem Sr.pyIter {c : Sr} {s : Shared} {Q : Value → Shared → Prop} (x : c.Ob s.heap) (q : Q (.ref s.heap.objs.size) { s with heap := s.heap.push c.iter }) : wpAny (model prog w) A (PySem.pyIter (.ref c.a)) Q E s := by
  obtain ⟨a, tup, ws⟩ := c
  cases tup with
  | true => exact wpAny_pyIter_tuple x q
  | false => exact wpAny_pyIter_list x q
def Src.of (c : Sr) (it : Addr) : Src := ⟨it, c.a, c.tup, c.ws⟩
def mkL (b : Nat) (cs : List Sr) : List Src := cs.mapIdx fun k c => Src.of c (b + k)
theorem mkL_len {b : Nat} {cs : List Sr} : (mkL b cs).length = cs.length := by unfold mkL; simp
theorem mkL_get {b : Nat} {cs : List Sr} {k : Nat} : (mkL b cs)[k]? = cs[k]?.map fun c => Src.of c (b + k) := by unfold mkL; simp
theorem mkL_mem {b : Nat} {cs : List Sr} {d : Src} (uz : d ∈ mkL b cs) : ∃ k c, cs[k]? = some c ∧ d = Src.of c (b + k) := by
  obtain ⟨k, hk⟩ := List.mem_iff_getElem?.mp uz
  rw [mkL_get] at hk
  cases e : cs[k]? with
  | none => rw [e] at hk; cases hk
  | some c => rw [e] at hk; cases hk; exact ⟨k, c, e, rfl⟩
theorem mkL_its {b : Nat} {cs : List Sr} : (mkL b cs).map Src.it = List.range' b cs.length := by
  apply List.ext_getElem?
  intro k
  rw [List.getElem?_map, mkL_get]
  by_cases hk : k < cs.length
  · rw [List.getElem?_eq_getElem hk, List.getElem?_range' hk]
    simp [Src.of]
  · rw [List.getElem?_eq_none (by omega), List.getElem?_eq_none (by simp; omega)]
    rfl
theorem iterAllN {s : Shared} (cs : List Sr) {Q : List Value → Shared → Prop} (ob : ∀ c ∈ cs, c.Ob s.heap)
    (hQ : ∀ h', (∀ (k : Nat) (c : Sr), cs[k]? = some c → h'.get? (s.heap.objs.size + k) = some c.iter) → h'.objs.size = s.heap.objs.size + cs.length → (∀ b o, s.heap.get? b = some o → h'.get? b = some o) → Q ((List.range' s.heap.objs.size cs.length).map Value.ref) { s with heap := h' }) :
    wpAny (model prog w) A (Builtin.SmallTypes.iterAll (cs.map fun c => Value.ref c.a)) Q E s := by
  obtain ⟨upz, g, d, tk0, os⟩ := s
  unfold Builtin.SmallTypes.iterAll
  refine wpAny_bind (wpAny_forIn_list _ (fun rest (its : Array Value) s' => ∃ C1 C2, cs = C1 ++ C2 ∧ rest = (C2.map fun c => Value.ref c.a) ∧ its.toList = (List.range' upz.objs.size C1.length).map Value.ref ∧ ∃ h', s' = ⟨h', g, d, tk0, os⟩ ∧ (∀ (k : Nat) (c : Sr), C1[k]? = some c → h'.get? (upz.objs.size + k) = some c.iter) ∧ h'.objs.size = upz.objs.size + C1.length ∧ ∀ b o, upz.get? b = some o → h'.get? b = some o) _ ?_ ?_ _ _ ?_)
  · rintro x rest its s' ⟨C1, C2, e1, e2, e3, h', rfl, m1, m2, m3⟩
    cases C2 with
    | nil => simp at e2
    | cons c C2 =>
      simp only [List.map_cons, List.cons.injEq] at e2
      obtain ⟨rfl, e2⟩ := e2
      refine wpAny_bind (wpAny_holding (Sr.pyIter (c := c) (s := ⟨h', g, d, tk0, os⟩) ((ob c (by rw [e1]; simp)).keep (m3 _)) (wpAny_pure ?_)))
      have fr : c.iter.isFreed = false := by unfold Sr.iter; split <;> rfl
      refine ⟨C1 ++ [c], C2, by rw [e1]; simp, e2, ?_, _, rfl, ?_, ?_, ?_⟩
      · show (its.push (.ref h'.objs.size)).toList = _
        rw [Array.toList_push, e3, m2, List.length_append, List.length_singleton, List.range'_concat, List.map_append]
        simp
      · intro k e he
        by_cases hk : k < C1.length
        · rw [List.getElem?_append_left hk] at he
          exact Heap.get?_push_of_some _ (m1 k e he)
        · rw [List.getElem?_append_right (by omega)] at he
          have : k - C1.length = 0 := by
            have := (List.getElem?_eq_some_iff.mp he).1
            simp at this; omega
          rw [this] at he
          have hk : k = C1.length := by omega
          subst hk
          cases he
          rw [← m2]
          exact Heap.get?_push_size _ fr
      · show (h'.push c.iter).objs.size = _
        rw [Heap.size_push, m2, List.length_append]
        rfl
      · exact fun b o q => Heap.get?_push_of_some _ (m3 b o q)
  · rintro its s' ⟨C1, C2, e1, e2, e3, h', rfl, m1, m2, m3⟩
    cases C2 with
    | nil =>
      rw [List.append_nil] at e1
      subst e1
      refine wpAny_pure ?_
      rw [e3]
      exact hQ h' m1 m2 m3
    | cons c C2 => simp at e2
  · exact ⟨[], cs, rfl, rfl, rfl, upz, rfl, by simp, rfl, fun _ _ q => q⟩
theorem meets_zip_newN (cs : List Sr) (hL : cs.length ≤ sizeLine) :
    Meets (Builtin.«zip.__new__» ⟨.type "zip" :: cs.map fun c => Value.ref c.a, []⟩) (fun _ R s => (∀ c ∈ cs, c.Ob s.heap) ∧
      ∀ h', ZSt (s.heap.objs.size + cs.length + 2) (s.heap.objs.size + cs.length) (s.heap.objs.size + cs.length + 1) (mkL s.heap.objs.size cs) 0 h' → h'.objs.size = s.heap.objs.size + cs.length + 3 → (∀ b o, s.heap.get? b = some o → h'.get? b = some o) → R (.ok (.ret (.ref (s.heap.objs.size + cs.length + 2)))) { s with heap := h' }) :=
  .of_wp fun prog w A R s uz => by
    obtain ⟨upz, g, d, tk, os⟩ := s; obtain ⟨ob, uz⟩ := uz
    have hsub := sub_zip
    have nc : Builtin.SmallTypes.newClass "zip" ⟨.type "zip" :: cs.map fun c => Value.ref c.a, []⟩ = pure (.type "zip", cs.map fun c => Value.ref c.a) := by
      unfold Builtin.SmallTypes.newClass
      dsimp only
      have e1 : isType (.type "zip") = pure true := rfl
      rw [e1, hsub]
      rfl
    show wpAny _ _ (Builtin.SmallTypes.newClass "zip" _ >>= _) _ _ _
    rw [nc]
    refine wpAny_bind (wpAny_pure ?_)
    show wpAny _ _ (Builtin.SmallTypes.iterAll _ >>= _) _ _ _
    refine wpAny_bind (iterAllN cs ob fun h1 m1 m2 m3 => ?_)
    replace m2 : h1.objs.size = upz.objs.size + cs.length := m2
    replace m1 : ∀ (k : Nat) (c : Sr), cs[k]? = some c → h1.get? (upz.objs.size + k) = some c.iter := m1
    replace m3 : ∀ b o, upz.get? b = some o → h1.get? b = some o := m3
    refine wpAny_bind (wpAny_newTuple ?_ (by simpa using hL))
    refine wpAny_bind (wpAny_newTuple ?_ (by simpa using hL))
    show wpAny _ _ (newObj (.type "zip") (.fields #[.none, .bool false, .bool false, .ref _, .ref _]) >>= _) _ _ _
    refine wpAny_bind (wpAny_newObj_type ?_ (by size_fits))
    refine wpAny_pure ⟨_, rfl, ?_⟩
    have z1 : ∀ o, (h1.push o).objs.size = upz.objs.size + cs.length + 1 := fun o => by rw [Heap.size_push, m2]
    have z2 : ∀ o o', ((h1.push o).push o').objs.size = upz.objs.size + cs.length + 2 := fun o o' => by rw [Heap.size_push, z1]
    have z3 : ∀ o o' o'', (((h1.push o).push o').push o'').objs.size = upz.objs.size + cs.length + 3 := fun o o' o'' => by rw [Heap.size_push, z2]
    show R (.ok (.ret (.ref (Heap.push _ _).objs.size))) ⟨Heap.push (Heap.push (Heap.push h1 _) _) _, g, d, tk, os⟩
    dsimp only
    rw [z2, z1, m2]
    have up : ∀ (o o' o'' : Obj) b x, h1.get? b = some x → (((h1.push o).push o').push o'').get? b = some x := fun o o' o'' b x q => Heap.get?_push_of_some _ (Heap.get?_push_of_some _ (Heap.get?_push_of_some _ q))
    refine uz _ ⟨⟨.none, false, ?_, .inl rfl⟩, ?_, ⟨(((List.range' upz.objs.size cs.length).map Value.ref).map fun _ => Value.none).toArray, ?_, ?_⟩, fun c hc => ?_⟩ (z3 _ _ _) fun b o q => up _ _ _ b o (m3 b o q)
    · have := Heap.get?_push_size ((h1.push { cls := .type "tuple", data := .seq ((List.range' upz.objs.size cs.length).map Value.ref).toArray }).push { cls := .type "tuple", data := .seq (((List.range' upz.objs.size cs.length).map Value.ref).map fun _ => Value.none).toArray }) (o := { cls := .type "zip", data := .fields #[.none, .bool false, .bool false, .ref h1.objs.size, .ref (h1.push { cls := .type "tuple", data := .seq ((List.range' upz.objs.size cs.length).map Value.ref).toArray }).objs.size] }) rfl
      rw [z2, m2, z1] at this
      exact this
    · have := Heap.get?_push_size h1 (o := { cls := .type "tuple", data := .seq ((List.range' upz.objs.size cs.length).map Value.ref).toArray }) rfl
      rw [m2] at this
      have e : ((mkL upz.objs.size cs).map fun c => Value.ref c.it) = (List.range' upz.objs.size cs.length).map Value.ref := by rw [← mkL_its, List.map_map]; rfl
      show Heap.get? _ _ = some { cls := .type "tuple", data := .seq ((mkL upz.objs.size cs).map fun c => Value.ref c.it).toArray }
      rw [e]
      exact Heap.get?_push_of_some _ (Heap.get?_push_of_some _ this)
    · have := Heap.get?_push_size (h1.push { cls := .type "tuple", data := .seq ((List.range' upz.objs.size cs.length).map Value.ref).toArray }) (o := { cls := .type "tuple", data := .seq (((List.range' upz.objs.size cs.length).map Value.ref).map fun _ => Value.none).toArray }) rfl
      rw [z1] at this
      exact Heap.get?_push_of_some _ this
    · rw [mkL_len]; simp
    · obtain ⟨k, c0, hk, rfl⟩ := mkL_mem hc
      have o1 := fun (x y z : Obj) => up x y z _ _ (m1 k c0 hk)
      have o2 := fun (x y z : Obj) => (ob c0 (List.mem_of_getElem? hk)).keep fun o q => up x y z _ _ (m3 _ o q)
      obtain ⟨a, tup, ws⟩ := c0
      cases tup with
      | true => exact ⟨⟨_, o1 _ _ _, rfl, rfl⟩, o2 _ _ _⟩
      | false => exact ⟨⟨_, o1 _ _ _, rfl, rfl⟩, o2 _ _ _⟩
theorem mkL_sep {b : Nat} {cs : List Sr} (lt : ∀ c ∈ cs, c.a < b) : ZSep (b + cs.length + 2) (b + cs.length) (b + cs.length + 1) (mkL b cs) := by
  have hi : ∀ d ∈ mkL b cs, b ≤ d.it ∧ d.it < b + cs.length ∧ d.a < b := fun d hd => by
    obtain ⟨k, c, hk, rfl⟩ := mkL_mem hd
    have := (List.getElem?_eq_some_iff.mp hk).1
    exact ⟨Nat.le_add_right _ _, by show b + k < _; omega, lt c (List.mem_of_getElem? hk)⟩
  exact ⟨Nat.ne_of_lt (Nat.lt_add_of_pos_right (by decide)), Nat.ne_of_lt (Nat.lt_succ_self _), Nat.ne_of_lt (Nat.lt_succ_self _), by rw [mkL_its]; exact List.nodup_range',
    fun c hc => Nat.ne_of_lt (Nat.lt_of_lt_of_le (hi c hc).2.1 (Nat.le_add_right _ _)), fun c hc => Nat.ne_of_lt (hi c hc).2.1, fun c hc => Nat.ne_of_lt (Nat.lt_succ_of_lt (hi c hc).2.1),
    fun c hc => Nat.ne_of_lt (Nat.lt_of_lt_of_le (hi c hc).2.2 (Nat.le_trans (Nat.le_add_right _ _) (Nat.le_add_right _ _))), fun c hc => Nat.ne_of_lt (Nat.lt_of_lt_of_le (hi c hc).2.2 (Nat.le_trans (Nat.le_add_right _ _) (Nat.le_add_right _ _))),
    fun c hc d hd => Nat.ne_of_lt (Nat.lt_of_lt_of_le (hi c hc).2.2 (hi d hd).1)⟩
theorem call_zipN {s : Shared} (cs : List Sr) (hL : cs.length ≤ sizeLine) {Q : Value → Shared → Prop} (ob : ∀ c ∈ cs, c.Ob s.heap)
    (hQ : ∀ h', ZSt (s.heap.objs.size + cs.length + 2) (s.heap.objs.size + cs.length) (s.heap.objs.size + cs.length + 1) (mkL s.heap.objs.size cs) 0 h' → h'.objs.size = s.heap.objs.size + cs.length + 3 → (∀ b o, s.heap.get? b = some o → h'.get? b = some o) → Q (.ref (s.heap.objs.size + cs.length + 2)) { s with heap := h' }) :
    wpAny (model prog w) A (call (.type "zip") (cs.map fun c => Value.ref c.a)) Q E s := by
  refine callType_new F.called_zip (by decide) (typeCall_zipN _) (newCall_zipN _) (fun obj => args_initN obj _) F.entry_zip_new
    (meets_zip_newN cs hL) ⟨ob, fun h' st z k => ?_⟩
  obtain ⟨f0, fb, uzz, _⟩ := st.hz
  exact ⟨⟨_, uzz, rfl⟩, hQ h' st z k⟩
end
end DL

namespace DL
open PySem PySem.Spec PyProof.Rows L2
def Sq (K : PySem.W.Frag) (H : Hp) (p : Addr × Bool) (xs : List V) : Prop := match p.2 with
  | true => SqT K H p.1 xs
  | false => SqL K H p.1 xs
theorem Sq.mono {K : PySem.W.Frag} {H H' : Hp} (e : Same H H') {p : Addr × Bool} {xs : List V} (uz : Sq K H p xs) : Sq K H' p xs := by
  obtain ⟨a, t⟩ := p
  cases t with
  | true => exact SqT.mono e uz
  | false => exact e.seq uz
theorem vals_get : ∀ {xs : List V} {us : List Value}, xs.length = us.length → (∀ (k : Nat) (v : V) (u : Value), xs[k]? = some v → us[k]? = some u → RelV v u) → Vals xs us
  | [], [], _, _ => .nil
  | x :: xs, u :: us, uz, k => .cons (k 0 x u rfl rfl) (vals_get (by simpa using uz) fun j v w a b => k (j + 1) v w (by simpa using a) (by simpa using b))
  | [], _ :: _, uz, _ => by simp at uz
  | _ :: _, [], uz, _ => by simp at uz
/-- the lists and tuples as they stand at each turn, the items of one place in a new tuple -/
def ItzN (K : PySem.W.Frag) (as : List (Addr × Bool)) : It :=
  ⟨fun i H => ∀ p ∈ as, ∃ (xs : List V) (x : V), Sq K H p xs ∧ xs[i]? = some x,
    fun i H v H' => ∃ (T : Addr) (o : Obj) (xs : List V), v = .ref T ∧ H T = none ∧ o.dict = none ∧ H' = upd H T (.frz o (.tup xs)) ∧ xs.length = as.length ∧ ∀ (k : Nat) (p : Addr × Bool) (ys : List V), as[k]? = some p → Sq K H p ys → xs[k]? = ys[i]?,
    fun i H => (∀ p ∈ as, ∃ xs : List V, Sq K H p xs ∧ i ≤ xs.length) ∧ ∃ p ∈ as, ∃ xs : List V, Sq K H p xs ∧ xs.length ≤ i⟩
def Src.Itr (c : Src) (i : Nat) (uz : Heap) : Prop := match c.tup with
  | true => uz.IsTupleIter c.it c.a i
  | false => uz.IsListIter c.it c.a i
def Src.Ob (c : Src) (ws : List Value) (uz : Heap) : Prop := match c.tup with
  | true => uz.IsTuple c.a ws.toArray
  | false => uz.IsList c.a ws.toArray
theorem Src.st_of {c : Src} {ws : List Value} {i : Nat} {uz : Heap} (a : c.Itr i uz) (b : c.Ob ws uz) : Src.St { c with ws := ws } i uz := by
  obtain ⟨it, ad, tup, ws0⟩ := c
  cases tup with
  | true => exact ⟨a, b⟩
  | false => exact ⟨a, b⟩
theorem Src.St.itr {c : Src} {i : Nat} {uz : Heap} (a : c.St i uz) : c.Itr i uz := by
  obtain ⟨it, ad, tup, ws0⟩ := c
  cases tup with
  | true => exact a.1
  | false => exact a.1
theorem Src.itr_ws {c : Src} {ws : List Value} {i : Nat} {uz : Heap} (a : Src.Itr { c with ws := ws } i uz) : c.Itr i uz := a
structure ZTn (z TI TO : Addr) (L : List Src) (i : Nat) (uz : Heap) : Prop where
  hz : ∃ f0 fb, IsZ uz z TI TO f0 fb ∧ (f0 = .none ∨ ∃ T : Nat, f0 = rawInt T)
  hTI : IsT uz TI (L.map fun c => Value.ref c.it).toArray
  hTO : ∃ ys : Array Value, IsT uz TO ys ∧ ys.size = L.length
  st : ∀ c ∈ L, c.Itr i uz
section
variable {z TI TO : Addr} {L : List Src} {i : Nat}
theorem ZSt.tn {uz : Heap} (x : ZSt z TI TO L i uz) : ZTn z TI TO L i uz := ⟨x.hz, x.hTI, x.hTO, fun c hc => (x.st c hc).itr⟩
/-- with what the sources hold -/
def wsOf (f : Src → List Value) (L : List Src) : List Src := L.map fun c => { c with ws := f c }
theorem wsOf_it {f : Src → List Value} : (wsOf f L).map Src.it = L.map Src.it := by unfold wsOf; simp
theorem wsOf_ref {f : Src → List Value} : (wsOf f L).map (fun c => Value.ref c.it) = L.map fun c => Value.ref c.it := by unfold wsOf; simp
theorem wsOf_mem {f : Src → List Value} {d : Src} (uz : d ∈ wsOf f L) : ∃ c ∈ L, d = { c with ws := f c } := by
  obtain ⟨c, hc, e⟩ := List.mem_map.mp uz
  exact ⟨c, hc, e.symm⟩
theorem ZTn.st' {uz : Heap} (x : ZTn z TI TO L i uz) {f : Src → List Value} (o : ∀ c ∈ L, c.Ob (f c) uz) : ZSt z TI TO (wsOf f L) i uz :=
  ⟨x.hz, by rw [wsOf_ref]; exact x.hTI, by obtain ⟨ys, a, b⟩ := x.hTO; exact ⟨ys, a, by unfold wsOf; simpa using b⟩, fun d hd => by
    obtain ⟨c, hc, rfl⟩ := wsOf_mem hd
    exact Src.st_of (x.st c hc) (o c hc)⟩
theorem ZSt.tn' {uz : Heap} {f : Src → List Value} (x : ZSt z TI TO (wsOf f L) i uz) : ZTn z TI TO L i uz :=
  ⟨x.hz, by have := x.hTI; rw [wsOf_ref] at this; exact this, by obtain ⟨ys, a, b⟩ := x.hTO; exact ⟨ys, a, by unfold wsOf at b; simpa using b⟩, fun c hc => Src.itr_ws (x.st _ (List.mem_map_of_mem (f := fun c => { c with ws := f c }) hc)).itr⟩
theorem ZSep.ws {f : Src → List Value} (S : ZSep z TI TO L) : ZSep z TI TO (wsOf f L) := by
  refine ⟨S.TIz, S.TOz, S.TITO, by rw [wsOf_it]; exact S.nd, ?_, ?_, ?_, ?_, ?_, ?_⟩
  all_goals (intro c' hc'; obtain ⟨c, hc, rfl⟩ := wsOf_mem hc'; clear hc')
  · exact S.itz c hc
  · exact S.itTI c hc
  · exact S.itTO c hc
  · exact S.az c hc
  · exact S.aTO c hc
  · intro d' hd'
    obtain ⟨d, hd, rfl⟩ := wsOf_mem hd'
    exact S.ai c hc d hd
def fpZ (z TI TO : Addr) (L : List Src) : List Addr := z :: TI :: TO :: L.map Src.it
theorem But.fp {uz h' : Heap} {f : Src → List Value} (b : But z TO (wsOf f L) uz h') {c : Addr} {o : Obj} (hc : c ∉ fpZ z TI TO L) (e : uz.get? c = some o) : h'.get? c = some o := by
  refine b c o (fun q => hc (by simp [fpZ, q])) (fun q => hc (by simp [fpZ, q])) (fun d' hd' q => hc ?_) e
  obtain ⟨d, hd, rfl⟩ := wsOf_mem hd'
  rw [q]
  exact List.mem_cons_of_mem _ (List.mem_cons_of_mem _ (List.mem_cons_of_mem _ (List.mem_map.mpr ⟨d, hd, rfl⟩)))
theorem src_obj {X : Cx} {pins : List (Addr × Obj)} {σ : L2.St} {H : Hp} {s : Shared} (I : Inv X pins σ H s) (c : Src) {xs : List V} (uz : Sq X.K H (c.a, c.tup) xs) : ∃ ws : List Value, c.Ob ws s.heap ∧ Vals xs ws := by
  obtain ⟨it, ad, tup, ws0⟩ := c
  cases tup with
  | true =>
    obtain ⟨ws, r, p, _⟩ := I.tuple uz
    exact ⟨ws, p, r⟩
  | false =>
    obtain ⟨ws, r, p, _⟩ := I.list uz
    exact ⟨ws, p.isList, r⟩
theorem sq_inj {X : Cx} {pins : List (Addr × Obj)} {σ : L2.St} {H : Hp} {s : Shared} (I : Inv X pins σ H s) {p : Addr × Bool} {xs ys : List V} (uz : Sq X.K H p xs) (h2 : Sq X.K H p ys) : xs = ys := by
  obtain ⟨a, t⟩ := p
  cases t with
  | true => exact I.tuple_inj uz h2
  | false => exact I.list_inj uz h2
open Classical in
theorem turn_zipN {P : Program} {w : World} {K : PySem.W.Frag} {tg : Expr} (S : ZSep z TI TO L) (hne : L ≠ []) (hL : L.length ≤ sizeLine) :
    L2.Turn P w K tg (ItzN K (L.map fun c => (c.a, c.tup))) (fpZ z TI TO L) z (fun i uz => ZTn z TI TO L i uz) where
  mem := by simp [fpZ]
  obj := fun i uz st b hb => by
    obtain ⟨⟨f0, fb, uzz, _⟩, hTI, ⟨ys, hTO, _⟩, hst⟩ := st
    simp only [fpZ, List.mem_cons, List.mem_map] at hb
    rcases hb with rfl | rfl | rfl | ⟨c, hc, rfl⟩
    · exact ⟨_, uzz, fun v q => nomatch q⟩
    · exact ⟨_, hTI, fun v q => nomatch q⟩
    · exact ⟨_, hTO, fun v q => nomatch q⟩
    · have := hst c hc
      obtain ⟨it, a, tup, ws⟩ := c
      cases tup with
      | true => obtain ⟨o, e, _, d⟩ := (show uz.IsTupleIter it a i from this); exact ⟨o, e, fun v q => by rw [d] at q; cases q⟩
      | false => obtain ⟨o, e, _, d⟩ := (show uz.IsListIter it a i from this); exact ⟨o, e, fun v q => by rw [d] at q; cases q⟩
  keep := fun i uz h' st k => by
    obtain ⟨⟨f0, fb, uzz, hf⟩, hTI, ⟨ys, hTO, hy⟩, hst⟩ := st
    refine ⟨⟨f0, fb, k z (by simp [fpZ]) _ uzz, hf⟩, k TI (by simp [fpZ]) _ hTI, ⟨ys, k TO (by simp [fpZ]) _ hTO, hy⟩, fun c hc => ?_⟩
    have kc := k c.it (List.mem_cons_of_mem _ (List.mem_cons_of_mem _ (List.mem_cons_of_mem _ (List.mem_map_of_mem (f := Src.it) hc))))
    have := hst c hc
    obtain ⟨it, a, tup, ws⟩ := c
    cases tup with
    | true => exact Heap.IsTupleIter.at this kc
    | false => exact Heap.IsListIter.at this kc
  item := by
    intro X uPz hw hK hc i pins s σ H E I hf st hg
    subst uPz hw hK
    have hob : ∀ c ∈ L, ∃ (ws : List Value) (xs : List V), Sq X.K H (c.a, c.tup) xs ∧ c.Ob ws s.heap ∧ Vals xs ws ∧ i < xs.length := fun c hc' => by
      obtain ⟨xs, x, q, e⟩ := hg (c.a, c.tup) (List.mem_map_of_mem (f := fun c : Src => (c.a, c.tup)) hc')
      obtain ⟨ws, o, r⟩ := src_obj I c q
      exact ⟨ws, xs, q, o, r, (List.getElem?_eq_some_iff.mp e).1⟩
    let f : Src → List Value := fun c => if uz : c ∈ L then Classical.choose (hob c uz) else []
    let g : Src → List V := fun c => if uz : c ∈ L then Classical.choose (Classical.choose_spec (hob c uz)) else []
    have hfg : ∀ c ∈ L, Sq X.K H (c.a, c.tup) (g c) ∧ c.Ob (f c) s.heap ∧ Vals (g c) (f c) ∧ i < (g c).length := fun c hc' => by
      simp only [f, g, dif_pos hc']
      exact Classical.choose_spec (Classical.choose_spec (hob c hc'))
    have SW := S.ws (f := f)
    have hlen : (wsOf f L).length = L.length := by simp [wsOf]
    have hi : ∀ c ∈ wsOf f L, i < c.ws.length := fun d hd => by
      obtain ⟨c, hc', rfl⟩ := wsOf_mem hd
      obtain ⟨_, _, r, q⟩ := hfg c hc'
      show i < (f c).length
      rw [← r.length]; exact q
    refine zipN_pyNext (I.ok.hd hc) SW (fun e => hne (List.map_eq_nil_iff.mp e)) (by rw [hlen]; exact hL) (fun c hc' => Nat.le_of_lt (hi c hc')) (st.st' fun c hc' => (hfg c hc').2.1) (fun _ h' tk us st' hT hsz hus bt hos => ?_) fun ⟨c, hc', e⟩ h' tk _ => absurd (hi c hc') (by omega)
    refine ⟨_, rfl, zipN_go (s := { s with heap := h', toks := tk }) SW st' fun h'' st'' sb => ?_⟩
    replace sb : Heap.SameBut z h' h'' := sb
    obtain ⟨f0, fb, uzz, _⟩ := st.hz
    have hzl : z < s.heap.objs.size := Heap.lt_size uzz
    have hT2 : IsT h'' s.heap.objs.size us := (sb.2 _ (Nat.ne_of_gt hzl)).trans hT
    let vs : List V := L.map fun c => ((g c)[i]?).getD V.non
    have hvl : vs.length = L.length := by simp [vs]
    have hvk : ∀ (k : Nat) (c : Src), L[k]? = some c → vs[k]? = (g c)[i]? := fun k c e => by
      have hc' := List.mem_of_getElem? e
      simp only [vs, List.getElem?_map, e, Option.map_some]
      rw [List.getElem?_eq_getElem (hfg c hc').2.2.2]
      rfl
    have hvals : Vals vs us.toList := vals_get (by rw [hvl]; have := hsz.trans hlen; simpa using this.symm) fun k v u e1 e2 => by
      have hk : k < L.length := by rw [← hvl]; exact (List.getElem?_eq_some_iff.mp e1).1
      have eL : L[k]? = some L[k] := List.getElem?_eq_getElem hk
      have hc' := List.mem_of_getElem? eL
      have e3 := hvk k _ eL
      have e4 := hus k { L[k] with ws := f L[k] } (by simp [wsOf, hk])
      rw [e3] at e1
      rw [Array.getElem?_toList, e4] at e2
      obtain ⟨u', q1, q2⟩ := (hfg _ hc').2.2.1.get e1
      have e2 : (f L[k])[i]? = some u := e2
      rw [e2] at q1
      cases q1
      exact q2
    have hTl : H s.heap.objs.size = none := I.hok.fresh (Nat.le_refl _)
    have new : ObjOk X.prog X.w (upd H s.heap.objs.size (.frz { cls := Value.type "tuple", data := Data.seq us } (.tup vs))) h'' s.heap.objs.size (.frz { cls := Value.type "tuple", data := Data.seq us } (.tup vs)) :=
      ⟨hT2, by rw [hvl]; exact hL, us.toList, hvals, { cls := Value.type "tuple", data := Data.seq us }, hT2, rfl, 0, by simp⟩
    have hzf : z ∈ fpZ z TI TO L := by simp [fpZ]
    have I1 : Inv X pins σ (upd H s.heap.objs.size (.frz { cls := Value.type "tuple", data := Data.seq us } (.tup vs))) { s with heap := h'', toks := tk } :=
      I.turnedNew (t' := tk) (ch := fpZ z TI TO L) (fun c o hb q => (sb.2 c (fun q' => hb (by rw [q']; exact hzf))).trans (bt.fp hb q)) hf (Nat.le_refl _) new
    refine ⟨.ref s.heap.objs.size, _, I1, rfl, ⟨_, _, vs, rfl, hTl, rfl, rfl, by simp [vs], fun k p ys e q => ?_⟩, st''.tn', fun c hcm => ?_⟩
    · rw [List.getElem?_map] at e
      cases eL : L[k]? with
      | none => rw [eL] at e; cases e
      | some c =>
        rw [eL] at e
        cases e
        rw [hvk k c eL, sq_inj I q (hfg c (List.mem_of_getElem? eL)).1]
    · have ultz : c < s.heap.objs.size := by
        simp only [fpZ, List.mem_cons, List.mem_map] at hcm
        obtain ⟨_, hTI, ⟨ys, hTO, _⟩, hst⟩ := st
        rcases hcm with rfl | rfl | rfl | ⟨d, hd, rfl⟩
        · exact hzl
        · exact Heap.lt_size hTI
        · exact Heap.lt_size hTO
        · have := hst d hd
          obtain ⟨it, a, tup, ws⟩ := d
          cases tup with
          | true => obtain ⟨o, e, _⟩ := (show s.heap.IsTupleIter it a i from this); exact Heap.lt_size e
          | false => obtain ⟨o, e, _⟩ := (show s.heap.IsListIter it a i from this); exact Heap.lt_size e
      rw [upd_ne (Nat.ne_of_lt ultz)]
      exact (hf c hcm).1
  done := by
    intro X uPz hw hK hc i pins s σ H E I hf st hg
    subst uPz hw hK
    obtain ⟨hg, p0, hp0, xs0, hq0, hl0⟩ := hg
    have hob : ∀ c ∈ L, ∃ (ws : List Value) (xs : List V), Sq X.K H (c.a, c.tup) xs ∧ c.Ob ws s.heap ∧ Vals xs ws ∧ i ≤ xs.length := fun c hc' => by
      obtain ⟨xs, q, e⟩ := hg (c.a, c.tup) (List.mem_map_of_mem (f := fun c : Src => (c.a, c.tup)) hc')
      obtain ⟨ws, o, r⟩ := src_obj I c q
      exact ⟨ws, xs, q, o, r, e⟩
    let f : Src → List Value := fun c => if uz : c ∈ L then Classical.choose (hob c uz) else []
    have hfg : ∀ c ∈ L, ∃ xs : List V, Sq X.K H (c.a, c.tup) xs ∧ c.Ob (f c) s.heap ∧ Vals xs (f c) ∧ i ≤ xs.length := fun c hc' => by
      simp only [f, dif_pos hc']
      exact Classical.choose_spec (hob c hc')
    have SW := S.ws (f := f)
    have hlen : (wsOf f L).length = L.length := by simp [wsOf]
    refine zipN_pyNext (I.ok.hd hc) SW (fun e => hne (List.map_eq_nil_iff.mp e)) (by rw [hlen]; exact hL) (fun d hd => ?_) (st.st' fun c hc' => (let ⟨_, _, b, _⟩ := hfg c hc'; b)) (fun al => ?_) fun _ h' tk bt => ⟨rfl, ?_⟩
    · obtain ⟨c, hc', rfl⟩ := wsOf_mem hd
      obtain ⟨xs, _, _, r, q⟩ := hfg c hc'
      show i ≤ (f c).length
      rw [← r.length]; exact q
    · exfalso
      obtain ⟨c, hc', rfl⟩ := List.mem_map.mp hp0
      obtain ⟨xs, q, _, r, _⟩ := hfg c hc'
      have := al _ (List.mem_map_of_mem (f := fun c => ({ c with ws := f c } : Src)) hc')
      have this : i < (f c).length := this
      rw [← r.length, sq_inj I q hq0] at this
      omega
    · exact I.turnedL (t' := tk) (ch := fpZ z TI TO L) (fun c o hb q => bt.fp hb q) hf
  self := fun A i s Q E st uz => by
    obtain ⟨f0, fb, uzz, _⟩ := st.hz
    have hTy : s.TypeIs (.ref z) "zip" := ⟨_, uzz, rfl⟩
    refine wpAny_pyIter_slot hTy F.slot_zip_iter (wpAny_call_entry F.slot_zip_iter hTy F.entry_zip_iter ?_ (F.args_zip_iter_1 _))
    show wpAny _ _ (ret (.ref z)) _ _ s
    exact wpAny_pure ⟨_, rfl, "zip", _, hTy, F.slot_zip_next.lookup, uz⟩
end
end DL

namespace DL
open PySem PySem.Spec PyProof.Rows L2
/-! ### zip of any number: what is told -/
def SrcsD (K : PySem.W.Frag) (h : Hp) : List (Addr × Bool) → List (List D) → Prop
  | [], dss => dss = []
  | p :: as, dss => ∃ ds r xs, dss = ds :: r ∧ Sq K h p xs ∧ RpL K h ds xs ∧ SrcsD K h as r
def itemsDs : List D → Option (List (List D))
  | [] => some []
  | d :: ds => match itemsD d with
    | some xs => (itemsDs ds).map (xs :: ·)
    | none => none
def minLen : List (List D) → Nat
  | [] => 0
  | [ds] => ds.length
  | ds :: e :: r => min ds.length (minLen (e :: r))
def zrow (dss : List (List D)) (i : Nat) : List D := dss.map fun ds => ds.getD i .non
def zipND (dss : List (List D)) : List D := (List.range (minLen dss)).map fun i => .tup (zrow dss i)
theorem zipND_len (dss : List (List D)) : (zipND dss).length = minLen dss := by unfold zipND; simp
theorem zipND_get {dss : List (List D)} {i : Nat} {d : D} (h : (zipND dss)[i]? = some d) : d = .tup (zrow dss i) ∧ i < minLen dss := by
  have hl := (List.getElem?_eq_some_iff.mp h).1
  rw [zipND_len] at hl
  unfold zipND at h
  rw [List.getElem?_map, List.getElem?_range hl] at h
  cases h
  exact ⟨rfl, hl⟩
theorem minLen_le : ∀ {dss : List (List D)} {ds : List D}, ds ∈ dss → minLen dss ≤ ds.length
  | [ds], _, h => by rw [List.mem_singleton.mp h]; exact Nat.le_refl _
  | ds :: e :: r, x, h => by
    rcases List.mem_cons.mp h with h | h
    · rw [h]; exact Nat.min_le_left _ _
    · exact Nat.le_trans (Nat.min_le_right _ _) (minLen_le h)
theorem minLen_eq : ∀ {dss : List (List D)}, dss ≠ [] → ∃ ds ∈ dss, ds.length = minLen dss
  | [], h => (h rfl).elim
  | [ds], _ => ⟨ds, by simp, rfl⟩
  | ds :: e :: r, _ => by
    obtain ⟨x, hx, e1⟩ := minLen_eq (dss := e :: r) (by simp)
    by_cases hl : ds.length ≤ minLen (e :: r)
    · exact ⟨ds, by simp, (Nat.min_eq_left hl).symm⟩
    · exact ⟨x, List.mem_cons_of_mem _ hx, by rw [e1]; exact (Nat.min_eq_right (by omega)).symm⟩
section
variable {K : PySem.W.Frag}
theorem SrcsD.mono {h u'z : Hp} (e : Same h u'z) : ∀ {as : List (Addr × Bool)} {dss : List (List D)}, SrcsD K h as dss → SrcsD K u'z as dss
  | [], _, z => z
  | _ :: _, _, ⟨ds, r, xs, e1, e2, e3, e4⟩ => ⟨ds, r, xs, e1, e2.mono e, e3.mono e, e4.mono e⟩
theorem SrcsD.len {h : Hp} : ∀ {as : List (Addr × Bool)} {dss : List (List D)}, SrcsD K h as dss → as.length = dss.length
  | [], _, z => by rw [show _ = [] from z]; rfl
  | _ :: _, _, ⟨ds, r, xs, e1, _, _, e4⟩ => by rw [e1, List.length_cons, List.length_cons, e4.len]
theorem SrcsD.of_as {h : Hp} : ∀ {as : List (Addr × Bool)} {dss : List (List D)}, SrcsD K h as dss → ∀ p ∈ as, ∃ ds ∈ dss, ∃ xs, Sq K h p xs ∧ RpL K h ds xs
  | [], _, _, p, upz => nomatch upz
  | q :: as, _, ⟨ds, r, xs, e1, e2, e3, e4⟩, p, upz => by
    subst e1
    rcases List.mem_cons.mp upz with rfl | upz
    · exact ⟨ds, by simp, xs, e2, e3⟩
    · obtain ⟨ds', h1, z⟩ := SrcsD.of_as e4 p upz
      exact ⟨ds', List.mem_cons_of_mem _ h1, z⟩
theorem SrcsD.of_ds {h : Hp} : ∀ {as : List (Addr × Bool)} {dss : List (List D)}, SrcsD K h as dss → ∀ ds ∈ dss, ∃ p ∈ as, ∃ xs, Sq K h p xs ∧ RpL K h ds xs
  | [], dss, z, ds, udz => by rw [show dss = [] from z] at udz; cases udz
  | q :: as, _, ⟨ds, r, xs, e1, e2, e3, e4⟩, d, udz => by
    subst e1
    rcases List.mem_cons.mp udz with rfl | udz
    · exact ⟨q, by simp, xs, e2, e3⟩
    · obtain ⟨ds', h1, z⟩ := SrcsD.of_ds e4 d udz
      exact ⟨ds', List.mem_cons_of_mem _ h1, z⟩
theorem Sq.up {H : Hp} {M : Addr → Prop} {p : Addr × Bool} {xs : List V} (h : Sq K (wo H M) p xs) : Sq K H p xs := h.mono wo_le
/-- the items of one place -/
theorem srcs_row {h : Hp} {Hm : Hp} {i : Nat} : ∀ {as : List (Addr × Bool)} {dss : List (List D)} {xs : List V}, SrcsD K h as dss → Same h Hm → i < minLen dss ∨ dss = [] → xs.length = as.length →
    (∀ (k : Nat) (p : Addr × Bool) (ys : List V), as[k]? = some p → Sq K h p ys → xs[k]? = ys[i]?) → RpL K Hm (zrow dss i) xs
  | [], _, xs, z, s, _, hl, _ => by
    rw [show _ = [] from z]
    exact List.length_eq_zero_iff.mp hl
  | p :: as, _, xs, ⟨ds, r, ys, e1, e2, e3, e4⟩, s, hi, hl, hx => by
    subst e1
    have hi : i < minLen (ds :: r) := hi.resolve_right (by simp)
    cases xs with
    | nil => simp at hl
    | cons x xs =>
      have h0 := hx 0 p ys rfl e2
      have udz : i < ds.length := Nat.lt_of_lt_of_le hi (minLen_le (by simp))
      obtain ⟨x', q1, q2⟩ := e3.get (List.getElem?_eq_getElem udz)
      rw [q1] at h0
      cases h0
      refine ⟨x, xs, rfl, ?_, srcs_row e4 s ?_ (by simpa using hl) fun k q zs a b => hx (k + 1) q zs (by simpa using a) b⟩
      · show Rp K Hm (ds.getD i D.non) x
        rw [List.getD_eq_getElem?_getD, List.getElem?_eq_getElem udz]
        exact q2.mono s
      · cases r with
        | nil => exact .inr rfl
        | cons e r => exact .inl (Nat.lt_of_lt_of_le hi (Nat.min_le_right _ _))
theorem walkD_zipN {as : List (Addr × Bool)} {dss : List (List D)} (hne : dss ≠ []) : WalkD K (ItzN K as) (zipND dss) (fun h => SrcsD K h as dss) where
  stop := fun H M z => by
    rw [zipND_len]
    refine ⟨fun p upz => ?_, ?_⟩
    · obtain ⟨ds, h1, xs, h2, h3⟩ := z.of_as p upz
      exact ⟨xs, h2.up, by rw [h3.len]; exact minLen_le h1⟩
    · obtain ⟨ds, h1, e⟩ := minLen_eq hne
      obtain ⟨p, upz, xs, h2, h3⟩ := z.of_ds ds h1
      exact ⟨p, upz, xs, h2.up, by rw [h3.len, e]; exact Nat.le_refl _⟩
  go := fun i d H M q z p upz => by
    obtain ⟨ds, h1, xs, h2, h3⟩ := z.of_as p upz
    have hi := (zipND_get q).2
    have hl : i < xs.length := by rw [h3.len]; exact Nat.lt_of_lt_of_le hi (minLen_le h1)
    exact ⟨xs, xs[i], h2.up, List.getElem?_eq_getElem hl⟩
  yld := fun i d x H H' F vs es T q m o y => by
    obtain ⟨p, ob, xs, e1, upz, udz, e2, e3, e4⟩ := y
    obtain ⟨q1, q2⟩ := zipND_get q
    subst e1; subst e2; subst q1
    obtain ⟨o', s, hw⟩ := o.new (o := .frz ob (.tup xs)) (m.and fun h u'z s z => SrcsD.mono s z) upz
    exact o'.to ⟨o'.t, p, xs, rfl, .inl ⟨ob, hw, udz⟩, srcs_row o.t.2 s (.inl q2) e3 fun k p' ys a b => e4 k p' ys a b.up⟩
/-- the arguments of a zip -/
theorem srcs_args {h : Hp} : ∀ {es : List D} {dss : List (List D)} {vs : List V}, itemsDs es = some dss → RpL K h es vs → ∃ as : List (Addr × Bool), vs = as.map (fun p => V.ref p.1) ∧ SrcsD K h as dss
  | [], _, vs, e, r => by cases e; exact ⟨[], r, rfl⟩
  | d :: es, dss, vs, e, ⟨y, ys, e1, e2, e3⟩ => by
    unfold itemsDs at e
    cases q : itemsD d with
    | none => rw [q] at e; cases e
    | some xs =>
      rw [q] at e
      cases q2 : itemsDs es with
      | none => rw [q2] at e; cases e
      | some r =>
        rw [q2] at e
        cases e
        obtain ⟨as, h1, h2⟩ := srcs_args q2 e3
        cases d with
        | lst ds =>
          cases q
          obtain ⟨a, us, k1, k2, k3⟩ := e2
          exact ⟨(a, false) :: as, by rw [e1, h1, k1]; rfl, _, r, us, rfl, SqL.of k2, k3, h2⟩
        | tup ds =>
          cases q
          obtain ⟨a, us, k1, k2, k3⟩ := e2
          exact ⟨(a, true) :: as, by rw [e1, h1, k1]; rfl, _, r, us, rfl, k2.sq, k3, h2⟩
        | non => cases q
        | bl b => cases q
        | int i => cases q
        | str s => cases q
        | ins C fs => cases q
        | dic kvs => cases q
        | scr ns => cases q
        | prs ds => cases q
end
/-! ### the calls -/
section
variable {M : Model} {A : Around} {E : Value → Shared → Prop} {s : Shared} {Q : Value → Shared → Prop}
theorem keeper_type {T : String} {h : Heap} : ∃ k, (k = Keeper.frame ∨ k = Keeper.machine ∨ k = Keeper.boundFrame) ∧ PySem.W.Looks M h (keeperOf (.type T)) k := ⟨.machine, .inr (.inl rfl), .of_pure rfl⟩
/-- T(*e) -/
theorem callWith_lone {T : String} {e : Expr} {p pos : Pos} {env : Env} (h : wpAny M A (eval e env) (fun v s₁ => PySem.W.StarOf M A E v (fun vs s₂ => True ∧ wpAny M A (call (.type T) vs) Q E s₂) s₁) E s)
    (he : starEach [.Starred e p] env = [(true, eval e env)] := by rfl) : wpAny M A (callWith pos (.type T) [] (backTo pos (starEach [.Starred e p] env)) []) Q E s := by
  rw [he]
  exact PySem.W.ks_call (P := fun _ => True) rfl (fun h _ => keeper_type) (PySem.W.ks_lone h)
/-- T(*e, ..) with something behind -/
theorem evalArgs_more {f : Value} {x y : Bool × Sem Value} {rest : List (Bool × Sem Value)} {Q : Args → Shared → Prop} (h : wpAny M A (spliced (x :: y :: rest)) (fun vs s' => Q ⟨vs, []⟩ s') E s) : wpAny M A (evalArgs f true (x :: y :: rest) []) Q E s := by
  obtain ⟨b, x⟩ := x
  cases b
  · exact PySem.Calls.evalArgs_plain h
  · unfold evalArgs
    show wpAny M A (spliced ((true, x) :: y :: rest) >>= _) Q E s
    refine wpAny_bind (wpAny_mono h (fun vs s' u'z => ?_) fun _ _ x => x)
    refine wpAny_holding ?_
    exact wpAny_bind (wpAny_pure (wpAny_bind (wpAny_pure (wpAny_pure u'z))))
theorem callWith_more {T : String} {e e2 : Expr} {rest : List Expr} {pos : Pos} {env : Env} (h : wpAny M A (spliced (backTo pos (starEach (e :: e2 :: rest) env))) (fun vs s₁ => wpAny M A (call (.type T) vs) Q E s₁) E s)
    (hc : ∃ x y r, backTo pos (starEach (e :: e2 :: rest) env) = x :: y :: r ∧ (x :: y :: r).any (·.1) = true) :
    wpAny M A (callWith pos (.type T) [] (backTo pos (starEach (e :: e2 :: rest) env)) []) Q E s := by
  obtain ⟨x, y, r, e1, e2⟩ := hc
  rw [e1] at h ⊢
  exact PySem.W.ks_call (P := fun _ => True) e2 (fun h _ => keeper_type) (evalArgs_more (wpAny_mono h (fun _ _ z => ⟨True.intro, z⟩) fun _ _ q => q))
end
theorem vals_refs : ∀ {as : List (Addr × Bool)} {us : List Value}, Vals (as.map fun p => V.ref p.1) us → us = as.map fun p => Value.ref p.1
  | [], [], _ => rfl
  | p :: as, u :: us, .cons r t => by
    obtain rfl : u = Value.ref p.1 := r
    rw [vals_refs t]; rfl
  | [], _ :: _, h => nomatch h
  | _ :: _, [], h => nomatch h
section
variable {X : Cx} {pins : List (Addr × Obj)} {σ : L2.St} {H : Hp} {s : Shared}
open Classical in
/-- a zip is made -/
theorem zip_made {A' : Around} {as : List (Addr × Bool)} {us : List Value} {Q : Value → Shared → Prop} {E : Value → Shared → Prop} (I : Inv X pins σ H s) (r : Vals (as.map fun p => V.ref p.1) us) (hz : as.length ≤ sizeLine) (hq : ∀ p ∈ as, ∃ xs, Sq X.K H p xs)
    (hQ : ∀ (z TI TO : Addr) (L : List Src) (s' : Shared), Inv X pins σ H s' → ZSep z TI TO L → ZTn z TI TO L 0 s'.heap → L.map (fun c => (c.a, c.tup)) = as → (∀ b ∈ fpZ z TI TO L, FpOk X pins H b ∧ b < s'.heap.objs.size) → Q (.ref z) s') :
    wpAny (model X.prog X.w) A' (call (.type "zip") us) Q E s := by
  rw [vals_refs r]
  have hob : ∀ p ∈ as, ∃ ws : List Value, Src.Ob ⟨0, p.1, p.2, []⟩ ws s.heap := fun p upz => by
    obtain ⟨xs, q⟩ := hq p upz
    obtain ⟨ws, o, _⟩ := src_obj I ⟨0, p.1, p.2, []⟩ q
    exact ⟨ws, o⟩
  let f : Addr × Bool → List Value := fun p => if h : p ∈ as then Classical.choose (hob p h) else []
  have hf : ∀ p ∈ as, Src.Ob ⟨0, p.1, p.2, []⟩ (f p) s.heap := fun p upz => by
    simp only [f, dif_pos upz]
    exact Classical.choose_spec (hob p upz)
  have e : (as.map fun p => Value.ref p.1) = (as.map fun p => (⟨p.1, p.2, f p⟩ : Sr)).map fun c => Value.ref c.a := by rw [List.map_map]; rfl
  rw [e]
  have ob : ∀ c ∈ (as.map fun p => (⟨p.1, p.2, f p⟩ : Sr)), c.Ob s.heap := fun c hc => by
    obtain ⟨p, upz, rfl⟩ := List.mem_map.mp hc
    have := hf p upz
    obtain ⟨a, t⟩ := p
    cases t with
    | true => exact this
    | false => exact this
  have hlen : (as.map fun p => (⟨p.1, p.2, f p⟩ : Sr)).length = as.length := by simp
  refine call_zipN _ (by rw [hlen]; exact hz) ob fun u'z st sz kp => ?_
  refine hQ _ _ _ _ { s with heap := u'z } (I.kept (t' := s.toks) kp) (mkL_sep fun c hc => (ob c hc).lt) st.tn ?_ fun b hb => ?_
  · apply List.ext_getElem?
    intro k
    rw [List.getElem?_map, mkL_get, List.getElem?_map]
    cases as[k]? with
    | none => rfl
    | some p => rfl
  · have : s.heap.objs.size ≤ b ∧ b < u'z.objs.size := by
      simp only [fpZ, List.mem_cons] at hb
      rw [mkL_its] at hb
      rw [sz]
      rcases hb with rfl | rfl | rfl | hb
      · exact ⟨Nat.le_trans (Nat.le_add_right _ _) (Nat.le_add_right _ _), Nat.lt_succ_self _⟩
      · exact ⟨Nat.le_add_right _ _, Nat.lt_add_of_pos_right (by decide)⟩
      · exact ⟨Nat.le_trans (Nat.le_add_right _ _) (Nat.le_add_right _ _), Nat.lt_succ_of_lt (Nat.lt_succ_self _)⟩
      · have := List.mem_range'_1.mp hb
        exact ⟨this.1, Nat.lt_of_lt_of_le this.2 (Nat.le_add_right _ _)⟩
    exact ⟨I.fpOk this.1 (I.hok.fresh this.1), this.2⟩
end
end DL

namespace DL
open PySem PySem.Spec PyProof.Rows L2
/-! ### zip(*xs), zip(*xs, y): rules -/
def ZipOk (K : PySem.W.Frag) (H : Hp) (as : List (Addr × Bool)) : Prop := as ≠ [] ∧ as.length ≤ sizeLine ∧ ∀ p ∈ as, ∃ xs, Sq K H p xs
def iZipS (K : PySem.W.Frag) (te : TE) : TI := fun σ H R => te σ H fun x H1 => ∃ (a : Addr) (as : List (Addr × Bool)), x = .ref a ∧ (SqT K H1 a (as.map fun p => V.ref p.1) ∨ SqL K H1 a (as.map fun p => V.ref p.1)) ∧ ZipOk K H1 as ∧ R (ItzN K as) H1
def iZipM (K : PySem.W.Frag) (ta : TA) : TI := fun σ H R => ta σ H fun vs H1 => ∃ as : List (Addr × Bool), vs = (as.map fun p => V.ref p.1) ∧ ZipOk K H1 as ∧ R (ItzN K as) H1
section
variable {X : Cx} {e e2 tg : Expr} {es : List Expr} {te : TE} {ta : TA} {p sp pos : Pos}
theorem zip_pie {pins : List (Addr × Obj)} {s : Shared} {σ : L2.St} {H : Hp} {R : It → Hp → Prop} {as : List (Addr × Bool)} {us : List Value} (I : Inv X pins σ H s) (r : Vals (as.map fun p => V.ref p.1) us) (z : ZipOk X.K H as) (q : R (ItzN X.K as) H) :
    wpAny (model X.prog X.w) X.A (call (.type "zip") us) (fun v s1 => wpAny (model X.prog X.w) X.A (pyIter v) (PIE X pins σ tg R) X.xe s1) X.xe s := by
  refine zip_made I r z.2.1 z.2.2 fun z' TI TO L s' I' S st e f => ?_
  have hL : L.length = as.length := by rw [← e]; simp
  have T := turn_zipN (P := X.prog) (w := X.w) (K := X.K) (tg := tg) S (fun uz => z.1 (by rw [← e, uz]; rfl)) (by rw [hL]; exact z.2.1)
  refine T.self _ 0 _ _ _ st ⟨z', _, _, _, H, rfl, I', T, st, fun b hb => (f b hb).1, ?_⟩
  rw [e]; exact q
theorem pi_zipS (hg : Gl X "zip") (hm : X.mg "zip" = none) (he : PE X e te) (hs : starEach [.Starred e sp] X.env = [(true, eval e X.env)] := by rfl) : PI X tg (.Call (.Name "zip" p) [.Starred e sp] [] pos) (iZipS X.K te) := by
  refine ⟨fun pins s σ H R I uz => ?_⟩
  refine Call_ (ld_blt I hg hm PyProof.Rows.boot_zip (callWith_lone (thn (he.run pins s σ H _ I uz) fun v s1 ⟨x, H1, I1, r1, q1⟩ => ?_) hs))
  obtain ⟨a, as, rfl, hx, z, q⟩ := q1
  obtain rfl : v = Value.ref a := r1
  exact StX.star_any I1 hx fun us s2 I2 rv => ⟨True.intro, zip_pie I2 rv z q⟩
theorem pi_zipM (hg : Gl X "zip") (hm : X.mg "zip" = none) (ha : PA X (e :: e2 :: es) ta) (hc : ∃ x y r, backTo pos (starEach (e :: e2 :: es) X.env) = x :: y :: r ∧ (x :: y :: r).any (·.1) = true) : PI X tg (.Call (.Name "zip" p) (e :: e2 :: es) [] pos) (iZipM X.K ta) := by
  refine ⟨fun pins s σ H R I uz => ?_⟩
  refine Call_ (ld_blt I hg hm PyProof.Rows.boot_zip (callWith_more (thn (ha.run pos pins s σ H _ I uz) fun us s1 ⟨vs, H1, I1, r1, q1⟩ => ?_) hc))
  obtain ⟨as, rfl, z, q⟩ := q1
  exact zip_pie I1 r1 z q
end
/-! with slots -/
def starA (G : List Ent → R Kd) (GA : List Ent → R (List Kd)) (ρ : List Ent) : R (List Kd) := (toVa (G ρ)).bind fun k ρ1 => match k with
  | .va d => match itemsD d with
    | some ds => (GA ρ1).bind fun ks ρ2 => .ok (ds.map .va ++ ks) ρ2
    | none => .bad
  | _ => .bad
def zipDs (es : List D) : Option (List D) := match itemsDs es with
  | some dss => if dss ≠ [] ∧ dss.length ≤ big then some (zipND dss) else none
  | none => none
def zipNI (GA : List Ent → R (List Kd)) (ρ : List Ent) : R (List D) := (GA ρ).bind fun ks ρ1 => match vas ks with
  | some es => match zipDs es with
    | some ds => .ok ds ρ1
    | none => .bad
  | none => .bad
theorem rpl_items {K : PySem.W.Frag} {uz : Hp} {d : D} {ds : List D} {v : V} (e : itemsD d = some ds) (r : Rp K uz d v) : ∃ a xs, v = .ref a ∧ (SqT K uz a xs ∨ SqL K uz a xs) ∧ RpL K uz ds xs := by
  cases d with
  | lst ds' => cases e; obtain ⟨a, us, k1, k2, k3⟩ := r; exact ⟨a, us, k1, .inr (SqL.of k2), k3⟩
  | tup ds' => cases e; obtain ⟨a, us, k1, k2, k3⟩ := r; exact ⟨a, us, k1, .inl k2.sq, k3⟩
  | non => cases e
  | bl b => cases e
  | int i => cases e
  | str s => cases e
  | ins C fs => cases e
  | dic kvs => cases e
  | scr ns => cases e
  | prs ds => cases e
theorem kats_va {K : PySem.W.Frag} {σ : L2.St} {uz : Hp} : ∀ {ds : List D} {xs : List V} {ks : List Kd} {ys : List V}, RpL K uz ds xs → KAts K σ uz ks ys → KAts K σ uz (ds.map .va ++ ks) (xs ++ ys)
  | [], xs, ks, ys, r, k => by rw [show xs = [] from r]; exact k
  | d :: ds, _, ks, ys, ⟨y, zs, e, r, t⟩, k => by rw [e]; exact ⟨y, zs ++ ys, rfl, r, kats_va t k⟩
theorem sq_star {K : PySem.W.Frag} {uz h' : Hp} (s : Same uz h') {a : Addr} {xs : List V} (q : SqT K uz a xs ∨ SqL K uz a xs) : SqT K h' a xs ∨ SqL K h' a xs := q.imp (SqT.mono s) s.seq
section
variable {X : Cx} {F : Fr} {E : XK} {e e2 tg : Expr} {es : List Expr} {pos p sp : Pos} {G : List Ent → R Kd} {GA : List Ent → R (List Kd)}
theorem ja_star (he : PE X e (tE X.K F E G)) (hr : PA X es (tA X.K F E GA)) (hs : starEach (.Starred e p :: es) X.env = (true, eval e X.env) :: starEach es X.env := by rfl) : PA X (.Starred e p :: es) (tA X.K F E (starA G GA)) :=
  paI (StX.pa_star (je_toVa he) hr hs) fun σ H Q ⟨ρ, T, m, o, p⟩ => by
    refine bdV (pf_A Q) m o p fun x H1 d ρ1 o1 p1 => ?_
    cases q : itemsD d with
    | none =>
      exfalso
      have p1 : PostA X.K F E T σ Q (match itemsD d with
        | some ds => (GA ρ1).bind fun ks ρ2 => .ok (ds.map .va ++ ks) ρ2
        | none => .bad) := p1
      rw [q] at p1
      exact p1
    | some ds =>
      have p1 : PostA X.K F E T σ Q (match itemsD d with
        | some ds => (GA ρ1).bind fun ks ρ2 => .ok (ds.map .va ++ ks) ρ2
        | none => .bad) := p1
      rw [q] at p1
      obtain ⟨a, xs, e1, e2, e3⟩ := rpl_items q o1.t.2
      refine ⟨a, xs, e1, sq_star wo_le e2, ?_⟩
      refine bdA (T := fun uz => T uz ∧ RpL X.K uz ds xs) (pf_A Q) (m.and mono_rpl) (o1.to ⟨o1.t.1, e3⟩) ((pf_A Q).pw _ _ _ (fun _ z => z.1) p1) fun ys H2 ks ρ2 o2 p2 => ?_
      exact p2 _ H2 (o2.weak fun uz z => ⟨z.1, kats_va z.1.2 z.2⟩)
theorem zip_args {K : PySem.W.Frag} {uz h' : Hp} (s : Same uz h') {es ds : List D} {vs : List V} (q : zipDs es = some ds) (r : RpL K uz es vs) : ∃ (as : List (Addr × Bool)) (dss : List (List D)), vs = (as.map fun p => V.ref p.1) ∧ ZipOk K h' as ∧ dss ≠ [] ∧ ds = zipND dss ∧ SrcsD K uz as dss := by
  unfold zipDs at q
  cases q1 : itemsDs es with
  | none => rw [q1] at q; cases q
  | some dss =>
    rw [q1] at q
    dsimp only at q
    split at q
    · rename_i hb
      cases q
      obtain ⟨as, h1, h2⟩ := srcs_args q1 r
      have hl := h2.len
      refine ⟨as, dss, h1, ⟨fun z => hb.1 (List.length_eq_zero_iff.mp (by rw [← hl, z]; rfl)), by rw [hl]; exact Nat.le_trans hb.2 (by decide), fun p hp => ?_⟩, hb.1, rfl, h2⟩
      obtain ⟨_, _, xs, z, _⟩ := h2.of_as p hp
      exact ⟨xs, z.mono s⟩
    · cases q
theorem ji_zipM (hg : Gl X "zip") (hm : X.mg "zip" = none) (ha : PA X (e :: e2 :: es) (tA X.K F E GA)) (hc : ∃ x y r, backTo pos (starEach (e :: e2 :: es) X.env) = x :: y :: r ∧ (x :: y :: r).any (·.1) = true := by exact ⟨_, _, _, rfl, rfl⟩) :
    PI X tg (.Call (.Name "zip" p) (e :: e2 :: es) [] pos) (tI X.K F E (zipNI GA)) :=
  piI (pi_zipM hg hm ha hc) fun σ H Rr ⟨ρ, T, m, o, p⟩ => bdA (pf_I Rr) m o p fun vs H1 ks ρ1 o1 p1 => by
    split at p1
    · rename_i es' q1
      split at p1
      · rename_i ds q2
        obtain ⟨as, dss, e1, z, hne, rfl, sd⟩ := zip_args (h' := H1) wo_le q2 (vas_rp q1 o1.t.2)
        exact ⟨as, e1, z, p1 _ _ _ (fun uz h' s z => SrcsD.mono s z) (walkD_zipN hne) (o1.to ⟨o1.t.1, sd⟩)⟩
      · exact p1.elim
    · exact p1.elim
theorem ji_zipS (hg : Gl X "zip") (hm : X.mg "zip" = none) (he : PE X e (tE X.K F E G)) (hs : starEach [.Starred e sp] X.env = [(true, eval e X.env)] := by rfl) :
    PI X tg (.Call (.Name "zip" p) [.Starred e sp] [] pos) (tI X.K F E (zipNI (starA G nilA))) :=
  piI (pi_zipS hg hm (je_toVa he) hs) fun σ H Rr ⟨ρ, T, m, o, p⟩ => by
    have p : PostI X.K F E T σ Rr ((toVa (G ρ)).bind fun k ρ1 => ((match k with
      | .va d => match itemsD d with
        | some ds => (nilA ρ1).bind fun ks ρ2 => .ok (ds.map .va ++ ks) ρ2
        | none => .bad
      | _ => .bad : R (List Kd))).bind fun ks ρ1 => match vas ks with
        | some es => match zipDs es with
          | some ds => .ok ds ρ1
          | none => .bad
        | none => .bad) := by
      have := p
      unfold zipNI starA at this
      rw [R.bind_assoc] at this
      exact this
    refine bdV (pf_I Rr) m o p fun x H1 d ρ1 o1 p1 => ?_
    cases q : itemsD d with
    | none =>
      exfalso
      have p1 : PostI X.K F E T σ Rr (((match itemsD d with
        | some ds => (nilA ρ1).bind fun ks ρ2 => .ok (ds.map .va ++ ks) ρ2
        | none => .bad : R (List Kd))).bind fun ks ρ1 => match vas ks with
        | some es => match zipDs es with
          | some ds => .ok ds ρ1
          | none => .bad
        | none => .bad) := p1
      rw [q] at p1
      exact p1
    | some ds =>
      have p1 : PostI X.K F E T σ Rr (((match itemsD d with
        | some ds => (nilA ρ1).bind fun ks ρ2 => .ok (ds.map .va ++ ks) ρ2
        | none => .bad : R (List Kd))).bind fun ks ρ1 => match vas ks with
        | some es => match zipDs es with
          | some ds => .ok ds ρ1
          | none => .bad
        | none => .bad) := p1
      rw [q] at p1
      have p1 : PostI X.K F E T σ Rr (match vas (ds.map Kd.va ++ []) with
        | some es => match zipDs es with
          | some ds => .ok ds ρ1
          | none => .bad
        | none => .bad) := p1
      rw [List.append_nil, vas_map] at p1
      dsimp only at p1
      split at p1
      · rename_i zs q2
        obtain ⟨a, xs, e1, e2, e3⟩ := rpl_items q o1.t.2
        obtain ⟨as, dss, e4, z, hne, rfl, sd⟩ := zip_args (h' := H1) wo_le q2 e3
        subst e4
        exact ⟨a, as, e1, sq_star wo_le e2, z, p1 _ _ _ (fun uz h' s z => SrcsD.mono s z) (walkD_zipN hne) (o1.to ⟨o1.t.1, sd⟩)⟩
      · exact p1.elim
end
end DL

namespace DL
open PySem PySem.Spec PyProof.Rows L2
/-! ### zip of two, of any kinds -/
section
variable {K : PySem.W.Frag}
theorem walkD_zip2 {a b : Addr × Bool} {ds es : List D} : WalkD K (ItzN K [a, b]) (zipD ds es) (fun uz => SrcsD K uz [a, b] [ds, es]) where
  stop := fun H M z => (walkD_zipN (K := K) (as := [a, b]) (dss := [ds, es]) (by simp)).stop H M z |> fun uz => by
    rw [zipND_len] at uz
    rw [zipD_len]
    exact uz
  go := fun i d H M q z => by
    obtain ⟨d1, d2, q1, q2, _⟩ := zipD_get q
    have l1 := (List.getElem?_eq_some_iff.mp q1).1
    have l2 := (List.getElem?_eq_some_iff.mp q2).1
    have hi : i < minLen [ds, es] := by show i < min ds.length es.length; omega
    exact (walkD_zipN (K := K) (as := [a, b]) (dss := [ds, es]) (by simp)).go i (.tup (zrow [ds, es] i)) H M (by unfold zipND; rw [List.getElem?_map, List.getElem?_range hi]; rfl) z
  yld := fun i d x H H' F vs es' T q m o y => by
    obtain ⟨d1, d2, q1, q2, q3⟩ := zipD_get q
    subst q3
    have l1 := (List.getElem?_eq_some_iff.mp q1).1
    have l2 := (List.getElem?_eq_some_iff.mp q2).1
    have hi : i < minLen [ds, es] := by show i < min ds.length es.length; omega
    have e : zrow [ds, es] i = [d1, d2] := by
      show [ds.getD i .non, es.getD i .non] = _
      rw [List.getD_eq_getElem?_getD, List.getD_eq_getElem?_getD, q1, q2]; rfl
    have := (walkD_zipN (K := K) (as := [a, b]) (dss := [ds, es]) (by simp)).yld i (.tup (zrow [ds, es] i)) x H H' F vs es' T (by unfold zipND; rw [List.getElem?_map, List.getElem?_range hi]; rfl) m o y
    rw [e] at this
    exact this.to ⟨this.t.1, let ⟨p, xs, e1, e2, e3⟩ := this.t.2; ⟨p, xs, e1, e2.sq, e3⟩⟩
end
def zipI2 (GA : List Ent → R (List Kd)) (ρ : List Ent) : R (List D) := (GA ρ).bind fun ks ρ1 => match vas ks with
  | some [a, b] => match itemsD a, itemsD b with
    | some xs, some ys => .ok (zipD xs ys) ρ1
    | _, _ => .bad
  | _ => .bad
section
variable {X : Cx} {F : Fr} {E : XK} {a b tg : Expr} {ta : TA} {pos p : Pos} {GA : List Ent → R (List Kd)}
theorem pi_zip2 (hg : Gl X "zip") (hm : X.mg "zip" = none) (ha : PA X [a, b] ta) (hs : starEach [a, b] X.env = (false, eval a X.env) :: starEach [b] X.env := by rfl) (hpl : (backTo pos (starEach [b] X.env)).any (·.1) = false := by rfl) :
    PI X tg (.Call (.Name "zip" p) [a, b] [] pos) (iZipM X.K ta) := by
  refine ⟨fun pins s σ H R I uz => ?_⟩
  refine Call_ (ld_blt I hg hm PyProof.Rows.boot_zip (PyProof.Rows.callWith_type1 (thn (ha.run pos pins s σ H _ I uz) fun us s1 ⟨vs, H1, I1, r1, q1⟩ => ?_) hs hpl))
  obtain ⟨as, rfl, z, q⟩ := q1
  exact zip_pie I1 r1 z q
theorem ji_zip2 (hg : Gl X "zip") (hm : X.mg "zip" = none) (ha : PA X [a, b] (tA X.K F E GA)) (hs : starEach [a, b] X.env = (false, eval a X.env) :: starEach [b] X.env := by rfl) (hpl : (backTo pos (starEach [b] X.env)).any (·.1) = false := by rfl) :
    PI X tg (.Call (.Name "zip" p) [a, b] [] pos) (tI X.K F E (zipI2 GA)) :=
  piI (pi_zip2 hg hm ha hs hpl) fun σ H Rr ⟨ρ, T, m, o, p⟩ => bdA (pf_I Rr) m o p fun vs H1 ks ρ1 o1 p1 => by
    split at p1
    · rename_i d1 d2 q1
      split at p1
      · rename_i xs ys e1 e2
        obtain ⟨as, h1, h2⟩ := srcs_args (es := [d1, d2]) (dss := [xs, ys]) (by simp [itemsDs, e1, e2]) (vas_rp q1 o1.t.2)
        have hl := h2.len
        obtain ⟨pa, as, rfl⟩ := List.exists_cons_of_length_pos (by rw [hl]; exact Nat.zero_lt_succ _ : 0 < as.length)
        obtain ⟨pb, as, rfl⟩ := List.exists_cons_of_length_pos (by simp at hl; omega : 0 < as.length)
        obtain rfl : as = [] := List.length_eq_zero_iff.mp (by simpa using hl)
        refine ⟨[pa, pb], h1, ⟨by simp, (by show 2 ≤ sizeLine; decide), fun p hp => ?_⟩, p1 _ _ _ (fun uz h' s z => SrcsD.mono s z) walkD_zip2 (o1.to ⟨o1.t.1, h2⟩)⟩
        obtain ⟨_, _, xs, z, _⟩ := h2.of_as p hp
        exact ⟨xs, z.mono wo_le⟩
      · exact p1.elim
    · exact p1.elim
end
/-! ### the plain level -/
def zipM2 : List D → Res (List D)
  | [a, b] => match itemsD a, itemsD b with
    | some xs, some ys => .ok (zipD xs ys)
    | _, _ => .bad
  | _ => .bad
def zipNM (es : List D) : Res (List D) := match zipDs es with
  | some ds => .ok ds
  | none => .bad
section
variable {p : Pat} {G : List Ent → R Kd} {GA : List Ent → R (List Kd)} {M : CPS D} {α β : Type} {MA : CPS α} {MB : α → CPS β} {dA : α → D} {dB : α → β → List D} {dsA : α → List D} {pA : α → Pat} {pB : α → β → Pat}
theorem sim_zip2 : ∀ (ds : List D) (ρ : List Ent), Sim (match vas (ds.map Kd.va) with
  | some [a, b] => match itemsD a, itemsD b with
    | some xs, some ys => R.ok (zipD xs ys) ρ
    | _, _ => .bad
  | _ => .bad) (zipM2 ds) fun d k ρ' => k = d ∧ ρ' = ρ := fun ds ρ => by
  rw [vas_map]
  unfold zipM2
  rcases ds with _ | ⟨a, _ | ⟨b, _ | ⟨c, r⟩⟩⟩
  · exact True.intro
  · exact True.intro
  · dsimp only
    split
    · exact ⟨_, _, rfl, rfl, rfl⟩
    · exact True.intro
  · exact True.intro
theorem eip_zip2 {N : CPS (List D)} (uz : EAP p GA N) : EIP p (zipI2 GA) (fun γ K => N γ fun a => (zipM2 a).bind K) := eip_args (GI := zipI2) (fun _ _ => rfl) sim_zip2 uz
theorem ei_zip2 (uz : EA p GA MA dsA pA) : EI p (zipI2 GA) (fun γ K => MA γ fun a => (zipM2 (dsA a)).bind fun ds => K (a, ds)) (fun t => t.2) (fun t => pA t.1) := ei_args (GI := zipI2) (fun _ _ => rfl) sim_zip2 uz
theorem sim_zipN : ∀ (ds : List D) (ρ : List Ent), Sim (match vas (ds.map Kd.va) with
  | some es => match zipDs es with
    | some ds => R.ok ds ρ
    | none => .bad
  | none => .bad) (zipNM ds) fun d k ρ' => k = d ∧ ρ' = ρ := fun ds ρ => by
  rw [vas_map]
  unfold zipNM
  dsimp only
  cases zipDs ds with
  | none => exact True.intro
  | some ds => exact ⟨_, _, rfl, rfl, rfl⟩
theorem eip_zipN {N : CPS (List D)} (uz : EAP p GA N) : EIP p (zipNI GA) (fun γ K => N γ fun a => (zipNM a).bind K) := eip_args (GI := zipNI) (fun _ _ => rfl) sim_zipN uz
theorem ei_zipN (uz : EA p GA MA dsA pA) : EI p (zipNI GA) (fun γ K => MA γ fun a => (zipNM (dsA a)).bind fun ds => K (a, ds)) (fun t => t.2) (fun t => pA t.1) := ei_args (GI := zipNI) (fun _ _ => rfl) sim_zipN uz
/-- a starred argument -/
theorem ea_star (uz : EP p G M) {N : CPS (List D)} (h2 : EAP p GA N) : EAP p (starA G GA) (fun γ K => M γ fun a => (itM a).bind fun ds => N γ fun r => K (ds ++ r)) := fun ρ m γ β K f Ψ k => by
  show Sim ((starA G GA ρ).bind f) _ _
  unfold starA
  rw [R.bind_assoc]
  refine uz.ev ρ m γ β _ _ Ψ fun a k1 ρ1 ⟨e1, m1⟩ => ?_
  subst e1
  unfold itM
  show Sim ((match itemsD a with
    | some ds => (GA ρ1).bind fun ks ρ2 => R.ok (ds.map Kd.va ++ ks) ρ2
    | none => .bad).bind f) _ _
  cases itemsD a with
  | none => exact True.intro
  | some ds =>
    dsimp only
    rw [R.bind_assoc]
    refine h2 ρ1 m1 γ β _ _ Ψ fun r ks ρ2 ⟨e2, m2⟩ => ?_
    exact k (ds ++ r) _ ρ2 ⟨by rw [e2, List.map_append], m2⟩
end
end DL

namespace DL
open PySem PySem.Spec PyProof.Rows L2
namespace F
theorem nolen_zip : typeLookup (.type "zip") "__len__" = pure none := by rw [typeLookup_type, builtinLookup_eq_fast]; kernel_rfl
theorem nohint_zip : typeLookup (.type "zip") "__length_hint__" = pure none := by rw [typeLookup_type, builtinLookup_eq_fast]; kernel_rfl
end F
/-! ### list(zip(..)) -/
section
variable {X : Cx} {pins : List (Addr × Obj)} {σ : L2.St} {H : Hp} {s : Shared} {z TI TO : Addr} {L : List Src} {i : Nat}
open Classical in
/-- a turn of a zip, in whatever surroundings -/
theorem zipN_turn {A' : Around} {E : Value → Shared → Prop} {Q : Option Value → Shared → Prop} (hh : A'.handled = none) (S : ZSep z TI TO L) (hne : L ≠ []) (hL : L.length ≤ sizeLine) (I : Inv X pins σ H s) (hf : ∀ b ∈ fpZ z TI TO L, FpOk X pins H b) (st : ZTn z TI TO L i s.heap)
    (hq : ∀ c ∈ L, ∃ xs, Sq X.K H (c.a, c.tup) xs ∧ i ≤ xs.length)
    (hQ : ∀ (T : Addr) (o : Obj) (xs : List V) (s' : Shared), (∀ c ∈ L, ∀ xs, Sq X.K H (c.a, c.tup) xs → i < xs.length) → Inv X pins σ (upd H T (.frz o (.tup xs))) s' → H T = none → s.heap.objs.size ≤ T → o.dict = none → xs.length = L.length → (∀ (k : Nat) (c : Src) (ys : List V), L[k]? = some c → Sq X.K H (c.a, c.tup) ys → xs[k]? = ys[i]?) → ZTn z TI TO L (i + 1) s'.heap → Q (some (.ref T)) s')
    (hE : (∃ c ∈ L, ∃ xs, Sq X.K H (c.a, c.tup) xs ∧ xs.length ≤ i) → ∀ s', Inv X pins σ H s' → Q none s') : wpAny (model X.prog X.w) A' (pyNext (.ref z)) Q E s := by
  have hob : ∀ c ∈ L, ∃ (ws : List Value) (xs : List V), Sq X.K H (c.a, c.tup) xs ∧ c.Ob ws s.heap ∧ Vals xs ws ∧ i ≤ xs.length := fun c hc' => by
    obtain ⟨xs, q, e⟩ := hq c hc'
    obtain ⟨ws, o, r⟩ := src_obj I c q
    exact ⟨ws, xs, q, o, r, e⟩
  let f : Src → List Value := fun c => if h : c ∈ L then Classical.choose (hob c h) else []
  let g : Src → List V := fun c => if h : c ∈ L then Classical.choose (Classical.choose_spec (hob c h)) else []
  have hfg : ∀ c ∈ L, Sq X.K H (c.a, c.tup) (g c) ∧ c.Ob (f c) s.heap ∧ Vals (g c) (f c) ∧ i ≤ (g c).length := fun c hc' => by
    simp only [f, g, dif_pos hc']
    exact Classical.choose_spec (Classical.choose_spec (hob c hc'))
  have SW := S.ws (f := f)
  have hlen : (wsOf f L).length = L.length := by simp [wsOf]
  refine zipN_pyNext hh SW (fun e => hne (List.map_eq_nil_iff.mp e)) (by rw [hlen]; exact hL) (fun d hd => ?_) (st.st' fun c hc' => (hfg c hc').2.1) (fun al h' tk us st' hT hsz hus bt hos => ?_) fun ⟨d, hd, e⟩ h' tk bt => hE ?_ _ (I.turnedL (t' := tk) (ch := fpZ z TI TO L) (fun c o hb q => bt.fp hb q) hf)
  · obtain ⟨c, hc', rfl⟩ := wsOf_mem hd
    obtain ⟨_, _, r, q⟩ := hfg c hc'
    show i ≤ (f c).length
    rw [← r.length]; exact q
  · have hlt : ∀ c ∈ L, i < (g c).length := fun c hc' => by
      have := al _ (List.mem_map_of_mem (f := fun c => ({ c with ws := f c } : Src)) hc')
      have this : i < (f c).length := this
      rw [(hfg c hc').2.2.1.length]; exact this
    let vs : List V := L.map fun c => ((g c)[i]?).getD V.non
    have hvl : vs.length = L.length := by simp [vs]
    have hvk : ∀ (k : Nat) (c : Src), L[k]? = some c → vs[k]? = (g c)[i]? := fun k c e => by
      have hc' := List.mem_of_getElem? e
      simp only [vs, List.getElem?_map, e, Option.map_some]
      rw [List.getElem?_eq_getElem (hlt c hc')]
      rfl
    have hvals : Vals vs us.toList := vals_get (by rw [hvl]; have := hsz.trans hlen; simpa using this.symm) fun k v u e1 e2 => by
      have hk : k < L.length := by rw [← hvl]; exact (List.getElem?_eq_some_iff.mp e1).1
      have eL : L[k]? = some L[k] := List.getElem?_eq_getElem hk
      have hc' := List.mem_of_getElem? eL
      have e3 := hvk k _ eL
      have e4 := hus k { L[k] with ws := f L[k] } (by simp [wsOf, hk])
      rw [e3] at e1
      rw [Array.getElem?_toList, e4] at e2
      obtain ⟨u', q1, q2⟩ := (hfg _ hc').2.2.1.get e1
      have e2 : (f L[k])[i]? = some u := e2
      rw [e2] at q1
      cases q1
      exact q2
    have hTl : H s.heap.objs.size = none := I.hok.fresh (Nat.le_refl _)
    have new : ObjOk X.prog X.w (upd H s.heap.objs.size (.frz { cls := Value.type "tuple", data := Data.seq us } (.tup vs))) h' s.heap.objs.size (.frz { cls := Value.type "tuple", data := Data.seq us } (.tup vs)) :=
      ⟨hT, by rw [hvl]; exact hL, us.toList, hvals, { cls := Value.type "tuple", data := Data.seq us }, hT, rfl, 0, by simp⟩
    have I1 := I.turnedNew (t' := tk) (ch := fpZ z TI TO L) (fun c o hb q => bt.fp hb q) hf (Nat.le_refl _) new
    refine hQ _ _ vs _ (fun c hc' xs q => ?_) I1 hTl (Nat.le_refl _) rfl hvl (fun k c ys e q => ?_) st'.tn'
    · rw [sq_inj I q (hfg c hc').1]; exact hlt c hc'
    · rw [hvk k c e, sq_inj I q (hfg c (List.mem_of_getElem? e)).1]
  · obtain ⟨c, hc', rfl⟩ := wsOf_mem hd
    obtain ⟨q, _, r, _⟩ := hfg c hc'
    have e : i = (f c).length := e
    exact ⟨c, hc', g c, q, by rw [r.length]; omega⟩
/-- list(a zip): what the loop gives -/
theorem drainZ {A' : Around} {R : Result → Shared → Prop} {S : Addr} {res : Value} (G : Nat → Hp → Prop) (n : Nat) (hh : A'.handled = none) (Sp : ZSep z TI TO L) (hne : L ≠ []) (hL : L.length ≤ sizeLine)
    (hGs : ∀ i H, G i H → ∃ xs, H S = some (.lst xs) ∧ xs.length = i) (hGq : ∀ i H, G i H → i ≤ n → ∀ c ∈ L, ∃ xs, Sq X.K H (c.a, c.tup) xs ∧ i ≤ xs.length) (hGe : ∀ H, G n H → ∃ c ∈ L, ∃ xs, Sq X.K H (c.a, c.tup) xs ∧ xs.length ≤ n) (hGl : ∀ i H, G i H → i < n → ∀ c ∈ L, ∃ xs, Sq X.K H (c.a, c.tup) xs ∧ i < xs.length) (hn : n ≤ big)
    (hGn : ∀ i H T o xs ys, G i H → i < n → H T = none → o.dict = none → xs.length = L.length → (∀ (k : Nat) (c : Src) (ys : List V), L[k]? = some c → Sq X.K H (c.a, c.tup) ys → xs[k]? = ys[i]?) → H S = some (.lst ys) → G (i + 1) (upd (upd H T (.frz o (.tup xs))) S (.lst (ys ++ [.ref T]))))
    (hR : ∀ H' s', Inv X pins σ H' s' → G n H' → R (.ok (.ret res)) s') :
    ∀ (m : Nat) (i : Nat) (H : Hp) (s : Shared), i + m = n → Inv X pins σ H s → (∀ b ∈ fpZ z TI TO L, FpOk X pins H b ∧ b < s.heap.objs.size) → ZTn z TI TO L i s.heap → G i H → codeAny (model X.prog X.w) A' (.builtin "list.extend.loop" ⟨[.ref S, .ref z, res], []⟩) R s := by
  intro m
  induction m with
  | zero =>
    intro i H s hi I hf st g
    obtain rfl : i = n := by omega
    refine codeAny_builtin F.entry_extend_loop ?_
    rw [Around.under_plainId F.plain_extend_loop _]
    show wpAny _ A'.in1 (pyNext (.ref z) >>= _) _ _ s
    refine wpAny_bind (zipN_turn hh Sp hne hL I (fun b hb => (hf b hb).1) st (hGq _ H g (Nat.le_refl _)) (fun T o xs s' al => ?_) fun _ s' I' => ?_)
    · obtain ⟨c, hc, xs, q, l⟩ := hGe H g
      exact absurd (al c hc xs q) (by omega)
    · exact wpAny_pure (hR H s' I' g)
  | succ m ih =>
    intro i H s hi I hf st g
    have hin : i < n := by omega
    refine codeAny_builtin F.entry_extend_loop ?_
    rw [Around.under_plainId F.plain_extend_loop _]
    show wpAny _ A'.in1 (pyNext (.ref z) >>= _) _ _ s
    refine wpAny_bind (zipN_turn hh Sp hne hL I (fun b hb => (hf b hb).1) st (hGq _ H g (Nat.le_of_lt hin)) (fun T o xs s' al I' hT hTs hd hxl hxk st' => ?_) fun ⟨c, hc, xs, q, l⟩ s' I' => ?_)
    · obtain ⟨ys, hS, hyl⟩ := hGs i H g
      have hST : S ≠ T := fun e => by rw [e, hT] at hS; cases hS
      have hS' : upd H T (.frz o (.tup xs)) S = some (.lst ys) := by rw [upd_ne hST]; exact hS
      obtain ⟨hz', its, n', ri, e⟩ := I'.hok S _ hS'
      have hl := ri.length
      have hlt : its.toArray.size < sizeLine := by
        rw [List.size_toArray, ← hl, hyl]
        exact Nat.lt_of_lt_of_le hin (Nat.le_trans hn (by decide))
      show wpAny _ A'.in1 (updateSeq S (·.push (.ref T)) >>= _) _ _ _
      refine wpAny_bind (wpAny_updateSeq e rfl (wpAny_pure ⟨plainId_quiet F.plain_extend_loop _, ?_⟩) (Nat.le_of_lt hlt) (by rw [Array.size_push]; omega))
      have hTT : upd H T (.frz o (.tup xs)) T = some (.frz o (.tup xs)) := upd_same
      have ho' := Heap.get?_update_self (Obj.mapSeq (·.push (Value.ref T))) e rfl
      have I2 : Inv X pins σ (upd (upd H T (.frz o (.tup xs))) S (.lst (ys ++ [.ref T]))) { s' with heap := s'.heap.update S (Obj.mapSeq (·.push (.ref T))) } :=
        I'.write (t' := s'.toks) (by rw [hS']; trivial) (.inl rfl) (fun b u hb q => (Heap.get?_update_other _ _ (Ne.symm hb)).trans q) ⟨_, ho'⟩ ⟨by rw [List.length_append, hl]; have := hlt; rw [List.size_toArray] at this; exact this, its ++ [.ref T], n' + 1, ri.append (.cons (show RelV (V.ref T) (Value.ref T) from rfl) .nil), by rw [ho']; simp [Obj.mapSeq]⟩
      have hSf : S ∉ fpZ z TI TO L := fun hb => by have := (hf S hb).1.1; rw [hS] at this; cases this
      refine ih (i + 1) _ _ (by omega) I2 (fun b hb => ?_) ?_ (hGn i H T o xs ys g hin hT hd hxl hxk hS)
      · obtain ⟨f1, f2⟩ := hf b hb
        have hbT : b ≠ T := Nat.ne_of_lt (Nat.lt_of_lt_of_le f2 hTs)
        have hbS : b ≠ S := fun e => hSf (e ▸ hb)
        refine ⟨⟨by rw [upd_ne hbS, upd_ne hbT]; exact f1.1, f1.2⟩, ?_⟩
        show b < (s'.heap.update S _).objs.size
        obtain ⟨x, hx, _⟩ := (turn_zipN (P := X.prog) (w := X.w) (K := X.K) (tg := .Name "x" ⟨0, 0, 0, 0⟩) Sp hne hL).obj _ _ st' b hb
        exact Heap.lt_size ((Heap.get?_update_other _ _ (Ne.symm hbS)).trans hx)
      · exact (turn_zipN (P := X.prog) (w := X.w) (K := X.K) (tg := .Name "x" ⟨0, 0, 0, 0⟩) Sp hne hL).keep _ _ _ st' fun b hb o q => (Heap.get?_update_other _ _ (fun e : S = b => hSf (by rw [e]; exact hb))).trans q
    · exfalso
      obtain ⟨xs', q', l'⟩ := hGl i H g hin c hc
      rw [sq_inj I q' q] at l'
      omega
end
end DL

namespace DL
open PySem PySem.Spec PyProof.Rows L2
section
variable {X : Cx} {pins : List (Addr × Obj)} {σ : L2.St} {H : Hp} {s : Shared} {z TI TO : Addr} {L : List Src} {i : Nat}
theorem call_listZ {A' : Around} {E : Value → Shared → Prop} {Q : Value → Shared → Prop} (hh : A'.handled = none) (Sp : ZSep z TI TO L) (hne : L ≠ []) (hL : L.length ≤ sizeLine) (I : Inv X pins σ H s) (hf : ∀ b ∈ fpZ z TI TO L, FpOk X pins H b ∧ b < s.heap.objs.size) (st : ZTn z TI TO L 0 s.heap)
    (hQ : ∀ S, H S = none → (∀ b, (∃ o, H b = some o) → b ≠ S) → ∃ (G : Nat → Hp → Prop) (n : Nat), G 0 (upd H S (.lst [])) ∧
      (∀ i H, G i H → ∃ xs, H S = some (.lst xs) ∧ xs.length = i) ∧ (∀ i H, G i H → i ≤ n → ∀ c ∈ L, ∃ xs, Sq X.K H (c.a, c.tup) xs ∧ i ≤ xs.length) ∧ (∀ H, G n H → ∃ c ∈ L, ∃ xs, Sq X.K H (c.a, c.tup) xs ∧ xs.length ≤ n) ∧ (∀ i H, G i H → i < n → ∀ c ∈ L, ∃ xs, Sq X.K H (c.a, c.tup) xs ∧ i < xs.length) ∧ n ≤ big ∧
      (∀ i H T o xs ys, G i H → i < n → H T = none → o.dict = none → xs.length = L.length → (∀ (k : Nat) (c : Src) (ys : List V), L[k]? = some c → Sq X.K H (c.a, c.tup) ys → xs[k]? = ys[i]?) → H S = some (.lst ys) → G (i + 1) (upd (upd H T (.frz o (.tup xs))) S (.lst (ys ++ [.ref T])))) ∧
      ∀ H' s', Inv X pins σ H' s' → G n H' → Q (.ref S) s') :
    wpAny (model X.prog X.w) A' (call (.type "list") [.ref z]) Q E s := by
  obtain ⟨f0, fb, hz, _⟩ := id st.hz
  have uzlz : z < s.heap.objs.size := Heap.lt_size hz
  have hSz : s.heap.objs.size ≠ z := Nat.ne_of_gt uzlz
  have hSn : H s.heap.objs.size = none := I.hok.fresh (Nat.le_refl _)
  obtain ⟨G, n, g0, g1, g2, g3, g4, g5, g6, g7⟩ := hQ s.heap.objs.size hSn fun b ⟨o, e⟩ uz => by rw [uz, hSn] at e; cases e
  refine callType_codes (Q₁ := fun obj s₁ => obj = .ref s.heap.objs.size ∧ s₁ = { s with heap := s.heap.push { cls := .type "list", data := .seq #[] } }) PySem.F.called_list (PySem.F.typeCall_list_1 _) PySem.F.entry_list_init
    (code_list_new _ ⟨rfl, rfl⟩) fun obj s₁ u₁z => ?_
  obtain ⟨rfl, rfl⟩ := u₁z
  have uSz : (s.heap.push { cls := .type "list", data := .seq #[] }).get? s.heap.objs.size = some { cls := .type "list", data := .seq #[] } := Heap.get?_push_size _ rfl
  refine ⟨⟨_, uSz, rfl⟩, PySem.F.args_list_init_2 _ _, ?_⟩
  show wpAny _ A'.in1.in1 (do let old ← Builtin.List.listItems (.ref s.heap.objs.size); Builtin.List.listUpdate (.ref s.heap.objs.size) (fun _ => #[]); letGo old.toList.reverse; Builtin.List.listExtendWith (.ref s.heap.objs.size) (.ref z) .none) _ _ _
  refine wpAny_bind ?_
  unfold Builtin.List.listItems
  refine wpAny_bind (wpAny_seqItems uSz rfl (wpAny_pure ?_))
  show wpAny _ A'.in1.in1 (updateSeq s.heap.objs.size (fun _ => #[]) >>= fun _ => letGo (#[] : Array Value).toList.reverse >>= fun _ => Builtin.List.listExtendWith (.ref s.heap.objs.size) (.ref z) .none) _ _ _
  refine wpAny_bind (wpAny_updateSeq uSz rfl ?_)
  have hS2 := Heap.get?_update_self (Obj.mapSeq (fun _ => (#[] : Array Value))) uSz rfl
  refine wpAny_bind (wpAny_letGo ?_)
  unfold Builtin.List.listExtendWith
  have up : ∀ (uz : Heap) (f : Obj → Obj), (∀ b o, s.heap.get? b = some o → uz.get? b = some o) → ∀ b o, s.heap.get? b = some o → (uz.update s.heap.objs.size f).get? b = some o := fun uz f q b o e =>
    (Heap.get?_update_other _ _ (Ne.symm (Nat.ne_of_lt (Heap.lt_size e)))).trans (q b o e)
  have k1 : ∀ b o, s.heap.get? b = some o → (s.heap.push { cls := .type "list", data := .seq #[] }).get? b = some o := fun b o e => Heap.get?_push_of_some _ e
  have k2 := up _ (Obj.mapSeq (fun _ => (#[] : Array Value))) k1
  have gty : ∀ {uz : Heap} {g d t o}, (∀ b o, s.heap.get? b = some o → uz.get? b = some o) → Shared.TypeIs ⟨uz, g, d, t, o⟩ (.ref z) "zip" := fun q => ⟨_, q _ _ hz, rfl⟩
  refine wpAny_bind (wpAny_typeOf (gty k2) ?_)
  have h1 : Builtin.List.listSameRef (.ref s.heap.objs.size) (.ref z) = false := by simp [Builtin.List.listSameRef, hSz]
  have h2 : (Value.type "zip" == Value.type "list") = false := by decide
  have h3 : (Value.type "zip" == Value.type "tuple") = false := by decide
  simp only [h1, h2, h3, Bool.or_false, Bool.false_eq_true, if_false]
  refine wpAny_bind ?_
  refine wpAny_pyIter_slot (gty k2) PySem.F.slot_zip_iter (wpAny_call_entry PySem.F.slot_zip_iter (gty k2) PySem.F.entry_zip_iter ?_ (PySem.F.args_zip_iter_1 _))
  show wpAny _ _ (ret (.ref z)) _ _ _
  refine wpAny_pure ⟨_, rfl, "zip", _, gty k2, PySem.F.slot_zip_next.lookup, ?_⟩
  refine wpAny_bind (wpAny_holding ?_)
  unfold Builtin.List.listLengthHint
  refine wpAny_bind (wpAny_specialOf (gty k2) F.nolen_zip ?_)
  show wpAny _ A'.in1.in1 (specialOf (Value.ref z) (Str.ofString "__length_hint__") >>= _) _ _ _
  refine wpAny_bind (wpAny_specialOf (gty k2) F.nohint_zip ?_)
  refine wpAny_pure ?_
  show wpAny _ A'.in1.in1 (rule "list.extend.makes-room" >>= fun _ => Builtin.List.listTouch (.ref s.heap.objs.size) >>= fun _ =>
    again (.builtin "list.extend.loop" ⟨[.ref s.heap.objs.size, .ref z, .none], []⟩)) _ _ _
  refine wpAny_bind (wpAny_rule ?_)
  refine wpAny_bind ?_
  show wpAny _ A'.in1.in1 (updateSeq s.heap.objs.size (·.push .none) >>= fun _ => updateSeq s.heap.objs.size (·.pop)) _ _ _
  refine wpAny_bind (wpAny_updateSeq hS2 rfl ?_)
  have uS3z := Heap.get?_update_self (Obj.mapSeq (·.push Value.none)) hS2 rfl
  refine wpAny_updateSeq (hz := by seq_fits) uS3z rfl ?_
  have hS4 := Heap.get?_update_self (Obj.mapSeq (·.pop)) uS3z rfl
  have k4 := up _ (Obj.mapSeq (·.pop)) (up _ (Obj.mapSeq (·.push Value.none)) k2)
  refine wpAny_pure ⟨plainId_quiet PySem.F.plain_extend_loop _, ?_⟩
  have I2 := Inv.laid (o := .lst []) (a := s.heap.objs.size) (t' := s.toks) I k4 (Nat.le_refl _) ⟨Nat.zero_le _, [], _, .nil, hS4⟩
  refine drainZ G n (A' := A'.in1) (R := _) (res := .none) hh Sp hne hL g1 g2 g3 g4 g5 g6 (fun H' s' I' g => ⟨rfl, g7 H' s' I' g⟩) n 0 _ _ (by omega) I2 (fun b hb => ?_) ?_ g0
  · obtain ⟨f1, f2⟩ := hf b hb
    refine ⟨⟨by rw [upd_ne (Nat.ne_of_lt f2)]; exact f1.1, f1.2⟩, ?_⟩
    obtain ⟨x, hx, _⟩ := (turn_zipN (P := X.prog) (w := X.w) (K := X.K) (tg := .Name "x" ⟨0, 0, 0, 0⟩) Sp hne hL).obj _ _ st b hb
    exact Heap.lt_size (k4 _ _ hx)
  · exact (turn_zipN (P := X.prog) (w := X.w) (K := X.K) (tg := .Name "x" ⟨0, 0, 0, 0⟩) Sp hne hL).keep _ _ _ st fun b hb o q => k4 _ _ q
end
end DL

namespace DL
open PySem PySem.Spec PyProof.Rows L2
/-! ### list(zip(..)): the rule -/
def listZR (GI : List Ent → R (List D)) (ρ : List Ent) : R Kd := (GI ρ).bind fun ds ρ1 => if ds.length ≤ big then .ok (.ow (.lst ds)) ρ1 else .bad
section
variable {X : Cx} {pins : List (Addr × Obj)} {σ : L2.St} {H : Hp} {s : Shared} {F : Fr} {E : XK} {T : HT} {ρ : List Ent}
theorem listZ_core {A' : Around} {Ev : Value → Shared → Prop} {Q : VK} {as : List (Addr × Bool)} {dss : List (List D)} {us : List Value} (hh : A'.handled = none) (I : Inv X pins σ H s) (r : Vals (as.map fun p => V.ref p.1) us) (z : ZipOk X.K H as) (hne : dss ≠ []) (hb : (zipND dss).length ≤ big)
    (m : Mono T) (o : Ok X.K F (fun h => T h ∧ SrcsD X.K h as dss) H σ ρ) (q : ∀ v H', Ok X.K F T H' (some v :: σ) (.ow none (.lst (zipND dss)) :: ρ) → Q v H') :
    wpAny (model X.prog X.w) A' (call (.type "zip") us) (fun v s1 => wpAny (model X.prog X.w) A' (call (.type "list") [v]) (L2.EP X pins σ Q) Ev s1) Ev s := by
  refine zip_made I r z.2.1 z.2.2 fun z' TI TO L s' I' Sp st e f => ?_
  have hL : L.length = as.length := by rw [← e]; simp
  have m2 : Mono fun h => T h ∧ SrcsD X.K h as dss := m.and fun h h' s z => SrcsD.mono s z
  have mem : ∀ c ∈ L, (c.a, c.tup) ∈ as := fun c hc => by rw [← e]; exact List.mem_map_of_mem (f := fun c : Src => (c.a, c.tup)) hc
  have src : ∀ {H : Hp} {vs es} {c : Src}, Ok X.K F (fun h => T h ∧ SrcsD X.K h as dss) H vs es → c ∈ L → ∃ ds ∈ dss, ∃ xs, Sq X.K H (c.a, c.tup) xs ∧ xs.length = ds.length := fun {H vs es c} o hc => by
    obtain ⟨ds, h1, xs, h2, h3⟩ := o.t.2.of_as _ (mem c hc)
    exact ⟨ds, h1, xs, h2.up, h3.len⟩
  refine call_listZ hh Sp (fun h => z.1 (by rw [← e, h]; rfl)) (by rw [hL]; exact z.2.1) I' f st fun S hS _ => ?_
  refine ⟨fun i H' => i ≤ (zipND dss).length ∧ Ok X.K F (fun h => T h ∧ SrcsD X.K h as dss) H' (some (.ref S) :: σ) (.ow none (.lst ((zipND dss).take i)) :: ρ), (zipND dss).length, ⟨Nat.zero_le _, ?_⟩, ?_, ?_, ?_, ?_, hb, ?_, ?_⟩
  · exact o.newOwn m2 hS True.intro fun Hm sm => ⟨S, [], rfl, upd_same, rfl⟩
  · rintro i H' ⟨hi, g⟩
    obtain ⟨a, h1, _, a', xs, h2, h3, h4⟩ := g.own (i := 0) rfl
    cases h1; cases h2
    exact ⟨xs, h3, by rw [h4.len, List.length_take]; omega⟩
  · rintro i H' ⟨hi, g⟩ _ c hc
    obtain ⟨ds, h1, xs, h2, h3⟩ := src g hc
    exact ⟨xs, h2, by rw [h3]; rw [zipND_len] at hi; exact Nat.le_trans hi (minLen_le h1)⟩
  · rintro H' ⟨_, g⟩
    obtain ⟨ds, h1, e1⟩ := minLen_eq hne
    obtain ⟨p, hp, xs, h2, h3⟩ := g.t.2.of_ds ds h1
    rw [← e] at hp
    obtain ⟨c, hc, rfl⟩ := List.mem_map.mp hp
    exact ⟨c, hc, xs, h2.up, by rw [h3.len, e1, zipND_len]; exact Nat.le_refl _⟩
  · rintro i H' ⟨_, g⟩ hi c hc
    obtain ⟨ds, h1, xs, h2, h3⟩ := src g hc
    exact ⟨xs, h2, by rw [h3]; rw [zipND_len] at hi; exact Nat.lt_of_lt_of_le hi (minLen_le h1)⟩
  · rintro i H' P ob xs ys ⟨_, g⟩ hi hP hd hxl hxk hS'
    refine ⟨hi, ?_⟩
    have hSP : S ≠ P := fun e => by rw [e, hP] at hS'; cases hS'
    obtain ⟨g1, sm, hw⟩ := g.new (o := .frz ob (.tup xs)) m2 hP
    have hdi : (zipND dss)[i]? = some (zipND dss)[i] := List.getElem?_eq_getElem hi
    obtain ⟨q1, q2⟩ := zipND_get hdi
    have row : RpL X.K (wo (upd H' P (.frz ob (.tup xs))) (Ms F (some (.ref S) :: σ) (.ow none (.lst ((zipND dss).take i)) :: ρ))) (zrow dss i) xs := by
      refine srcs_row g.t.2 sm (.inl q2) (by rw [hxl, hL]) fun k p ys a b => ?_
      rw [← e, List.getElem?_map] at a
      cases hk : L[k]? with
      | none => rw [hk] at a; cases a
      | some c =>
        rw [hk] at a
        cases a
        exact hxk k c ys hk b.up
    obtain ⟨a, h1, _, a', zs, h2, h3, h4⟩ := g1.own (i := 0) rfl
    cases h1; cases h2
    rw [upd_ne hSP, hS'] at h3
    cases h3
    have := g1.setOw (i := 0) (b := S) (H' := upd (upd H' P (.frz ob (.tup xs))) S (.lst (ys ++ [.ref P]))) (d' := .lst ((zipND dss).take (i + 1))) m2 rfl rfl (fun a o hab q => by rw [upd_ne hab]; exact q) ⟨_, upd_same⟩ True.intro fun sm2 => by
      refine ⟨S, _, rfl, upd_same, ?_⟩
      have it : Rp X.K (wo (upd (upd H' P (.frz ob (.tup xs))) S (.lst (ys ++ [.ref P]))) (Ms F (some (V.ref S) :: σ) ((Ent.ow none (D.lst ((zipND dss).take i)) :: ρ).set 0 (.ow none (.lst ((zipND dss).take (i + 1))))))) (.tup (zrow dss i)) (.ref P) := ⟨P, xs, rfl, .inl ⟨ob, sm2 _ _ hw, hd⟩, row.mono sm2⟩
      rw [← q1] at it
      have tk : (zipND dss).take (i + 1) = (zipND dss).take i ++ [(zipND dss)[i]] := by rw [List.take_add_one, hdi]; rfl
      have h5 := RpL.append (es := [(zipND dss)[i]]) (h4.mono sm2) ⟨_, [], rfl, it, rfl⟩
      rw [← tk] at h5
      exact h5
    exact this.1
  · rintro H' s'' I'' ⟨_, g⟩
    refine ⟨.ref S, H', I'', rfl, q _ _ ?_⟩
    have g : Ok X.K F (fun h => T h ∧ SrcsD X.K h as dss) H' (some (.ref S) :: σ) (.ow none (.lst ((zipND dss).take (zipND dss).length)) :: ρ) := g
    rw [List.take_length] at g
    exact g.weak fun _ z => z.1
variable {e e2 : Expr} {es : List Expr} {pos pos2 p p2 : Pos} {GA : List Ent → R (List Kd)}
theorem je_listZipM (hgl : Gl X "list") (hml : X.mg "list" = none) (hg : Gl X "zip") (hm : X.mg "zip" = none) (ha : PA X (e :: e2 :: es) (tA X.K F E GA)) (hc : ∃ x y r, backTo pos2 (starEach (e :: e2 :: es) X.env) = x :: y :: r ∧ (x :: y :: r).any (·.1) = true := by exact ⟨_, _, _, rfl, rfl⟩)
    (cl : X.calm = true := by rfl)
    (na : starEach [.Call (.Name "zip" p2) (e :: e2 :: es) [] pos2] X.env = (false, eval (.Call (.Name "zip" p2) (e :: e2 :: es) [] pos2) X.env) :: starEach [] X.env := by rfl) :
    PE X (.Call (.Name "list" p) [.Call (.Name "zip" p2) (e :: e2 :: es) [] pos2] [] pos) (tE X.K F E (listZR (zipNI GA))) := by
  refine ⟨fun pins s σ H Q I ⟨ρ, T, m, o, p⟩ => ?_⟩
  refine Call_ (ld_blt I hgl hml boot_list ?_)
  refine PyProof.Rows.callWith_type1 (PyProof.Rows.args_cons ?_ na) na rfl
  refine Call_ (ld_blt I hg hm PyProof.Rows.boot_zip (callWith_more (thn (ha.run pos2 pins s σ H _ I (bdA (pf_E Q) (f := fun ks ρ1 => (match vas ks with
      | some es => match zipDs es with
        | some ds => R.ok ds ρ1
        | none => .bad
      | none => .bad).bind fun ds ρ1 => if ds.length ≤ big then .ok (.ow (.lst ds)) ρ1 else .bad) m o (by
        have := p
        unfold listZR zipNI at this
        rw [R.bind_assoc] at this
        exact this) (Q2 := fun vs H1 => ∃ (ρ1 : List Ent) (as : List (Addr × Bool)) (dss : List (List D)), vs = (as.map fun p => V.ref p.1) ∧ ZipOk X.K H1 as ∧ dss ≠ [] ∧ (zipND dss).length ≤ big ∧ Ok X.K F (fun h => T h ∧ SrcsD X.K h as dss) H1 σ ρ1 ∧ ∀ v H', Ok X.K F T H' (some v :: σ) (.ow none (.lst (zipND dss)) :: ρ1) → Q v H') fun vs H1 ks ρ1 o1 p1 => ?_)) fun us s1 ⟨vs, H1, I1, r1, q1⟩ => ?_) hc))
  · split at p1
    · rename_i es' q1
      split at p1
      · rename_i ds q2
        obtain ⟨as, dss, e1, z, hne, rfl, sd⟩ := zip_args (h' := H1) wo_le q2 (vas_rp q1 o1.t.2)
        have p1 : PostE X.K F E T σ Q (if (zipND dss).length ≤ big then .ok (.ow (.lst (zipND dss))) ρ1 else .bad) := p1
        split at p1
        · rename_i hb
          exact ⟨ρ1, as, dss, e1, z, hne, hb, o1.to ⟨o1.t.1, sd⟩, p1⟩
        · exact p1.elim
      · exact p1.elim
    · exact p1.elim
  · obtain ⟨ρ1, as, dss, rfl, z, hne, hb, o1, q⟩ := q1
    refine wpAny_mono (listZ_core (I1.ok.hd cl) I1 r1 z hne hb m o1 q) (fun v s2 h => PyProof.Rows.args_nil ?_) fun _ _ x => x
    exact h
end
/-! ### the plain level -/
def listZM (ds : List D) : Res D := if ds.length ≤ big then .ok (.lst ds) else .bad
section
variable {p : Pat} {GI : List Ent → R (List D)} {N : CPS (List D)}
theorem ewp_listZ (h : EIP p GI N) : EW p (listZR GI) (fun γ K => N γ fun ds => (listZM ds).bind K) (fun d => d) (fun _ => p) := fun ρ m γ β K f Ψ k => by
  show Sim ((listZR GI ρ).bind f) _ _
  unfold listZR
  rw [R.bind_assoc]
  refine h ρ m γ β _ _ Ψ fun ds k1 ρ1 ⟨e1, m1⟩ => ?_
  subst e1
  unfold listZM
  show Sim ((if k1.length ≤ big then R.ok (.ow (.lst k1)) ρ1 else .bad).bind f) _ _
  split
  · exact k (.lst k1) _ ρ1 ⟨rfl, True.intro, m1⟩
  · exact True.intro
end
end DL

namespace DL
open PySem PySem.Spec PyProof.Rows L2
/-! ### a value's truth -/
def truD : D → Option Bool
  | .non => some false
  | .bl b => some b
  | .int i => some (i != 0)
  | .str y => if y.length ≤ big then some ((y.length : Int) != 0) else none
  | .lst ds => some (!ds.isEmpty)
  | .tup ds => some (!ds.isEmpty)
  | .prs ds => some (!ds.isEmpty)
  | .dic kvs => some (!kvs.isEmpty)
  | _ => none
theorem tru_rp {K : PySem.W.Frag} {Hm H : Hp} {d : D} {v : V} {b : Bool} (s : Same Hm H) (e : truD d = some b) (r : RpTop K Hm H d v) : TruV K v H b := by
  have emp : ∀ {ds : List D} {xs : List V}, RpL K Hm ds xs → (!ds.isEmpty) = !xs.isEmpty := fun {ds xs} r => by
    have := r.len
    cases ds <;> cases xs <;> first | rfl | simp at this
  have empD : ∀ {ds : List (Key × D)} {xs : List (Key × V)}, RpD K Hm ds xs → (!ds.isEmpty) = !xs.isEmpty := fun {ds xs} r => by
    cases ds with
    | nil => rw [show xs = [] from r]; rfl
    | cons d ds => obtain ⟨y, ys, e, _⟩ := r; rw [e]; rfl
  cases d with
  | non => cases e; rw [show v = .non from r]; rfl
  | bl b2 => have e : some b2 = some b := e; cases e; rw [show v = .bl b from r]; rfl
  | int i => cases e; rw [show v = .int i from r]; rfl
  | str y =>
    rw [show v = .str y from r]
    have e : (if y.length ≤ big then some ((y.length : Int) != 0) else none) = some b := e
    split at e
    · rename_i h; cases e; exact ⟨big_ok h, rfl⟩
    · cases e
  | lst ds =>
    cases e
    obtain ⟨a, xs, h1, h2, h3⟩ := r
    subst h1
    exact .inl ⟨xs, SqL.of h2, emp h3⟩
  | tup ds =>
    cases e
    obtain ⟨a, xs, h1, h2, h3⟩ := r
    subst h1
    exact .inr (.inl ⟨xs, SqT.mono s h2.sq, emp h3⟩)
  | prs ds =>
    cases e
    obtain ⟨a, xs, h1, h2, h3⟩ := r
    subst h1
    exact .inr (.inl ⟨xs, SqT.mono s h2, emp h3⟩)
  | dic kvs =>
    cases e
    obtain ⟨a, xs, h1, h2, h3⟩ := r
    subst h1
    exact .inr (.inr ⟨xs, h2, empD h3⟩)
  | ins C fs => cases e
  | scr ns => cases e
def truR (G : List Ent → R Kd) (ρ : List Ent) : R Bool := (fz (G ρ)).bind fun k ρ1 => match cont ρ1 k with
  | some d => match truD d with
    | some b => .ok b ρ1
    | none => .bad
  | none => .bad
theorem jt_tru {X : Cx} {F : Fr} {E : XK} {e : Expr} {G : List Ent → R Kd} (h : PE X e (tE X.K F E G)) (he : ∀ whole, isTrue e X.env whole = (do let v ← whole; standAt e.pos; holding [v] (truthy v)) := by intro _; rfl) : PT X e (tT X.K F E (truR G)) :=
  ptI (pt_truth (je_fz h) he) fun σ H Q ⟨ρ, T, m, o, p⟩ => by
    refine bdE (pf_B Q) m o p fun x H1 k ρ1 o1 p1 => ?_
    cases c : cont ρ1 k with
    | none => rw [c] at p1; exact p1.elim
    | some d =>
      rw [c] at p1
      dsimp only at p1
      cases q : truD d with
      | none => rw [q] at p1; exact p1.elim
      | some b =>
        rw [q] at p1
        exact ⟨b, tru_rp wo_le q (kat_top o1 c), p1 H1 (o1.weak fun _ z => z.1)⟩
def truM (d : D) : Res Bool := match truD d with
  | some b => .ok b
  | none => .bad
theorem ebp_tru {p : Pat} {G : List Ent → R Kd} {M : CPS D} (h : EC p G M) : EBP p (truR G) (fun γ K => M γ fun a => (truM a).bind K) := fun ρ m γ β K f Ψ k => by
  show Sim ((truR G ρ).bind f) _ _
  unfold truR
  rw [R.bind_assoc, fz_b]
  refine h ρ m γ β _ _ Ψ fun a k1 ρ1 ⟨m1, d1⟩ => ?_
  rw [d1.cont m1]
  dsimp only
  unfold truM
  cases truD a with
  | none => exact True.intro
  | some b => exact k b b ρ1 ⟨rfl, m1⟩
end DL

namespace DL
open PySem PySem.Spec PyProof.Rows L2
@[irreducible] def fuelK : Nat := 10000000
theorem fuelK_eq : fuelK = 10000000 := by unfold fuelK; rfl
theorem law_plain {Gf : List Ent → R Kd} {Mf : D → Res D} (F : FM 1 Gf (ap1 Mf)) {x : D} (h : Mf x = .ok (.bl true)) : ∃ ρ, Gf [.va x] = .ok (.va (.bl true)) ρ := by
  have := F.sim [x] rfl
  rw [show ap1 Mf [x] = .ok (.bl true) from h] at this
  obtain ⟨k, ρ, e, q⟩ := this
  rcases q with rfl | ⟨_, z⟩
  · exact ⟨ρ, e⟩
  · exact z.elim
end DL

namespace DL
open PySem PySem.Spec PyProof.Rows L2
/-! ### reckoning at the plain level -/
theorem nr {α : Type} {a b : α} (h : a = b) : a = b := h
theorem r_ok {α β : Type} (a : α) (f : α → Res β) : (Res.ok a).bind f = f a := nr rfl
theorem r_bad {α β : Type} (f : α → Res β) : (Res.bad : Res α).bind f = .bad := nr rfl
theorem m_add (a b : Int) : opM addD (.int a) (.int b) = .ok (.int (a + b)) := nr rfl
theorem m_sub (a b : Int) : opM subD (.int a) (.int b) = .ok (.int (a - b)) := nr rfl
theorem m_mulL {a b : Int} (h1 : -18446744073709551616 < a) (h2 : a < 18446744073709551616) : opM mulD (.int a) (.int b) = .ok (.int (a * b)) := by
  unfold opM
  rw [mulD_l ⟨h1, h2⟩]
  rfl
theorem m_mulR {a b : Int} (h1 : -18446744073709551616 < b) (h2 : b < 18446744073709551616) : opM mulD (.int a) (.int b) = .ok (.int (a * b)) := by
  unfold opM
  rw [mulD_r ⟨h1, h2⟩]
  rfl
theorem m_mod {a b : Int} (h : 0 < b) : opM modD (.int a) (.int b) = .ok (.int (a % b)) := by
  unfold opM
  rw [modD_int h]
  rfl
theorem m_fdiv {a b : Int} (h : 0 < b) (h2 : b < 18446744073709551616) : opM fdivD (.int a) (.int b) = .ok (.int (a / b)) := by
  unfold opM
  rw [fdivD_int h h2]
  rfl
theorem m_pow {a b : Int} (h : 0 ≤ b) (h2 : b ≤ 1000) (h3 : -9223372036854775808 < a) (h4 : a < 9223372036854775808) : opM powD (.int a) (.int b) = .ok (.int (a ^ b.toNat)) := by
  unfold opM
  rw [powD_int ⟨h, h2, h3, h4⟩]
  rfl
theorem m_lt (a b : Int) : opM ltD (.int a) (.int b) = .ok (.bl (decide (a < b))) := nr rfl
theorem m_le (a b : Int) : opM leD (.int a) (.int b) = .ok (.bl (decide (a ≤ b))) := nr rfl
theorem m_gt (a b : Int) : opM gtD (.int a) (.int b) = .ok (.bl (decide (b < a))) := nr rfl
theorem m_ge (a b : Int) : opM geD (.int a) (.int b) = .ok (.bl (decide (b ≤ a))) := nr rfl
theorem m_eq (a b : Int) : opM eqD (.int a) (.int b) = .ok (.bl (decide (a = b))) := nr rfl
theorem m_ne (a b : Int) : opM neD (.int a) (.int b) = .ok (.bl (!decide (a = b))) := nr rfl
theorem m_isN (d : D) : opM isND d .non = .ok (.bl (isNonB d)) := by unfold opM isND; rfl
theorem m_notN (d : D) : opM notND d .non = .ok (.bl (!isNonB d)) := by unfold opM notND; rfl
theorem m_isB (a b : Bool) : opM isBD (.bl a) (.bl b) = .ok (.bl (decide (a = b))) := nr rfl
theorem m_notB (a b : Bool) : opM notBD (.bl a) (.bl b) = .ok (.bl (!decide (a = b))) := nr rfl
theorem m_neg (a : Int) : unM negD (.int a) = .ok (.int (-a)) := nr rfl
theorem m_asB (b : Bool) : asB (.bl b) = .ok b := nr rfl
theorem m_asI (i : Int) : asI (.int i) = .ok i := nr rfl
theorem m_len (ds : List D) : fnM lenD [.lst ds] = .ok (.int ds.length) := nr rfl
theorem m_lenT (ds : List D) : fnM lenD [.tup ds] = .ok (.int ds.length) := nr rfl
theorem m_int (i : Int) : fnM DL.intD [.int i] = .ok (.int i) := nr rfl
theorem m_intB (b : Bool) : fnM DL.intD [.bl b] = .ok (.int (if b then 1 else 0)) := nr rfl
theorem m_itL (ds : List D) : itM (.lst ds) = .ok ds := nr rfl
theorem m_itT (ds : List D) : itM (.tup ds) = .ok ds := nr rfl
theorem m_list (ds : List D) : newM listD [.lst ds] = .ok (.lst ds) := nr rfl
theorem m_listT (ds : List D) : newM listD [.tup ds] = .ok (.lst ds) := nr rfl
theorem m_listP (ds : List D) : fnM listD [.lst ds] = .ok (.lst ds) := nr rfl
theorem m_tupleL (ds : List D) : fnM tupleD [.lst ds] = .ok (.tup ds) := nr rfl
theorem m_tupleT (ds : List D) : fnM tupleD [.tup ds] = .ok (.tup ds) := nr rfl
theorem m_lst {ds : List D} (h : ds.length ≤ 100000) : lstM ds = .ok (.lst ds) := if_pos h
theorem m_tup {ds : List D} (h : ds.length ≤ 100000) : tupM ds = .ok (.tup ds) := if_pos h
theorem m_few {β : Type} {ds : List D} {r : Res β} (h : ds.length ≤ 100000) : few ds r = r := if_pos h
theorem m_ap {ds : List D} {d : D} (h : ds.length < 100000) : apM (.lst ds) d = .ok (.lst (ds ++ [d])) := if_pos h
theorem m_lstOf (ds : List D) : lstOf (.lst ds) = .ok () := nr rfl
theorem m_addL {xs ys : List D} (h : xs.length + ys.length ≤ 100000) : opM addD (.lst xs) (.lst ys) = .ok (.lst (xs ++ ys)) := by
  unfold opM
  rw [show addD (.lst xs) (.lst ys) = some (.newL (xs ++ ys)) from if_pos h]
  rfl
theorem m_addLO {xs ys : List D} (h : xs.length + ys.length ≤ 100000) : newO addD (.lst xs) (.lst ys) = .ok (.lst (xs ++ ys)) := by
  unfold newO
  rw [show addD (.lst xs) (.lst ys) = some (.newL (xs ++ ys)) from if_pos h]
theorem m_rep {xs : List D} {k : Int} (h : 0 ≤ k) (h2 : k ≤ 100000) (h3 : xs.length * k.toNat ≤ 100000) : opM mulD (.lst xs) (.int k) = .ok (.lst (List.replicate k.toNat xs).flatten) := by
  show ofO (if k ≤ (big : Nat) ∧ xs.length * k.toNat ≤ big ∧ 0 ≤ k then some (.newL (List.replicate k.toNat xs).flatten) else none) = _
  rw [if_pos ⟨h2, h3, h⟩]
  rfl
theorem flat_one (x : D) : ∀ n : Nat, (List.replicate n [x]).flatten = List.replicate n x
  | 0 => rfl
  | n + 1 => by rw [List.replicate_succ, List.flatten_cons, flat_one x n]; rfl
theorem m_rep1 {x : D} {k : Int} (h : 0 ≤ k) (h2 : k ≤ 100000) : opM mulD (.lst [x]) (.int k) = .ok (.lst (List.replicate k.toNat x)) := by
  rw [m_rep h h2 (by rw [List.length_singleton]; omega), flat_one]
theorem ixN_nat {n : Nat} {i : Int} (h : 0 ≤ i) (h2 : i < n) : ixN n i = some i.toNat := by
  unfold ixN
  rw [if_pos h, if_pos h2]
theorem m_ix {ds : List D} {i : Int} (h : 0 ≤ i) (h2 : i < ds.length) : opM ixD (.lst ds) (.int i) = .ok (ds[i.toNat]'(by omega)) := by
  unfold opM
  have : ixD (.lst ds) (.int i) = some (.same (ds[i.toNat]'(by omega))) := by
    show (atI ds i).map Out.same = _
    rw [atI_at ⟨h, h2⟩, List.getElem?_eq_getElem (by omega)]
    rfl
  rw [this]; rfl
theorem m_ixT {ds : List D} {i : Int} (h : 0 ≤ i) (h2 : i < ds.length) : opM ixD (.tup ds) (.int i) = .ok (ds[i.toNat]'(by omega)) := m_ix (ds := ds) h h2
theorem m_st {ds : List D} {i : Int} {d : D} (h : 0 ≤ i) (h2 : i < ds.length) : DL.stM (.lst ds) (.int i) d = .ok (.lst (ds.set i.toNat d)) := by
  show (match ixN ds.length i with
    | some j => Res.ok (D.lst (ds.set j d))
    | none => .bad) = _
  rw [ixN_nat h h2]
theorem m_ix0 (a : D) (r : List D) : opM ixD (.lst (a :: r)) (.int 0) = .ok a := m_ix (ds := a :: r) (by omega) (by simp only [List.length_cons]; omega)
theorem m_ixT0 (a : D) (r : List D) : opM ixD (.tup (a :: r)) (.int 0) = .ok a := m_ix0 a r
theorem m_st0 (a y : D) (r : List D) : DL.stM (.lst (a :: r)) (.int 0) y = .ok (.lst (y :: r)) := m_st (ds := a :: r) (by omega) (by simp only [List.length_cons]; omega)
theorem m_ix1 (a b : D) (r : List D) : opM ixD (.lst (a :: b :: r)) (.int 1) = .ok b := m_ix (ds := a :: b :: r) (by omega) (by simp only [List.length_cons]; omega)
theorem m_ixT1 (a b : D) (r : List D) : opM ixD (.tup (a :: b :: r)) (.int 1) = .ok b := m_ix1 a b r
theorem m_st1 (a b y : D) (r : List D) : DL.stM (.lst (a :: b :: r)) (.int 1) y = .ok (.lst (a :: y :: r)) := m_st (ds := a :: b :: r) (by omega) (by simp only [List.length_cons]; omega)
theorem m_ix2 (a b c : D) (r : List D) : opM ixD (.lst (a :: b :: c :: r)) (.int 2) = .ok c := m_ix (ds := a :: b :: c :: r) (by omega) (by simp only [List.length_cons]; omega)
theorem m_ixT2 (a b c : D) (r : List D) : opM ixD (.tup (a :: b :: c :: r)) (.int 2) = .ok c := m_ix2 a b c r
theorem m_st2 (a b c y : D) (r : List D) : DL.stM (.lst (a :: b :: c :: r)) (.int 2) y = .ok (.lst (a :: b :: y :: r)) := m_st (ds := a :: b :: c :: r) (by omega) (by simp only [List.length_cons]; omega)
theorem m_ix3 (a b c d : D) (r : List D) : opM ixD (.lst (a :: b :: c :: d :: r)) (.int 3) = .ok d := m_ix (ds := a :: b :: c :: d :: r) (by omega) (by simp only [List.length_cons]; omega)
theorem m_ixT3 (a b c d : D) (r : List D) : opM ixD (.tup (a :: b :: c :: d :: r)) (.int 3) = .ok d := m_ix3 a b c d r
theorem m_st3 (a b c d y : D) (r : List D) : DL.stM (.lst (a :: b :: c :: d :: r)) (.int 3) y = .ok (.lst (a :: b :: c :: y :: r)) := m_st (ds := a :: b :: c :: d :: r) (by omega) (by simp only [List.length_cons]; omega)
theorem m_ix4 (a b c d e : D) (r : List D) : opM ixD (.lst (a :: b :: c :: d :: e :: r)) (.int 4) = .ok e := m_ix (ds := a :: b :: c :: d :: e :: r) (by omega) (by simp only [List.length_cons]; omega)
theorem m_ixT4 (a b c d e : D) (r : List D) : opM ixD (.tup (a :: b :: c :: d :: e :: r)) (.int 4) = .ok e := m_ix4 a b c d e r
theorem m_st4 (a b c d e y : D) (r : List D) : DL.stM (.lst (a :: b :: c :: d :: e :: r)) (.int 4) y = .ok (.lst (a :: b :: c :: d :: y :: r)) := m_st (ds := a :: b :: c :: d :: e :: r) (by omega) (by simp only [List.length_cons]; omega)
theorem m_ix5 (a b c d e f : D) (r : List D) : opM ixD (.lst (a :: b :: c :: d :: e :: f :: r)) (.int 5) = .ok f := m_ix (ds := a :: b :: c :: d :: e :: f :: r) (by omega) (by simp only [List.length_cons]; omega)
theorem m_ixT5 (a b c d e f : D) (r : List D) : opM ixD (.tup (a :: b :: c :: d :: e :: f :: r)) (.int 5) = .ok f := m_ix5 a b c d e f r
theorem m_st5 (a b c d e f y : D) (r : List D) : DL.stM (.lst (a :: b :: c :: d :: e :: f :: r)) (.int 5) y = .ok (.lst (a :: b :: c :: d :: e :: y :: r)) := m_st (ds := a :: b :: c :: d :: e :: f :: r) (by omega) (by simp only [List.length_cons]; omega)
theorem cut_to {α : Type} (f : α → D) (xs : List α) (k : Nat) : DL.cutD (xs.map f) none (some (k : Int)) = (xs.take k).map f := by
  unfold DL.cutD
  rw [HT.sIx_none, HT.sIx_nat, List.drop_zero, Nat.sub_zero, List.map_take]
  apply List.take_eq_take_iff.mpr
  rw [Nat.min_assoc, Nat.min_self]
theorem cut_from {α : Type} (f : α → D) (xs : List α) (k : Nat) : DL.cutD (xs.map f) (some (k : Int)) none = (xs.drop k).map f := by
  unfold DL.cutD
  rw [HT.sIx_none, HT.sIx_nat, List.length_map, List.map_drop]
  by_cases h : k ≤ xs.length
  · rw [Nat.min_eq_left h, List.take_of_length_le (by rw [List.length_drop, List.length_map]; omega)]
  · rw [Nat.min_eq_right (by omega), Nat.sub_self, List.take_zero, List.drop_eq_nil_of_le (by rw [List.length_map]; omega)]
theorem m_sl_to {α : Type} (f : α → D) (xs : List α) (k : Nat) : slM (.lst (xs.map f)) none (some (k : Int)) = .ok (.lst ((xs.take k).map f)) := by
  show Res.ok (D.lst (DL.cutD _ _ _)) = _
  rw [cut_to]
theorem m_sl_from {α : Type} (f : α → D) (xs : List α) (k : Nat) : slM (.lst (xs.map f)) (some (k : Int)) none = .ok (.lst ((xs.drop k).map f)) := by
  show Res.ok (D.lst (DL.cutD _ _ _)) = _
  rw [cut_from]
theorem m_sl_scr (ns : List Int) (k : Nat) : slM (.scr ns) none (some (k : Int)) = .ok (.lst ((ns.take k).map .int)) := by
  show Res.ok (D.lst (DL.cutD _ _ _)) = _
  rw [cut_to]
theorem m_rng1 {j : Int} (h : -4611686018427387904 ≤ j) (h2 : j < 4611686018427387904) : rng1M [.int j] = .ok (rangeD 0 j.toNat) := if_pos ⟨h, h2⟩
theorem m_rng2 {i j : Int} (h : -4611686018427387904 ≤ i) (h2 : i < 4611686018427387904) (h3 : -4611686018427387904 ≤ j) (h4 : j < 4611686018427387904) : rng2M [.int i, .int j] = .ok (rangeD i (j - i).toNat) := if_pos ⟨h, h2, h3, h4⟩
theorem m_zipL (xs ys : List D) : zipM [.lst xs, .lst ys] = .ok (zipD xs ys) := nr rfl
theorem m_zipT (xs ys : List D) : zipM [.tup xs, .tup ys] = .ok (zipD xs ys) := nr rfl
theorem m_enum (xs : List D) : enumM [.lst xs] = .ok (enumD xs) := nr rfl
theorem m_enum2 (xs : List D) : enumM2 [.lst xs] = .ok (enumD xs) := nr rfl
theorem m_enum2T (xs : List D) : enumM2 [.tup xs] = .ok (enumD xs) := nr rfl
theorem m_permM {m : Nat} {q : List Nat} {ds : List D} (h : ds.length = m) : permM m q ds = .ok (permL q ds) := if_pos h
theorem m_un2 {γ : Type} (a b : D) (K : D → D → Res γ) : un2 (.tup [a, b]) K = K a b := nr rfl
theorem m_un2P {γ : Type} (a b : D) (K : D → D → Res γ) : un2 (.prs [a, b]) K = K a b := nr rfl
theorem m_un3P {γ : Type} (a b c : D) (K : D → D → D → Res γ) : un3 (.prs [a, b, c]) K = K a b c := nr rfl
theorem m_un3 {γ : Type} (a b c : D) (K : D → D → D → Res γ) : un3 (.tup [a, b, c]) K = K a b c := nr rfl
theorem m_nox {α : Type} (a : α) : (Res.ok a).nox = .ok a := nr rfl
theorem m_go {σ τ : Type} (m : σ → Res τ) (s : σ) : Ft.go m (.nx s) = m s := nr rfl
theorem m_goR {σ τ : Type} (m : σ → Res τ) (t : τ) : Ft.go m (.rt t) = .ok t := nr rfl
/-- every item, by a function on what stands behind the data -/
theorem mapR_ok {α : Type} {e : α → D} {f : D → Res D} {g : α → D} : ∀ {xs : List α}, (∀ x ∈ xs, f (e x) = .ok (g x)) → mapR f (xs.map e) = .ok (xs.map g)
  | [], _ => rfl
  | x :: xs, h => by
    rw [List.map_cons, List.map_cons]
    show (f (e x)).nox.bind _ = _
    rw [h x (List.mem_cons_self ..), mapR_ok fun y hy => h y (List.mem_cons_of_mem _ hy)]
    rfl
theorem filR_ok {α : Type} {e : α → D} {f : D → Res (Option D)} {g : α → Option D} : ∀ {xs : List α}, (∀ x ∈ xs, f (e x) = .ok (g x)) → filR f (xs.map e) = .ok (xs.filterMap g)
  | [], _ => rfl
  | x :: xs, h => by
    rw [List.map_cons]
    show (f (e x)).nox.bind _ = _
    rw [h x (List.mem_cons_self ..), filR_ok fun y hy => h y (List.mem_cons_of_mem _ hy)]
    rw [List.filterMap_cons]
    cases g x <;> rfl
/-- every item gives something good; the state stays good -/
theorem mapS_ok {σ α : Type} {e : α → D} {f : σ → D → Res (D × σ)} (S : σ → Prop) (P : D → Prop) : ∀ {xs : List α} {s : σ}, S s → (∀ x ∈ xs, ∀ s, S s → ∃ d s', f s (e x) = .ok (d, s') ∧ P d ∧ S s') → ∃ ds s', mapS f (xs.map e) s = .ok (ds, s') ∧ ds.length = xs.length ∧ (∀ d ∈ ds, P d) ∧ S s'
  | [], s, hs, _ => ⟨[], s, rfl, rfl, (fun _ z => nomatch z), hs⟩
  | x :: xs, s, hs, h => by
    obtain ⟨d, s1, e1, p1, hs1⟩ := h x (List.mem_cons_self ..) s hs
    obtain ⟨ds, s2, e2, l2, p2, hs2⟩ := mapS_ok S P (xs := xs) hs1 fun y hy => h y (List.mem_cons_of_mem _ hy)
    refine ⟨d :: ds, s2, ?_, by rw [List.length_cons, List.length_cons, l2], fun y hy => ?_, hs2⟩
    · rw [List.map_cons]
      show (f s (e x)).nox.bind _ = _
      rw [e1]
      show (mapS f (xs.map e) s1).bind _ = _
      rw [e2]
      rfl
    · rcases List.mem_cons.mp hy with rfl | hy
      · exact p1
      · exact p2 y hy
theorem foldR_ok {σ α : Type} {e : α → D} {f : σ → D → Res σ} {g : σ → α → σ} (S : σ → Prop) : ∀ {xs : List α} {s : σ}, S s → (∀ x ∈ xs, ∀ s, S s → f s (e x) = .ok (g s x) ∧ S (g s x)) → foldR f (xs.map e) s = .ok (xs.foldl g s) ∧ S (xs.foldl g s)
  | [], s, hs, _ => ⟨rfl, hs⟩
  | x :: xs, s, hs, h => by
    obtain ⟨e1, h1⟩ := h x (List.mem_cons_self ..) s hs
    obtain ⟨e2, h2⟩ := foldR_ok S (xs := xs) h1 fun y hy => h y (List.mem_cons_of_mem _ hy)
    refine ⟨?_, h2⟩
    rw [List.map_cons]
    show (f s (e x)).bind _ = _
    rw [e1]
    exact e2
/-- a loop keeps what is good -/
theorem foldR_inv {σ : Type} {f : σ → D → Res σ} (S : σ → Prop) : ∀ {ds : List D} {s : σ}, S s → (∀ d ∈ ds, ∀ s, S s → ∃ s', f s d = .ok s' ∧ S s') → ∃ s', foldR f ds s = .ok s' ∧ S s'
  | [], s, hs, _ => ⟨s, rfl, hs⟩
  | d :: ds, s, hs, h => by
    obtain ⟨s1, e1, h1⟩ := h d (List.mem_cons_self ..) s hs
    obtain ⟨s2, e2, h2⟩ := foldR_inv S (ds := ds) h1 fun y hy => h y (List.mem_cons_of_mem _ hy)
    refine ⟨s2, ?_, h2⟩
    show (f s d).bind _ = _
    rw [e1]
    exact e2
/-- a loop that never leaves -/
theorem loopR_inv {σ τ : Type} {f : σ → D → Res (Ft σ τ)} (S : σ → Prop) : ∀ {ds : List D} {s : σ}, S s → (∀ d ∈ ds, ∀ s, S s → ∃ s', f s d = .ok (.nx s') ∧ S s') → ∃ s', loopR f ds s = .ok (.nx s') ∧ S s'
  | [], s, hs, _ => ⟨s, rfl, hs⟩
  | d :: ds, s, hs, h => by
    obtain ⟨s1, e1, h1⟩ := h d (List.mem_cons_self ..) s hs
    obtain ⟨s2, e2, h2⟩ := loopR_inv S (ds := ds) h1 fun y hy => h y (List.mem_cons_of_mem _ hy)
    refine ⟨s2, ?_, h2⟩
    rw [loopR, e1]
    exact e2
theorem loopR_cons {σ τ : Type} (f : σ → D → Res (Ft σ τ)) (d : D) (ds : List D) (s : σ) {s' : σ} (h : f s d = .ok (.nx s')) : loopR f (d :: ds) s = loopR f ds s' := by
  rw [loopR, h]
  rfl
theorem loopR_rt {σ τ : Type} (f : σ → D → Res (Ft σ τ)) (d : D) (ds : List D) (s : σ) {t : τ} (h : f s d = .ok (.rt t)) : loopR f (d :: ds) s = .ok (.rt t) := by
  rw [loopR, h]
  rfl
/-- rangeD as a map over numbers -/
theorem rangeD_map (lo : Int) (n : Nat) : rangeD lo n = (List.range n).map fun i : Nat => D.int (lo + i) := rfl
theorem zipD_map {α β : Type} (e : α → D) (f : β → D) (xs : List α) (ys : List β) : zipD (xs.map e) (ys.map f) = (xs.zip ys).map fun p => .prs [e p.1, f p.2] := by
  unfold zipD
  rw [List.zip_map, List.map_map]
  rfl
end DL

namespace DM
/-! ### the span of some vectors over the numbers by a modulus; a vector: what stands at each place -/
abbrev Vec := Nat → Int
/-- the same by the modulus -/
def Eqv (p : Int) (v w : Vec) : Prop := ∀ j, ∃ k, v j = w j + p * k
inductive Sp (p : Int) (S : Vec → Prop) : Vec → Prop
  | zero {v : Vec} (h : ∀ j, ∃ k, v j = p * k) : Sp p S v
  | add {v r w : Vec} (c : Int) (hr : S r) (hv : Sp p S v) (h : ∀ j, ∃ k, w j = v j + c * r j + p * k) : Sp p S w
variable {p : Int} {S T : Vec → Prop}
theorem Sp.eqv {v w : Vec} (h : Sp p S v) (e : ∀ j, ∃ k, w j = v j + p * k) : Sp p S w := by
  cases h with
  | zero h =>
    refine .zero fun j => ?_
    obtain ⟨k, hk⟩ := h j
    obtain ⟨m, hm⟩ := e j
    exact ⟨k + m, by rw [hm, hk]; grind⟩
  | add c hr hv h =>
    refine .add c hr hv fun j => ?_
    obtain ⟨k, hk⟩ := h j
    obtain ⟨m, hm⟩ := e j
    exact ⟨k + m, by rw [hm, hk]; grind⟩
theorem Sp.sum {v w : Vec} (h : Sp p S v) (h2 : Sp p S w) : Sp p S fun j => v j + w j := by
  induction h2 with
  | zero h2 =>
    refine h.eqv fun j => ?_
    obtain ⟨k, hk⟩ := h2 j
    exact ⟨k, by rw [hk]⟩
  | @add u r w c hr hu e ih =>
    refine .add c hr ih fun j => ?_
    obtain ⟨k, hk⟩ := e j
    exact ⟨k, by rw [hk]; grind⟩
theorem Sp.mul {v : Vec} (a : Int) (h : Sp p S v) : Sp p S fun j => a * v j := by
  induction h with
  | zero h =>
    refine .zero fun j => ?_
    obtain ⟨k, hk⟩ := h j
    exact ⟨a * k, by rw [hk]; grind⟩
  | @add u r w c hr hu e ih =>
    refine .add (a * c) hr ih fun j => ?_
    obtain ⟨k, hk⟩ := e j
    exact ⟨a * k, by rw [hk]; grind⟩
theorem Sp.one {r : Vec} (h : S r) : Sp p S r := .add (v := fun _ => 0) 1 h (.zero fun _ => ⟨0, by simp⟩) fun j => ⟨0, by simp⟩
theorem Sp.mono (h : ∀ r, S r → Sp p T r) {v : Vec} (hv : Sp p S v) : Sp p T v := by
  induction hv with
  | zero h => exact .zero h
  | @add u r w c hr hu e ih =>
    refine (ih.sum ((h r hr).mul c)).eqv fun j => ?_
    obtain ⟨k, hk⟩ := e j
    exact ⟨k, by rw [hk]⟩
/-- all of them are 0 at a place -/
theorem Sp.at0 {j0 : Nat} (h : ∀ r, S r → ∃ k, r j0 = p * k) {v : Vec} (hv : Sp p S v) : ∃ k, v j0 = p * k := by
  induction hv with
  | zero h => exact h j0
  | @add u r w c hr hu e ih =>
    obtain ⟨k, hk⟩ := e j0
    obtain ⟨m, hm⟩ := ih
    obtain ⟨n, hn⟩ := h r hr
    exact ⟨m + c * n + k, by rw [hk, hm, hn]; grind⟩
/-- r' is r, made a unit's times as much and less some of h -/
def Cut (p : Int) (h r r' : Vec) : Prop := ∃ a a' b, (∃ k, a * a' = 1 + p * k) ∧ ∀ j, ∃ k, r' j = a * r j - b * h j + p * k
theorem Cut.back {h r r' : Vec} (c : Cut p h r r') : ∃ a' b', ∀ j, ∃ k, r j = a' * r' j + b' * h j + p * k := by
  obtain ⟨a, a', b, ⟨k0, h0⟩, e⟩ := c
  refine ⟨a', a' * b, fun j => ?_⟩
  obtain ⟨k, hk⟩ := e j
  refine ⟨- k0 * r j - a' * k, ?_⟩
  rw [hk]
  have : a * a' * r j = (1 + p * k0) * r j := by rw [h0]
  grind
/-- a step of an elimination: S' are the others of S, each cut by h -/
structure Step (p : Int) (h : Vec) (S S' : Vec → Prop) : Prop where
  to : ∀ r, S r → Cut p h r h ∨ (∃ r', S' r' ∧ Cut p h r r')
  from' : ∀ r', S' r' → ∃ r, S r ∧ Cut p h r r'
theorem decomp {h : Vec} (st : ∀ r, S r → (∀ j, ∃ k, r j = h j + p * k) ∨ ∃ r', T r' ∧ Cut p h r r') {t : Vec} (ht : Sp p S t) : ∃ c v, Sp p T v ∧ ∀ j, ∃ k, t j = v j + c * h j + p * k := by
  induction ht with
  | @zero v hv =>
    exact ⟨0, v, .zero hv, fun j => ⟨0, by simp⟩⟩
  | @add u r w c hr hu e ih =>
    obtain ⟨c1, v1, hv1, e1⟩ := ih
    rcases st r hr with er | ⟨r', hr', cr⟩
    · refine ⟨c1 + c, v1, hv1, fun j => ?_⟩
      obtain ⟨k, hk⟩ := e j
      obtain ⟨m, hm⟩ := e1 j
      obtain ⟨n, hn⟩ := er j
      exact ⟨k + m + c * n, by rw [hk, hm, hn]; grind⟩
    · obtain ⟨a', b', eb⟩ := cr.back
      refine ⟨c1 + c * b', _, hv1.sum ((Sp.one (p := p) hr').mul (c * a')), fun j => ?_⟩
      obtain ⟨k, hk⟩ := e j
      obtain ⟨m, hm⟩ := e1 j
      obtain ⟨n, hn⟩ := eb j
      exact ⟨k + m + c * n, by rw [hk, hm, hn]; grind⟩
/-- behind a step: t lies in the span iff t', t cut by h, lies in the span of the others -/
theorem lies_step {h t t' : Vec} {j0 : Nat} (hS : S h) (st : ∀ r, S r → (∀ j, ∃ k, r j = h j + p * k) ∨ ∃ r', T r' ∧ Cut p h r r') (bk : ∀ r', T r' → ∃ r, S r ∧ Cut p h r r') (h0 : ∀ r', T r' → ∃ k, r' j0 = p * k)
    (hu : ∃ i k, h j0 * i = 1 + p * k) (ct : Cut p h t t') (t0 : ∃ k, t' j0 = p * k) : Sp p S t ↔ Sp p T t' := by
  constructor
  · intro ht
    obtain ⟨c, v, hv, e⟩ := decomp st ht
    obtain ⟨a, a', b, ha, et⟩ := ct
    obtain ⟨kv, hkv⟩ := hv.at0 h0
    obtain ⟨i, ki, hi⟩ := hu
    obtain ⟨k0, hk0⟩ := t0
    obtain ⟨k1, hk1⟩ := e j0
    obtain ⟨k2, hk2⟩ := et j0
    have hz : ∃ k, a * c - b = p * k := by
      refine ⟨i * (k0 - k2 - a * kv - a * k1) - (a * c - b) * ki, ?_⟩
      have e1 : (a * c - b) * h j0 = p * (k0 - k2 - a * kv - a * k1) := by
        rw [hk1, hkv] at hk2
        rw [hk0] at hk2
        grind
      have e2 : (a * c - b) * (h j0 * i) = (a * c - b) * (1 + p * ki) := by rw [hi]
      have e3 : (a * c - b) * (h j0 * i) = p * (k0 - k2 - a * kv - a * k1) * i := by rw [← e1]; grind
      grind
    obtain ⟨kz, hkz⟩ := hz
    refine (hv.mul a).eqv fun j => ?_
    obtain ⟨k3, hk3⟩ := e j
    obtain ⟨k4, hk4⟩ := et j
    refine ⟨kz * h j + a * k3 + k4, ?_⟩
    rw [hk4, hk3]
    have : (a * c - b) * h j = p * kz * h j := by rw [hkz]
    grind
  · intro ht
    have h1 : Sp p S t' := ht.mono fun r' hr' => by
      obtain ⟨r, hr, a, a', b, _, e⟩ := bk r' hr'
      refine (((Sp.one (p := p) hr).mul a).sum ((Sp.one (p := p) hS).mul (-b))).eqv fun j => ?_
      obtain ⟨k, hk⟩ := e j
      exact ⟨k, by rw [hk]; grind⟩
    obtain ⟨a', b', e⟩ := ct.back
    refine ((h1.mul a').sum ((Sp.one (p := p) hS).mul b')).eqv fun j => ?_
    obtain ⟨k, hk⟩ := e j
    exact ⟨k, by rw [hk]⟩
end DM

namespace DM
def gz (r : List Int) : Vec := fun j => r.getD j 0
/-- numbers of the range, all of one length -/
structure Row (p : Int) (n : Nat) (r : List Int) : Prop where
  len : r.length = n
  lo : ∀ j, 0 ≤ gz r j
  hi : ∀ j, gz r j < p
def cutRow (p : Int) (j : Nat) (h r : List Int) : List Int := if gz r j = 0 then r else (r.zip h).map fun z => (z.1 * gz h j - z.2 * gz r j) % p
theorem gz_zip {n : Nat} {r h : List Int} (hr : r.length = n) (hh : h.length = n) (f : Int × Int → Int) (f0 : f (0, 0) = 0) (i : Nat) : gz ((r.zip h).map f) i = f (gz r i, gz h i) := by
  unfold gz
  by_cases q : i < n
  · have h1 : i < r.length := by omega
    have h2 : i < h.length := by omega
    have h3 : i < ((r.zip h).map f).length := by simp; omega
    rw [List.getD_eq_getElem?_getD, List.getD_eq_getElem?_getD, List.getD_eq_getElem?_getD, List.getElem?_eq_getElem h3, List.getElem?_eq_getElem h1, List.getElem?_eq_getElem h2]
    simp
  · rw [List.getD_eq_getElem?_getD, List.getD_eq_getElem?_getD, List.getD_eq_getElem?_getD, List.getElem?_eq_none (by simp; omega), List.getElem?_eq_none (by omega), List.getElem?_eq_none (by omega)]
    exact f0.symm
theorem cut_at {p : Int} {n j : Nat} {h r : List Int} (hr : r.length = n) (hh : h.length = n) (i : Nat) : gz (cutRow p j h r) i = if gz r j = 0 then gz r i else (gz r i * gz h j - gz h i * gz r j) % p := by
  unfold cutRow
  split
  · rfl
  · exact gz_zip hr hh (fun z => (z.1 * gz h j - z.2 * gz r j) % p) (by simp) i
theorem cut_row {p : Int} {n j : Nat} {h r : List Int} (hp : 0 < p) (hr : Row p n r) (hh : Row p n h) : Row p n (cutRow p j h r) := by
  refine ⟨?_, fun i => ?_, fun i => ?_⟩
  · unfold cutRow
    split
    · exact hr.len
    · simp [hr.len, hh.len]
  · rw [cut_at hr.len hh.len]
    split
    · exact hr.lo i
    · exact Int.emod_nonneg _ (by omega)
  · rw [cut_at hr.len hh.len]
    split
    · exact hr.hi i
    · exact Int.emod_lt_of_pos _ hp
theorem cut_zero {p : Int} {n j : Nat} {h r : List Int} (hr : r.length = n) (hh : h.length = n) : gz (cutRow p j h r) j = 0 := by
  rw [cut_at hr hh]
  split
  · assumption
  · rw [show gz r j * gz h j - gz h j * gz r j = 0 by grind]; rfl
/-- every number that is not 0 has an inverse -/
def Inv (p : Int) : Prop := ∀ x, 0 < x → x < p → ∃ i k, x * i = 1 + p * k
theorem cut_cut {p : Int} {n j : Nat} {h r : List Int} (hu : ∃ i k, gz h j * i = 1 + p * k) (hr : r.length = n) (hh : h.length = n) : Cut p (gz h) (gz r) (gz (cutRow p j h r)) := by
  by_cases q : gz r j = 0
  · refine ⟨1, 1, 0, ⟨0, by simp⟩, fun i => ⟨0, ?_⟩⟩
    rw [cut_at hr hh, if_pos q]
    grind
  · obtain ⟨i, k, e⟩ := hu
    refine ⟨gz h j, i, gz r j, ⟨k, e⟩, fun m => ⟨- ((gz r m * gz h j - gz h m * gz r j) / p), ?_⟩⟩
    rw [cut_at hr hh, if_neg q]
    have := Int.mul_ediv_add_emod (gz r m * gz h j - gz h m * gz r j) p
    grind
/-- the first row that is not 0 at a place, and the others -/
def pick (j : Nat) : List (List Int) → Option (List Int × List (List Int))
  | [] => none
  | r :: rs => if gz r j = 0 then (pick j rs).map fun z => (z.1, r :: z.2) else some (r, rs)
def elim (p : Int) : List Nat → List (List Int) → Nat
  | [], _ => 0
  | j :: js, rows => match pick j rows with
    | none => elim p js rows
    | some (h, rest) => 1 + elim p js (rest.map (cutRow p j h))
theorem pick_none {j : Nat} : ∀ {rows : List (List Int)}, pick j rows = none → ∀ r ∈ rows, gz r j = 0
  | [], _, r, hr => by simp at hr
  | r0 :: rs, h, r, hr => by
    unfold pick at h
    split at h
    · rename_i z
      rcases List.mem_cons.mp hr with e | hr
      · rw [e]; exact z
      · exact pick_none (by simpa using h) r hr
    · cases h
theorem pick_some {j : Nat} : ∀ {rows : List (List Int)} {h : List Int} {rest : List (List Int)}, pick j rows = some (h, rest) → gz h j ≠ 0 ∧ ∀ r, r ∈ rows ↔ r = h ∨ r ∈ rest
  | r0 :: rs, h, rest, e => by
    unfold pick at e
    split at e
    · cases q : pick j rs with
      | none => rw [q] at e; cases e
      | some z =>
        rw [q] at e
        obtain ⟨h', rest'⟩ := z
        cases e
        obtain ⟨a, b⟩ := pick_some q
        refine ⟨a, fun r => ?_⟩
        rw [List.mem_cons, List.mem_cons, b r]
        grind
    · cases e
      rename_i z
      exact ⟨z, fun r => List.mem_cons⟩
theorem pick_cons (j : Nat) (r : List Int) (rs : List (List Int)) : pick j (r :: rs) = if gz r j = 0 then (pick j rs).map fun z => (z.1, r :: z.2) else some (r, rs) := rfl
theorem pick_app {j : Nat} {t : List Int} : ∀ {rows : List (List Int)}, pick j (rows ++ [t]) = match pick j rows with
    | some (h, rest) => some (h, rest ++ [t])
    | none => if gz t j = 0 then none else some (t, rows)
  | [] => by
    show pick j [t] = _
    rw [pick_cons]
    show (if gz t j = 0 then _ else _) = if gz t j = 0 then none else some (t, [])
    split <;> rfl
  | r :: rs => by
    rw [List.cons_append, pick_cons, pick_cons, pick_app (rows := rs)]
    by_cases q : gz r j = 0
    · rw [if_pos q, if_pos q]
      cases pick j rs with
      | none => by_cases z : gz t j = 0 <;> simp [z]
      | some z => rfl
    · rw [if_neg q, if_neg q]
theorem map_cut0 {p : Int} {j : Nat} {h : List Int} : ∀ {rows : List (List Int)}, (∀ r ∈ rows, gz r j = 0) → rows.map (cutRow p j h) = rows
  | [], _ => rfl
  | r :: rs, e => by
    rw [List.map_cons, map_cut0 fun x hx => e x (List.mem_cons_of_mem _ hx)]
    unfold cutRow
    rw [if_pos (e r (List.mem_cons_self ..))]
/-- the rows, as vectors -/
def InR (rows : List (List Int)) : Vec → Prop := fun v => ∃ r ∈ rows, v = gz r
/-- one more row: the count grows by one, or not at all if the row lies in the span of the others -/
theorem elim_app {p : Int} {n : Nat} (hp : 1 < p) (hi : Inv p) : ∀ (js : List Nat) (rows : List (List Int)) (t : List Int), (∀ r ∈ rows, Row p n r) → Row p n t → (∀ r ∈ rows, ∀ i, i ∉ js → gz r i = 0) → (∀ i, i ∉ js → gz t i = 0) →
    (Sp p (InR rows) (gz t) ∧ elim p js (rows ++ [t]) = elim p js rows) ∨ (¬ Sp p (InR rows) (gz t) ∧ elim p js (rows ++ [t]) = elim p js rows + 1)
  | [], rows, t, hr, ht, zr, zt => .inl ⟨.zero fun j => ⟨0, by rw [zt j (by simp)]; simp⟩, rfl⟩
  | j :: js, rows, t, hr, ht, zr, zt => by
    have out : ∀ {r : List Int} {i : Nat}, (∀ i, i ∉ j :: js → gz r i = 0) → gz r j = 0 → i ∉ js → gz r i = 0 := fun {r i} a b c => by
      by_cases e : i = j
      · rw [e]; exact b
      · exact a i fun z => (List.mem_cons.mp z).elim e c
    rw [elim, elim, pick_app]
    cases q : pick j rows with
    | none =>
      have z := pick_none q
      by_cases z2 : gz t j = 0
      · rw [if_pos z2]
        exact elim_app hp hi js rows t hr ht (fun r hr i hn => out (zr r hr) (z r hr) hn) fun i hn => out zt z2 hn
      · rw [if_neg z2]
        refine .inr ⟨fun h => ?_, ?_⟩
        · obtain ⟨k, hk⟩ := h.at0 (j0 := j) fun v ⟨r, hr, e⟩ => ⟨0, by rw [e, z r hr]; simp⟩
          have h1 := ht.lo j
          have h2 := ht.hi j
          rw [hk] at h1 h2 z2
          have : 0 ≤ k := by
            false_or_by_contra
            have : p * k ≤ p * (-1) := Int.mul_le_mul_of_nonneg_left (by omega) (by omega)
            omega
          have : k < 1 := by
            false_or_by_contra
            have : p * 1 ≤ p * k := Int.mul_le_mul_of_nonneg_left (by omega) (by omega)
            omega
          have : k = 0 := by omega
          subst this
          simp at z2
        · show 1 + elim p js (rows.map (cutRow p j t)) = elim p js rows + 1
          rw [map_cut0 z]
          omega
    | some x =>
      obtain ⟨h, rest⟩ := x
      obtain ⟨hz, hm⟩ := pick_some q
      have hh : Row p n h := hr h ((hm h).mpr (.inl rfl))
      have hu : ∃ i k, gz h j * i = 1 + p * k := hi _ (by have := hh.lo j; omega) (hh.hi j)
      have rr : ∀ r ∈ rest, Row p n r := fun r m => hr r ((hm r).mpr (.inr m))
      have zrest : ∀ {r : List Int}, Row p n r → (∀ i, i ∉ j :: js → gz r i = 0) → ∀ i, i ∉ js → gz (cutRow p j h r) i = 0 := fun {r} hrow a i hn => by
        by_cases e : i = j
        · rw [e]; exact cut_zero hrow.len hh.len
        · rw [cut_at hrow.len hh.len]
          have b := a i fun z => (List.mem_cons.mp z).elim e hn
          have c := zr h ((hm h).mpr (.inl rfl)) i fun z => (List.mem_cons.mp z).elim e hn
          rw [b, c]
          split
          · rfl
          · simp
      have ih := elim_app (n := n) hp hi js (rest.map (cutRow p j h)) (cutRow p j h t) (fun r m => by
        obtain ⟨r0, m0, e⟩ := List.mem_map.mp m
        rw [← e]; exact cut_row (by omega) (rr r0 m0) hh) (cut_row (by omega) ht hh) (fun r m i hn => by
        obtain ⟨r0, m0, e⟩ := List.mem_map.mp m
        rw [← e]; exact zrest (rr r0 m0) (zr r0 ((hm r0).mpr (.inr m0))) i hn) (zrest ht zt)
      have st : Sp p (InR rows) (gz t) ↔ Sp p (InR (rest.map (cutRow p j h))) (gz (cutRow p j h t)) := by
        refine lies_step (h := gz h) (j0 := j) ⟨h, (hm h).mpr (.inl rfl), rfl⟩ (fun v ⟨r, mr, e⟩ => ?_) (fun v ⟨r, mr, e⟩ => ?_) (fun v ⟨r, mr, e⟩ => ?_) hu (cut_cut hu ht.len hh.len) ⟨0, by rw [cut_zero ht.len hh.len]; simp⟩
        · rcases (hm r).mp mr with z | z
          · exact .inl fun i => ⟨0, by rw [e, z]; simp⟩
          · exact .inr ⟨_, ⟨cutRow p j h r, List.mem_map.mpr ⟨r, z, rfl⟩, rfl⟩, by rw [e]; exact cut_cut hu (rr r z).len hh.len⟩
        · obtain ⟨r0, m0, e0⟩ := List.mem_map.mp mr
          exact ⟨gz r0, ⟨r0, (hm r0).mpr (.inr m0), rfl⟩, by rw [e, ← e0]; exact cut_cut hu (rr r0 m0).len hh.len⟩
        · obtain ⟨r0, m0, e0⟩ := List.mem_map.mp mr
          exact ⟨0, by rw [e, ← e0, cut_zero (rr r0 m0).len hh.len]; simp⟩
      show (_ ∧ 1 + elim p js ((rest ++ [t]).map (cutRow p j h)) = 1 + elim p js (rest.map (cutRow p j h))) ∨ (_ ∧ 1 + elim p js ((rest ++ [t]).map (cutRow p j h)) = 1 + elim p js (rest.map (cutRow p j h)) + 1)
      rw [List.map_append, st]
      rcases ih with ⟨a, b⟩ | ⟨a, b⟩
      · exact .inl ⟨a, by rw [← b]; rfl⟩
      · exact .inr ⟨a, by
          show 1 + elim p js (rest.map (cutRow p j h) ++ [cutRow p j h t]) = _
          rw [b]
          omega⟩
end DM

namespace DM
variable {p : Int} {S : Vec → Prop}
/-! ### equations -/
def dot : Nat → Vec → Vec → Int
  | 0, _, _ => 0
  | m + 1, r, y => dot m r y + r m * y m
theorem dot_lin {v r w y : Vec} {c : Int} (h : ∀ j, ∃ k, w j = v j + c * r j + p * k) : ∀ m, ∃ k, dot m w y = dot m v y + c * dot m r y + p * k
  | 0 => ⟨0, by simp [dot]⟩
  | m + 1 => by
    obtain ⟨k, hk⟩ := dot_lin h m
    obtain ⟨n, hn⟩ := h m
    refine ⟨k + n * y m, ?_⟩
    rw [dot, dot, dot, hk, hn]
    grind
theorem dot_zero {v y : Vec} (h : ∀ j, ∃ k, v j = p * k) : ∀ m, ∃ k, dot m v y = p * k
  | 0 => ⟨0, by simp [dot]⟩
  | m + 1 => by
    obtain ⟨k, hk⟩ := dot_zero h m
    obtain ⟨n, hn⟩ := h m
    exact ⟨k + n * y m, by rw [dot, hk, hn]; grind⟩
/-- what solves all of S solves what lies in its span -/
theorem Sp.dot {m : Nat} {y : Vec} (h : ∀ r, S r → ∃ k, dot m r y = p * k) {v : Vec} (hv : Sp p S v) : ∃ k, dot m v y = p * k := by
  induction hv with
  | zero hz => exact dot_zero hz m
  | @add u r w c hr hu e ih =>
    obtain ⟨k, hk⟩ := dot_lin (y := y) e m
    obtain ⟨a, ha⟩ := ih
    obtain ⟨b, hb⟩ := h r hr
    exact ⟨a + c * b + k, by rw [hk, ha, hb]; grind⟩
theorem dot_congr {r s y z : Vec} : ∀ {m : Nat}, (∀ i, i < m → r i * y i = s i * z i) → dot m r y = dot m s z
  | 0, _ => rfl
  | m + 1, h => by rw [dot, dot, dot_congr (m := m) fun i hi => h i (by omega), h m (by omega)]
/-! ### reduced rows -/
/-- l is where r begins, with a 1 -/
structure Lead (r : List Int) (l : Nat) : Prop where
  one : gz r l = 1
  zero : ∀ i, i < l → gz r i = 0
theorem Lead.eq {r : List Int} {l l' : Nat} (h : Lead r l) (h' : Lead r l') : l = l' := by
  rcases Nat.lt_trichotomy l l' with z | z | z
  · have := h'.zero l z; rw [h.one] at this; omega
  · exact z
  · have := h.zero l' z; rw [h'.one] at this; omega
structure Red (p : Int) (n : Nat) (B : List (List Int)) : Prop where
  row : ∀ r ∈ B, Row p n r
  lead : ∀ r ∈ B, ∃ l, l < n ∧ Lead r l
  off : ∀ r ∈ B, ∀ l, Lead r l → ∀ s ∈ B, s ≠ r → gz s l = 0
/-- the answer that a reduced basis tells solves its rows -/
theorem Red.solve {m : Nat} {B : List (List Int)} {x : Vec} (h : Red p (m + 1) B) (hx : ∀ r ∈ B, ∀ l, Lead r l → x l = gz r m) (h0 : ∀ i, (∀ r ∈ B, ¬ Lead r i) → x i = 0) (hm : ∀ r ∈ B, ¬ Lead r m) :
    ∀ r ∈ B, dot m (gz r) x = gz r m := fun r hr => by
  obtain ⟨l, hl, L⟩ := h.lead r hr
  have hlm : l < m := by
    have : l ≠ m := fun e => hm r hr (e ▸ L)
    omega
  have term : ∀ i, gz r i * x i = if i = l then gz r m else 0 := fun i => by
    by_cases e : i = l
    · rw [if_pos e, e, L.one, hx r hr l L]; omega
    · rw [if_neg e]
      by_cases q : ∃ s ∈ B, Lead s i
      · obtain ⟨s, hs, Ls⟩ := q
        have ne : r ≠ s := fun z => e (Lead.eq (z ▸ Ls) L)
        rw [h.off s hs i Ls r hr ne]
        simp
      · rw [h0 i fun s hs Ls => q ⟨s, hs, Ls⟩]
        simp
  have go : ∀ k, dot k (gz r) x = if l < k then gz r m else 0 := fun k => by
    induction k with
    | zero => simp [DM.dot]
    | succ k ih =>
      rw [DM.dot, ih, term k]
      by_cases a : l < k
      · rw [if_pos a, if_neg (by omega), if_pos (by omega)]; omega
      · by_cases b : k = l
        · rw [if_neg a, if_pos b, if_pos (by omega)]; omega
        · rw [if_neg a, if_neg b, if_neg (by omega)]; omega
  rw [go m, if_pos hlm]
/-- a row that begins at the last place is solved by nothing -/
theorem no_solve {m : Nat} {r : List Int} {y : Vec} (hp : 1 < p) (L : Lead r m) (hy : y m = -1) : ¬ ∃ k, dot (m + 1) (gz r) y = p * k := fun ⟨k, hk⟩ => by
  have z : dot m (gz r) y = 0 := by
    have : dot m (gz r) y = dot m (fun _ => 0) y := dot_congr fun i hi => by rw [L.zero i hi]
    rw [this]
    have e : ∀ m, dot m (fun _ => 0) y = 0 := fun m => by
      induction m with
      | zero => rfl
      | succ m ih => rw [DM.dot, ih]; simp
    exact e m
  rw [DM.dot, z, L.one, hy] at hk
  have h1 : p * k = -1 := by omega
  have h2 : p * (-k) = 1 := by grind
  rcases Int.lt_trichotomy k 0 with c | c | c
  · have : p * 1 ≤ p * (-k) := Int.mul_le_mul_of_nonneg_left (by omega) (by omega)
    omega
  · rw [c] at h1; omega
  · have : p * 0 ≤ p * k := Int.mul_le_mul_of_nonneg_left (by omega) (by omega)
    omega
/-! ### sums of rows -/
def comb : List (List Int) → List Int → Vec
  | r :: rs, x :: xs => fun c => x * gz r c + comb rs xs c
  | _, _ => fun _ => 0
theorem Sp.of_comb : ∀ {rows : List (List Int)} {xs : List Int}, Sp p (InR rows) (comb rows xs)
  | [], _ => .zero fun _ => ⟨0, by simp [comb]⟩
  | _ :: _, [] => .zero fun _ => ⟨0, by simp [comb]⟩
  | r :: rs, x :: xs => by
    have h1 : Sp p (InR (r :: rs)) (comb rs xs) := (Sp.of_comb (rows := rs) (xs := xs)).mono fun v ⟨s, hs, e⟩ => Sp.one ⟨s, List.mem_cons_of_mem _ hs, e⟩
    refine .add x ⟨r, List.mem_cons_self .., rfl⟩ h1 fun j => ⟨0, ?_⟩
    show x * gz r j + comb rs xs j = _
    grind
theorem comb_add {r : List Int} : ∀ {rows : List (List Int)} {xs : List Int} (c : Int), xs.length = rows.length → r ∈ rows → ∃ ys, ys.length = rows.length ∧ ∀ j, comb rows ys j = comb rows xs j + c * gz r j
  | r0 :: rs, x :: xs, c, hl, hm => by
    rcases List.mem_cons.mp hm with e | hm
    · refine ⟨(x + c) :: xs, by simpa using hl, fun j => ?_⟩
      show (x + c) * gz r0 j + comb rs xs j = x * gz r0 j + comb rs xs j + c * gz r j
      rw [e]; grind
    · obtain ⟨ys, h1, h2⟩ := comb_add (xs := xs) c (by simpa using hl) hm
      refine ⟨x :: ys, by simp [h1], fun j => ?_⟩
      show x * gz r0 j + comb rs ys j = x * gz r0 j + comb rs xs j + c * gz r j
      rw [h2]; grind
  | [], _, _, _, hm => by simp at hm
  | _ :: _, [], _, hl, _ => by simp at hl
theorem Sp.to_comb {rows : List (List Int)} {v : Vec} (h : Sp p (InR rows) v) : ∃ xs, xs.length = rows.length ∧ ∀ j, ∃ k, v j = comb rows xs j + p * k := by
  induction h with
  | @zero v h =>
    refine ⟨List.replicate rows.length 0, by simp, fun j => ?_⟩
    obtain ⟨k, hk⟩ := h j
    have : ∀ rows : List (List Int), comb rows (List.replicate rows.length 0) j = 0 := fun rows => by
      induction rows with
      | nil => rfl
      | cons r rs ih =>
        show 0 * gz r j + comb rs (List.replicate rs.length 0) j = 0
        rw [ih]; simp
    exact ⟨k, by rw [this, hk]; simp⟩
  | @add u r w c hr hu e ih =>
    obtain ⟨xs, h1, h2⟩ := ih
    obtain ⟨r', hm, e'⟩ := hr
    obtain ⟨ys, h3, h4⟩ := comb_add (xs := xs) c h1 hm
    refine ⟨ys, h3, fun j => ?_⟩
    obtain ⟨k, hk⟩ := e j
    obtain ⟨n, hn⟩ := h2 j
    exact ⟨n + k, by rw [hk, hn, h4, e']; grind⟩
end DM

namespace DM
variable {p : Int} {n : Nat}
/-! ### rows cleared by a reduced basis -/
def clearAt (p : Int) (j : Nat) (h r : List Int) : List Int := if gz r j = 0 then r else (r.zip h).map fun z => (z.1 - gz r j * z.2) % p
theorem clear_at {j : Nat} {h r : List Int} (hr : r.length = n) (hh : h.length = n) (i : Nat) : gz (clearAt p j h r) i = if gz r j = 0 then gz r i else (gz r i - gz r j * gz h i) % p := by
  unfold clearAt
  split
  · rfl
  · exact gz_zip hr hh (fun z => (z.1 - gz r j * z.2) % p) (by simp) i
theorem clear_row {j : Nat} {h r : List Int} (hp : 0 < p) (hr : Row p n r) (hh : Row p n h) : Row p n (clearAt p j h r) := by
  refine ⟨?_, fun i => ?_, fun i => ?_⟩
  · unfold clearAt
    split
    · exact hr.len
    · simp [hr.len, hh.len]
  · rw [clear_at hr.len hh.len]
    split
    · exact hr.lo i
    · exact Int.emod_nonneg _ (by omega)
  · rw [clear_at hr.len hh.len]
    split
    · exact hr.hi i
    · exact Int.emod_lt_of_pos _ hp
theorem clear_zero {j : Nat} {h r : List Int} (hr : r.length = n) (hh : h.length = n) (h1 : gz h j = 1) : gz (clearAt p j h r) j = 0 := by
  rw [clear_at hr hh]
  split
  · assumption
  · rw [h1, show gz r j - gz r j * 1 = 0 by grind]; rfl
theorem emod_same {x : Int} (h0 : 0 ≤ x) (h1 : x < p) : x % p = x := Int.emod_eq_of_lt h0 h1
/-- where h is 0 nothing changes -/
theorem clear_keep {j i : Nat} {h r : List Int} (hr : Row p n r) (hh : h.length = n) (h0 : gz h i = 0) : gz (clearAt p j h r) i = gz r i := by
  rw [clear_at hr.len hh]
  split
  · rfl
  · rw [h0, Int.mul_zero, Int.sub_zero]
    exact emod_same (hr.lo i) (hr.hi i)
theorem clear_eq {j : Nat} {h r : List Int} (hr : r.length = n) (hh : h.length = n) : ∃ c, ∀ i, ∃ k, gz (clearAt p j h r) i = gz r i - c * gz h i + p * k := by
  by_cases q : gz r j = 0
  · exact ⟨0, fun i => ⟨0, by rw [clear_at hr hh, if_pos q]; simp⟩⟩
  · refine ⟨gz r j, fun i => ⟨- ((gz r i - gz r j * gz h i) / p), ?_⟩⟩
    rw [clear_at hr hh, if_neg q]
    have := Int.mul_ediv_add_emod (gz r i - gz r j * gz h i) p
    grind
def cleared (p : Int) (ld : List Int → Nat) (B : List (List Int)) (r : List Int) : List Int := B.foldl (fun rest h => clearAt p (ld h) h rest) r
/-- what is left: a row that is 0 at all the leads, and differs from r by a sum of the rows -/
theorem cleared_spec {ld : List Int → Nat} {A : List (List Int)} (hp : 0 < p) (hA : Red p n A) (hl : ∀ h ∈ A, Lead h (ld h)) : ∀ (B : List (List Int)) (r : List Int), (∀ h ∈ B, h ∈ A) → Row p n r →
    Row p n (cleared p ld B r) ∧ (∀ h ∈ B, gz (cleared p ld B r) (ld h) = 0) ∧ (∀ h ∈ A, gz r (ld h) = 0 → gz (cleared p ld B r) (ld h) = 0) ∧ ∃ v, Sp p (InR A) v ∧ ∀ i, ∃ k, gz (cleared p ld B r) i = gz r i + v i + p * k
  | [], r, _, hr => ⟨hr, fun h hh => by simp at hh, fun h _ z => z, fun _ => 0, .zero fun _ => ⟨0, by simp⟩, fun i => ⟨0, by simp [cleared]⟩⟩
  | b :: B, r, hs, hr => by
    have hb := hs b (List.mem_cons_self ..)
    have rb := hA.row b hb
    have Lb := hl b hb
    have step : ∀ h ∈ A, gz r (ld h) = 0 → gz (clearAt p (ld b) b r) (ld h) = 0 := fun h hh z => by
      by_cases e : b = h
      · rw [← e]; exact clear_zero hr.len rb.len Lb.one
      · rw [clear_keep hr rb.len (hA.off h hh _ (hl h hh) b hb e)]; exact z
    obtain ⟨h1, h2, h3, v, hv, h4⟩ := cleared_spec hp hA hl B (clearAt p (ld b) b r) (fun h hh => hs h (List.mem_cons_of_mem _ hh)) (clear_row hp hr rb)
    obtain ⟨c, hc⟩ := clear_eq (p := p) (j := ld b) hr.len rb.len
    refine ⟨h1, fun h hh => ?_, fun h hh z => h3 h hh (step h hh z), _, hv.sum ((Sp.one (p := p) (S := InR A) ⟨b, hb, rfl⟩).mul (-c)), fun i => ?_⟩
    · rcases List.mem_cons.mp hh with e | hh
      · rw [e]
        exact h3 b hb (clear_zero hr.len rb.len Lb.one)
      · exact h2 h hh
    · obtain ⟨k, hk⟩ := h4 i
      obtain ⟨m, hm⟩ := hc i
      refine ⟨k + m, ?_⟩
      show gz (cleared p ld B (clearAt p (ld b) b r)) i = _
      rw [hk, hm]
      grind
/-! ### one more row in the basis -/
/-- what a new row, its pivot and the others, each cleared, are; in any order -/
theorem Red.with {B N : List (List Int)} {rest pv : List Int} {a : Nat} (hp : 1 < p) (hB : Red p n B) (hr : Row p n rest) (z : ∀ h ∈ B, ∀ l, Lead h l → gz rest l = 0) (hpv : Row p n pv) (ha : a < n) (L : Lead pv a) (pz : ∀ i, gz rest i = 0 → gz pv i = 0)
    (hN : ∀ r, r ∈ N ↔ r = pv ∨ ∃ s ∈ B, r = clearAt p a pv s) : Red p n N := by
  have keepL : ∀ s ∈ B, ∀ l, Lead s l → Lead (clearAt p a pv s) l := fun s hs l Ls => by
    have rs := hB.row s hs
    have pl : gz pv l = 0 := pz l (z s hs l Ls)
    refine ⟨by rw [clear_keep rs hpv.len pl]; exact Ls.one, fun i hi => ?_⟩
    by_cases q : gz s a = 0
    · rw [clear_at rs.len hpv.len, if_pos q]; exact Ls.zero i hi
    · have hal : l ≤ a := by
        false_or_by_contra
        exact q (Ls.zero a (by omega))
      have : gz pv i = 0 := L.zero i (by omega)
      rw [clear_keep rs hpv.len this]
      exact Ls.zero i hi
  refine ⟨fun r hr' => ?_, fun r hr' => ?_, fun r hr' l Lr s hs ne => ?_⟩
  · rcases (hN r).mp hr' with e | ⟨s, hs, e⟩
    · rw [e]; exact hpv
    · rw [e]; exact clear_row (by omega) (hB.row s hs) hpv
  · rcases (hN r).mp hr' with e | ⟨s, hs, e⟩
    · exact ⟨a, ha, e ▸ L⟩
    · obtain ⟨l, hl, Ls⟩ := hB.lead s hs
      exact ⟨l, hl, e ▸ keepL s hs l Ls⟩
  · rcases (hN r).mp hr' with e | ⟨u, hu, e⟩
    · have : l = a := Lead.eq (e ▸ Lr) L
      rcases (hN s).mp hs with e2 | ⟨w, hw, e2⟩
      · exact (ne (e2.trans e.symm)).elim
      · rw [e2, this]
        exact clear_zero (hB.row w hw).len hpv.len L.one
    · obtain ⟨l', hl', Lu⟩ := hB.lead u hu
      have el : l = l' := Lead.eq (e ▸ Lr) (keepL u hu l' Lu)
      have pl : gz pv l' = 0 := pz l' (z u hu l' Lu)
      rcases (hN s).mp hs with e2 | ⟨w, hw, e2⟩
      · rw [e2, el]; exact pl
      · rw [e2, el, clear_keep (hB.row w hw) hpv.len pl]
        refine hB.off u hu l' Lu w hw fun z => ne ?_
        rw [e2, e, z]
/-- the span with the new row -/
theorem with_span {B N : List (List Int)} {rest pv : List Int} {a : Nat} {f : Int} (hB : Red p n B) (hpv : Row p n pv) (hf : ∃ g k, f * g = 1 + p * k) (e : ∀ i, ∃ k, gz pv i = f * gz rest i + p * k)
    (hN : ∀ r, r ∈ N ↔ r = pv ∨ ∃ s ∈ B, r = clearAt p a pv s) : ∀ v, Sp p (InR N) v ↔ Sp p (fun w => InR B w ∨ w = gz rest) v := by
  intro v
  constructor
  · refine Sp.mono fun r ⟨x, hx, ex⟩ => ?_
    have hpvS : Sp p (fun w => InR B w ∨ w = gz rest) (gz pv) := ((Sp.one (p := p) (S := fun w => InR B w ∨ w = gz rest) (.inr rfl)).mul f).eqv fun i => e i
    rcases (hN x).mp hx with q | ⟨s, hs, q⟩
    · rw [ex, q]; exact hpvS
    · obtain ⟨c, hc⟩ := clear_eq (p := p) (j := a) (hB.row s hs).len hpv.len
      rw [ex, q]
      refine ((Sp.one (p := p) (S := fun w => InR B w ∨ w = gz rest) (.inl ⟨s, hs, rfl⟩)).sum (hpvS.mul (-c))).eqv fun i => ?_
      obtain ⟨k, hk⟩ := hc i
      exact ⟨k, by rw [hk]; grind⟩
  · have hpvS : Sp p (InR N) (gz pv) := Sp.one ⟨pv, (hN pv).mpr (.inl rfl), rfl⟩
    refine Sp.mono fun r hr => ?_
    rcases hr with ⟨s, hs, ex⟩ | ex
    · obtain ⟨c, hc⟩ := clear_eq (p := p) (j := a) (hB.row s hs).len hpv.len
      rw [ex]
      refine ((Sp.one (p := p) (S := InR N) ⟨_, (hN _).mpr (.inr ⟨s, hs, rfl⟩), rfl⟩).sum (hpvS.mul c)).eqv fun i => ?_
      obtain ⟨k, hk⟩ := hc i
      exact ⟨-k, by rw [hk]; grind⟩
    · obtain ⟨g, k0, hg⟩ := hf
      rw [ex]
      refine (hpvS.mul g).eqv fun i => ?_
      obtain ⟨k, hk⟩ := e i
      refine ⟨- k0 * gz rest i - g * k, ?_⟩
      rw [hk]
      have : f * g * gz rest i = (1 + p * k0) * gz rest i := by rw [hg]
      grind
end DM

namespace DM
variable {p : Int} {n : Nat}
/-- the whole basis, by steps: `rel B r N`: N is what a turn makes of B at the row r -/
structure Turn (p : Int) (n : Nat) (B : List (List Int)) (r : List Int) (N : List (List Int)) : Prop where
  red : Red p n N
  span : ∀ v, Sp p (InR N) v ↔ Sp p (fun w => InR B w ∨ w = gz r) v
/-- what cleared leaves and r: the same span beside B -/
theorem span_cleared {B : List (List Int)} {r rest : List Int} {u : Vec} (hu : Sp p (InR B) u) (e : ∀ i, ∃ k, gz rest i = gz r i + u i + p * k) : ∀ v, Sp p (fun w => InR B w ∨ w = gz rest) v ↔ Sp p (fun w => InR B w ∨ w = gz r) v := by
  intro v
  constructor
  · refine Sp.mono fun w hw => ?_
    rcases hw with hw | hw
    · exact Sp.one (.inl hw)
    · rw [hw]
      refine ((Sp.one (p := p) (S := fun w => InR B w ∨ w = gz r) (.inr rfl)).sum (hu.mono fun x hx => Sp.one (.inl hx))).eqv fun i => e i
  · refine Sp.mono fun w hw => ?_
    rcases hw with hw | hw
    · exact Sp.one (.inl hw)
    · rw [hw]
      refine ((Sp.one (p := p) (S := fun w => InR B w ∨ w = gz rest) (.inr rfl)).sum ((hu.mono (T := fun w => InR B w ∨ w = gz rest) fun x hx => Sp.one (.inl hx)).mul (-1))).eqv fun i => ?_
      obtain ⟨k, hk⟩ := e i
      exact ⟨-k, by rw [hk]; grind⟩
/-- nothing is left: B stays -/
theorem turn_none {B : List (List Int)} {r rest : List Int} {u : Vec} (hB : Red p n B) (hu : Sp p (InR B) u) (e : ∀ i, ∃ k, gz rest i = gz r i + u i + p * k) (z : ∀ i, gz rest i = 0) : Turn p n B r B := by
  refine ⟨hB, fun v => ?_⟩
  rw [← span_cleared hu e]
  constructor
  · exact Sp.mono fun w hw => Sp.one (.inl hw)
  · refine Sp.mono fun w hw => ?_
    rcases hw with hw | hw
    · exact Sp.one hw
    · rw [hw]; exact .zero fun j => ⟨0, by rw [z j]; simp⟩
/-- the first place that is not 0 -/
structure First (r : List Int) (a : Nat) : Prop where
  ne : gz r a ≠ 0
  zero : ∀ i, i < a → gz r i = 0
def times (p f : Int) (r : List Int) : List Int := r.map fun x => x * f % p
theorem times_at {f : Int} {r : List Int} (i : Nat) : gz (times p f r) i = gz r i * f % p := by
  unfold times gz
  rw [List.getD_eq_getElem?_getD, List.getD_eq_getElem?_getD, List.getElem?_map]
  cases r[i]? with
  | none => simp
  | some x => rfl
theorem times_row {f : Int} {r : List Int} (hp : 0 < p) (hr : Row p n r) : Row p n (times p f r) :=
  ⟨by unfold times; rw [List.length_map]; exact hr.len, fun i => by rw [times_at]; exact Int.emod_nonneg _ (by omega), fun i => by rw [times_at]; exact Int.emod_lt_of_pos _ hp⟩
/-- something is left: the basis with the pivot -/
theorem turn_some {B N : List (List Int)} {r rest : List Int} {u : Vec} {a : Nat} {f : Int} (hp : 1 < p) (hB : Red p n B) (hr : Row p n rest) (z : ∀ h ∈ B, ∀ l, Lead h l → gz rest l = 0) (hu : Sp p (InR B) u) (e : ∀ i, ∃ k, gz rest i = gz r i + u i + p * k)
    (F : First rest a) (ha : a < n) (hf : gz rest a * f % p = 1) (hN : ∀ x, x ∈ N ↔ x = times p f rest ∨ ∃ s ∈ B, x = clearAt p a (times p f rest) s) : Turn p n B r N := by
  have hpv := times_row (f := f) (p := p) (by omega) hr
  refine ⟨Red.with hp hB hr z hpv ha ⟨by rw [times_at]; exact hf, fun i hi => by rw [times_at, F.zero i hi]; simp⟩ (fun i hi => by rw [times_at, hi]; simp) hN, fun v => ?_⟩
  rw [with_span (f := f) (rest := rest) hB hpv ⟨gz rest a, gz rest a * f / p, by
    have := Int.mul_ediv_add_emod (gz rest a * f) p
    grind⟩ (fun i => ⟨- (gz rest i * f / p), by
    rw [times_at, Int.emod_def, Int.mul_neg, Int.mul_comm f]
    rfl⟩) hN]
  exact span_cleared hu e v
theorem red_nil : Red p n [] := ⟨fun _ h => by simp at h, fun _ h => by simp at h, fun _ h => by simp at h⟩
/-- all rows, one behind another -/
theorem turns {step : List (List Int) → List Int → List (List Int)} (hs : ∀ B r, Red p n B → Row p n r → Turn p n B r (step B r)) : ∀ (rows B : List (List Int)), Red p n B → (∀ r ∈ rows, Row p n r) →
    Red p n (rows.foldl step B) ∧ ∀ v, Sp p (InR (rows.foldl step B)) v ↔ Sp p (fun w => InR B w ∨ InR rows w) v
  | [], B, hB, _ => ⟨hB, fun v => ⟨Sp.mono fun w hw => Sp.one (.inl hw), Sp.mono fun w hw => by
      rcases hw with hw | ⟨r, hr, _⟩
      · exact Sp.one hw
      · simp at hr⟩⟩
  | r :: rows, B, hB, hr => by
    have t := hs B r hB (hr r (List.mem_cons_self ..))
    obtain ⟨h1, h2⟩ := turns hs rows (step B r) t.red fun x hx => hr x (List.mem_cons_of_mem _ hx)
    refine ⟨h1, fun v => ?_⟩
    show Sp p (InR (rows.foldl step (step B r))) v ↔ _
    rw [h2 v]
    constructor
    · refine Sp.mono fun w hw => ?_
      rcases hw with hw | ⟨s, hs', e⟩
      · refine ((t.span w).mp (Sp.one hw)).mono fun x hx => ?_
        rcases hx with hx | hx
        · exact Sp.one (.inl hx)
        · exact Sp.one (.inr ⟨r, List.mem_cons_self .., hx⟩)
      · exact Sp.one (.inr ⟨s, List.mem_cons_of_mem _ hs', e⟩)
    · refine Sp.mono fun w hw => ?_
      rcases hw with hw | ⟨s, hs', e⟩
      · exact ((t.span w).mpr (Sp.one (.inl hw))).mono fun x hx => Sp.one (.inl hx)
      · rcases List.mem_cons.mp hs' with q | hs'
        · exact ((t.span w).mpr (Sp.one (.inr (by rw [e, q])))).mono fun x hx => Sp.one (.inl hx)
        · exact Sp.one (.inr ⟨s, hs', e⟩)
end DM

namespace DM
variable {p : Int}
theorem dot_shift (r y : Vec) : ∀ m, dot (m + 1) r y = r 0 * y 0 + dot m (fun i => r (i + 1)) (fun i => y (i + 1))
  | 0 => by simp [dot]
  | m + 1 => by
    rw [dot, dot_shift r y m, dot]
    omega
theorem dot_comb (c : Nat) : ∀ (rows : List (List Int)) (xs : List Int), xs.length = rows.length → dot rows.length (fun i => gz (rows.getD i []) c) (fun i => xs.getD i 0) = comb rows xs c
  | [], [], _ => rfl
  | r :: rs, x :: xs, h => by
    have ih := dot_comb c rs xs (by simpa using h)
    show dot (rs.length + 1) _ _ = x * gz r c + comb rs xs c
    rw [dot_shift, ← ih]
    show gz r c * x + _ = x * gz r c + _
    rw [Int.mul_comm]
    rfl
  | [], _ :: _, h => by simp at h
  | _ :: _, [], h => by simp at h
/-- an equation: what stands at c in the rows and in the target -/
def eqn (rows : List (List Int)) (t : List Int) (c : Nat) : List Int := rows.map (fun r => gz r c) ++ [gz t c]
theorem eqn_lo {rows : List (List Int)} {t : List Int} {c i : Nat} (h : i < rows.length) : gz (eqn rows t c) i = gz (rows.getD i []) c := by
  show (eqn rows t c).getD i 0 = _
  unfold eqn
  rw [List.getD_eq_getElem?_getD, List.getD_eq_getElem?_getD, List.getElem?_append_left (by rw [List.length_map]; exact h), List.getElem?_map, List.getElem?_eq_getElem h]
  rfl
theorem eqn_hi {rows : List (List Int)} {t : List Int} {c : Nat} : gz (eqn rows t c) rows.length = gz t c := by
  show (eqn rows t c).getD rows.length 0 = _
  unfold eqn
  rw [List.getD_eq_getElem?_getD, List.getElem?_append_right (by simp)]
  simp
/-- the equation at c, with -1 behind the factors -/
theorem dot_eqn {rows : List (List Int)} {t xs : List Int} {c : Nat} {y : Vec} (hl : xs.length = rows.length) (hy : ∀ i, i < rows.length → y i = xs.getD i 0) (hm : y rows.length = -1) : dot (rows.length + 1) (gz (eqn rows t c)) y = comb rows xs c - gz t c := by
  rw [dot, hm, eqn_hi, dot_congr (s := fun i => gz (rows.getD i []) c) (z := fun i => xs.getD i 0) fun i hi => by rw [eqn_lo hi, hy i hi], dot_comb c rows xs hl]
  omega
variable {n : Nat}
/-- a row of the basis begins at the last place: the target does not lie in the span -/
theorem lies_not {rows B : List (List Int)} {t : List Int} {eqs : List (List Int)} (hp : 1 < p) (he : ∀ e ∈ eqs, ∃ c, e = eqn rows t c) (sp : ∀ v, Sp p (InR B) v ↔ Sp p (InR eqs) v) {r : List Int} (hr : r ∈ B) (L : Lead r rows.length) : ¬ Sp p (InR rows) (gz t) := fun h => by
  obtain ⟨xs, hl, hx⟩ := h.to_comb
  let y : Vec := fun i => if i < rows.length then xs.getD i 0 else -1
  refine no_solve (y := y) hp L (by show (if rows.length < rows.length then _ else _) = _; rw [if_neg (Nat.lt_irrefl _)]) ?_
  refine Sp.dot (S := InR eqs) (fun v ⟨e, hm, ev⟩ => ?_) ((sp _).mp (Sp.one ⟨r, hr, rfl⟩))
  obtain ⟨c, ec⟩ := he e hm
  obtain ⟨k, hk⟩ := hx c
  refine ⟨-k, ?_⟩
  rw [ev, ec, dot_eqn hl (fun i hi => if_pos hi) (if_neg (Nat.lt_irrefl _)), hk]
  grind
/-- no row of it begins there: the factors that it tells make the target -/
theorem lies_so {rows B : List (List Int)} {t xs : List Int} {eqs : List (List Int)} {x : Vec} (hB : Red p (rows.length + 1) B) (he : ∀ c, c < n → eqn rows t c ∈ eqs) (sp : ∀ v, Sp p (InR B) v ↔ Sp p (InR eqs) v) (hm : ∀ r ∈ B, ¬ Lead r rows.length)
    (hx : ∀ r ∈ B, ∀ l, Lead r l → x l = gz r rows.length) (h0 : ∀ i, (∀ r ∈ B, ¬ Lead r i) → x i = 0) (hl : xs.length = rows.length) (hxs : ∀ i, i < rows.length → x i = xs.getD i 0) : ∀ c, c < n → ∃ k, comb rows xs c = gz t c + p * k := fun c hc => by
  let y : Vec := fun i => if i < rows.length then x i else -1
  have hs := hB.solve hx h0 hm
  have hz : ∃ k, dot (rows.length + 1) (gz (eqn rows t c)) y = p * k := by
    refine Sp.dot (S := InR B) (fun v ⟨r, hr, ev⟩ => ⟨0, ?_⟩) ((sp _).mpr (Sp.one ⟨_, he c hc, rfl⟩))
    have e1 : dot rows.length (gz r) y = gz r rows.length := by
      rw [← hs r hr]
      exact dot_congr fun i hi => by show gz r i * (if i < rows.length then x i else -1) = _; rw [if_pos hi]
    rw [ev, dot, e1]
    show gz r rows.length + gz r rows.length * (if rows.length < rows.length then x rows.length else -1) = p * 0
    rw [if_neg (Nat.lt_irrefl _)]
    omega
  obtain ⟨k, hk⟩ := hz
  rw [dot_eqn (xs := xs) hl (fun i hi => by show (if i < rows.length then x i else -1) = _; rw [if_pos hi]; exact hxs i hi) (if_neg (Nat.lt_irrefl _))] at hk
  exact ⟨k, by omega⟩
end DM

namespace DM
/-! ### primes, inverses -/
/-- no divisor up to the root -/
def NoDiv (p : Int) : Prop := 1 < p ∧ ∀ d, 2 ≤ d → d * d ≤ p → p % d ≠ 0
theorem NoDiv.gcd {p x : Int} (h : NoDiv p) (h0 : 0 < x) (h1 : x < p) : Int.gcd p x = 1 := by
  obtain ⟨hp, hd⟩ := h
  false_or_by_contra
  rename_i hg
  have g1 : (Int.gcd p x : Int) ∣ p := Int.gcd_dvd_left ..
  have g2 : (Int.gcd p x : Int) ∣ x := Int.gcd_dvd_right ..
  have gpos : 0 < Int.gcd p x := Int.gcd_pos_of_ne_zero_left _ (by omega)
  have gx : (Int.gcd p x : Int) ≤ x := Int.le_of_dvd h0 g2
  generalize (Int.gcd p x) = g at *
  obtain ⟨q, hq⟩ := g1
  have hg2 : (2 : Int) ≤ g := by omega
  have q0 : 0 < q := by
    false_or_by_contra
    have : (g : Int) * q ≤ g * 0 := Int.mul_le_mul_of_nonneg_left (by omega) (by omega)
    omega
  have q2 : 2 ≤ q := by
    false_or_by_contra
    have : q = 1 := by omega
    rw [this] at hq
    omega
  rcases Int.le_total g q with c | c
  · have : (g : Int) * g ≤ g * q := Int.mul_le_mul_of_nonneg_left c (by omega)
    refine hd g hg2 (by omega) ?_
    rw [hq]
    exact Int.mul_emod_right ..
  · have : q * q ≤ g * q := Int.mul_le_mul_of_nonneg_right c (by omega)
    refine hd q q2 (by omega) ?_
    rw [hq]
    exact Int.mul_emod_left ..
/-- what the turns keep: low and high are so many times x, by the modulus, and have no common divisor -/
structure Euc (p x high low before times : Int) : Prop where
  pos : 1 ≤ low
  lt : low < high
  gcd : Int.gcd high low = 1
  low : ∃ k, low = times * x + p * k
  high : ∃ k, high = before * x + p * k
theorem Euc.start {p x : Int} (h : NoDiv p) (h0 : 0 < x) (h1 : x < p) : Euc p x p x 0 1 := ⟨by omega, h1, h.gcd h0 h1, ⟨0, by simp⟩, ⟨1, by simp⟩⟩
theorem Euc.turn {p x high low before times : Int} (e : Euc p x high low before times) (n1 : low ≠ 1) : Euc p x low (high - high / low * low) times (before - high / low * times) := by
  have hm : high - high / low * low = high % low := by rw [Int.emod_def, Int.mul_comm]
  have hpos := e.pos
  have b0 : 0 ≤ high % low := Int.emod_nonneg _ (by omega)
  have b1 : high % low < low := Int.emod_lt_of_pos _ (by omega)
  have g : Int.gcd low (high % low) = 1 := by
    have z := e.gcd
    rw [Int.gcd_comm] at z
    have : Int.gcd low (high % low) = Int.gcd low high := by
      rw [← hm]
      exact Int.gcd_sub_mul_right_right ..
    rw [this]; exact z
  have nz : high % low ≠ 0 := fun z => by
    rw [z] at g
    have : Int.gcd low 0 = low.natAbs := Int.gcd_zero_right ..
    omega
  refine ⟨by rw [hm]; omega, by rw [hm]; exact b1, by rw [hm]; exact g, ?_, e.low⟩
  obtain ⟨k, hk⟩ := e.low
  obtain ⟨m, hh⟩ := e.high
  generalize high / low = q
  refine ⟨m - q * k, ?_⟩
  rw [hk, hh]
  grind
theorem Euc.done {p x high before times : Int} (e : Euc p x high 1 before times) : ∃ k, x * (times % p) = 1 + p * k := by
  obtain ⟨k, hk⟩ := e.low
  refine ⟨- k - x * (times / p), ?_⟩
  rw [Int.emod_def]
  grind
/-- all of it, by turns -/
def euc : Nat → Int → Int → Int → Int → Option Int
  | 0, _, _, _, _ => none
  | n + 1, high, low, before, times => if low = 1 then some times else euc n low (high - high / low * low) times (before - high / low * times)
theorem euc_ok {p x : Int} : ∀ (n : Nat) (high low before times : Int), low ≤ n → Euc p x high low before times → ∃ t, euc n high low before times = some t ∧ ∃ k, x * (t % p) = 1 + p * k
  | 0, high, low, before, times, h, e => by have := e.pos; omega
  | n + 1, high, low, before, times, h, e => by
    unfold euc
    by_cases q : low = 1
    · rw [if_pos q]
      subst q
      exact ⟨times, rfl, e.done⟩
    · rw [if_neg q]
      have t := e.turn q
      have := t.lt
      exact euc_ok n _ _ _ _ (by omega) t
theorem inv_of {p : Int} (h : NoDiv p) : Inv p := fun x h0 h1 => by
  obtain ⟨t, _, k, hk⟩ := euc_ok (p := p) (x := x) x.toNat p x 0 1 (by omega) (Euc.start h h0 h1)
  exact ⟨t % p, k, hk⟩
/-- the inverse, made a 1 -/
theorem inv_one {p x i : Int} (hp : 1 < p) (h : ∃ k, x * i = 1 + p * k) : x * i % p = 1 := by
  obtain ⟨k, hk⟩ := h
  rw [hk, Int.add_mul_emod_self_left]
  exact Int.emod_eq_of_lt (by omega) hp
/-- divisors tried one by one -/
def tried (p : Int) (m : Nat) : Bool := (List.range m).all fun i => p % ((i : Int) + 2) != 0
theorem noDiv_of {p : Int} {m : Nat} (hp : 1 < p) (hm : p < ((m : Int) + 2) * (m + 2)) (h : tried p m = true) : NoDiv p := by
  refine ⟨hp, fun d h2 hd => ?_⟩
  have hlt : d < m + 2 := by
    false_or_by_contra
    have : ((m : Int) + 2) * (m + 2) ≤ d * d := by
      have h1 : ((m : Int) + 2) * (m + 2) ≤ d * (m + 2) := Int.mul_le_mul_of_nonneg_right (by omega) (by omega)
      have h2 : d * ((m : Int) + 2) ≤ d * d := Int.mul_le_mul_of_nonneg_left (by omega) (by omega)
      omega
    omega
  have := List.all_eq_true.mp h (d - 2).toNat (List.mem_range.mpr (by omega))
  have e : (((d - 2).toNat : Nat) : Int) + 2 = d := by omega
  rw [e] at this
  simpa using this
theorem nd1 : NoDiv 10007 := noDiv_of (m := 100) (by decide) (by decide) (by decide +kernel)
theorem nd2 : NoDiv 10009 := noDiv_of (m := 100) (by decide) (by decide) (by decide +kernel)
theorem nd3 : NoDiv 65537 := noDiv_of (m := 256) (by decide) (by decide) (by decide +kernel)
theorem nd4 : NoDiv 104729 := noDiv_of (m := 323) (by decide) (by decide) (by decide +kernel)
theorem nd5 : NoDiv 999983 := noDiv_of (m := 999) (by decide) (by decide) (by decide +kernel)
end DM

namespace DM
variable {p : Int} {n : Nat}
/-! ### all rows of a reduced basis taken away at once -/
theorem comb_at {f : List Int → Int} {l : Nat} {h : List Int} : ∀ {B : List (List Int)}, B.Nodup → h ∈ B → gz h l = 1 → (∀ s ∈ B, s ≠ h → gz s l = 0) → comb B (B.map f) l = f h
  | b :: B, nd, hm, h1, h0 => by
    rw [List.nodup_cons] at nd
    rw [List.map_cons]
    show f b * gz b l + comb B (B.map f) l = f h
    rcases List.mem_cons.mp hm with e | hm
    · subst e
      have z : ∀ {C : List (List Int)}, (∀ s ∈ C, gz s l = 0) → comb C (C.map f) l = 0 := fun {C} hC => by
        induction C with
        | nil => rfl
        | cons c C ih =>
          rw [List.map_cons]
          show f c * gz c l + comb C (C.map f) l = 0
          rw [hC c (List.mem_cons_self ..), ih fun s hs => hC s (List.mem_cons_of_mem _ hs)]
          simp
      rw [h1, z fun s hs => h0 s (List.mem_cons_of_mem _ hs) fun e => nd.1 (e ▸ hs)]
      simp
    · have : b ≠ h := fun e => nd.1 (e ▸ hm)
      rw [h0 b (List.mem_cons_self ..) this, comb_at nd.2 hm h1 fun s hs => h0 s (List.mem_cons_of_mem _ hs)]
      simp
def takenOf (p : Int) (n : Nat) (ld : List Int → Nat) (B : List (List Int)) (r : List Int) : List Int := (List.range n).map fun c => comb B (B.map fun h => gz r (ld h)) c % p
theorem taken_at {ld : List Int → Nat} {B : List (List Int)} {r : List Int} {c : Nat} (h : c < n) : gz (takenOf p n ld B r) c = comb B (B.map fun h => gz r (ld h)) c % p := by
  unfold takenOf gz
  rw [List.getD_eq_getElem?_getD, List.getElem?_map, List.getElem?_range h]
  rfl
theorem taken_len {ld : List Int → Nat} {B : List (List Int)} {r : List Int} : (takenOf p n ld B r).length = n := by unfold takenOf; simp
def cleared2 (p : Int) (n : Nat) (ld : List Int → Nat) (B : List (List Int)) (r : List Int) : List Int := (r.zip (takenOf p n ld B r)).map fun z => (z.1 - z.2) % p
theorem cleared2_at {ld : List Int → Nat} {B : List (List Int)} {r : List Int} (hr : r.length = n) (i : Nat) : gz (cleared2 p n ld B r) i = (gz r i - gz (takenOf p n ld B r) i) % p := by
  unfold cleared2
  exact gz_zip hr taken_len (fun z => (z.1 - z.2) % p) (by simp) i
theorem cleared2_spec {ld : List Int → Nat} {B : List (List Int)} {r : List Int} (hp : 1 < p) (hB : Red p n B) (nd : B.Nodup) (hl : ∀ h ∈ B, Lead h (ld h)) (hr : Row p n r) :
    Row p n (cleared2 p n ld B r) ∧ (∀ h ∈ B, gz (cleared2 p n ld B r) (ld h) = 0) ∧ ∃ u, Sp p (InR B) u ∧ ∀ i, ∃ k, gz (cleared2 p n ld B r) i = gz r i + u i + p * k := by
  have hlen : (cleared2 p n ld B r).length = n := by unfold cleared2; rw [List.length_map, List.length_zip, taken_len, hr.len]; simp
  refine ⟨⟨hlen, fun j => ?_, fun j => ?_⟩, fun h hh => ?_, fun j => (-1) * comb B (B.map fun h => gz r (ld h)) j, Sp.mul (-1) Sp.of_comb, fun i => ?_⟩
  · rw [cleared2_at hr.len]; exact Int.emod_nonneg _ (by omega)
  · rw [cleared2_at hr.len]; exact Int.emod_lt_of_pos _ (by omega)
  · obtain ⟨l, hl', L⟩ := hB.lead h hh
    have e : ld h = l := Lead.eq (hl h hh) L
    rw [e, cleared2_at hr.len, taken_at hl', comb_at (f := fun h => gz r (ld h)) nd hh L.one (fun s hs ne => hB.off h hh l L s hs ne), e]
    have h1 := hr.lo l
    have h2 := hr.hi l
    rw [Int.emod_eq_of_lt h1 h2]
    simp
  · rw [cleared2_at hr.len]
    by_cases hi : i < n
    · rw [taken_at hi]
      have e1 := Int.emod_add_mul_ediv (comb B (B.map fun h => gz r (ld h)) i) p
      have e2 := Int.emod_add_mul_ediv (gz r i - comb B (B.map fun h => gz r (ld h)) i % p) p
      refine ⟨comb B (B.map fun h => gz r (ld h)) i / p - (gz r i - comb B (B.map fun h => gz r (ld h)) i % p) / p, ?_⟩
      grind
    · have z1 : gz r i = 0 := by unfold gz; rw [List.getD_eq_getElem?_getD, List.getElem?_eq_none (by have := hr.len; omega)]; rfl
      have z2 : gz (takenOf p n ld B r) i = 0 := by unfold gz; rw [List.getD_eq_getElem?_getD, List.getElem?_eq_none (by rw [taken_len]; omega)]; rfl
      have z3 : ∀ {C : List (List Int)} {xs : List Int}, (∀ s ∈ C, gz s i = 0) → comb C xs i = 0 := fun {C xs} hC => by
        induction C generalizing xs with
        | nil => rfl
        | cons c C ih =>
          cases xs with
          | nil => rfl
          | cons x xs =>
            show x * gz c i + comb C xs i = 0
            rw [hC c (List.mem_cons_self ..), ih fun s hs => hC s (List.mem_cons_of_mem _ hs)]
            simp
      have z4 : comb B (B.map fun h => gz r (ld h)) i = 0 := z3 fun s hs => by unfold gz; rw [List.getD_eq_getElem?_getD, List.getElem?_eq_none (by have := (hB.row s hs).len; omega)]; rfl
      refine ⟨0, ?_⟩
      show _ = gz r i + -1 * comb B (B.map fun h => gz r (ld h)) i + p * 0
      rw [z1, z2, z4]
      simp
theorem clear_lead {s pv : List Int} {a l : Nat} (rs : Row p n s) (hpv : pv.length = n) (L : Lead pv a) (pl : gz pv l = 0) (Ls : Lead s l) : Lead (clearAt p a pv s) l := by
  refine ⟨by rw [clear_keep rs hpv pl]; exact Ls.one, fun i hi => ?_⟩
  by_cases q : gz s a = 0
  · rw [clear_at rs.len hpv, if_pos q]; exact Ls.zero i hi
  · have hal : l ≤ a := by
      false_or_by_contra
      exact q (Ls.zero a (by omega))
    have : gz pv i = 0 := L.zero i (by omega)
    rw [clear_keep rs hpv this]
    exact Ls.zero i hi
/-- no row stands twice behind a turn -/
theorem with_nodup {B : List (List Int)} {rest pv : List Int} {a : Nat} (hB : Red p n B) (nd : B.Nodup) (z : ∀ h ∈ B, ∀ l, Lead h l → gz rest l = 0) (hpv : pv.length = n) (L : Lead pv a) (pz : ∀ i, gz rest i = 0 → gz pv i = 0) :
    (B.map (clearAt p a pv) ++ [pv]).Nodup := by
  rw [List.nodup_append]
  refine ⟨?_, by simp, fun x hx y hy e => ?_⟩
  · have inj : ∀ s ∈ B, ∀ s' ∈ B, clearAt p a pv s = clearAt p a pv s' → s = s' := fun s hs s' hs' e => by
      false_or_by_contra
      rename_i ne
      obtain ⟨l, hl, Ls⟩ := hB.lead s hs
      have pl : gz pv l = 0 := pz l (z s hs l Ls)
      have h1 := (clear_lead (hB.row s hs) hpv L pl Ls).one
      rw [e, clear_keep (hB.row s' hs') hpv pl, hB.off s hs l Ls s' hs' fun q => ne q.symm] at h1
      omega
    have aux : ∀ {C : List (List Int)}, C.Nodup → (∀ s ∈ C, s ∈ B) → (C.map (clearAt p a pv)).Nodup := fun {C} h1 h2 => by
      induction C with
      | nil => simp
      | cons c C ih =>
        rw [List.nodup_cons] at h1
        rw [List.map_cons, List.nodup_cons]
        refine ⟨fun hm => ?_, ih h1.2 fun s hs => h2 s (List.mem_cons_of_mem _ hs)⟩
        obtain ⟨d, hd, e⟩ := List.mem_map.mp hm
        have := inj d (h2 d (List.mem_cons_of_mem _ hd)) c (h2 c (List.mem_cons_self ..)) e
        exact h1.1 (this ▸ hd)
    exact aux nd fun _ h => h
  · rw [List.mem_singleton] at hy
    obtain ⟨s, hs, e2⟩ := List.mem_map.mp hx
    have h1 := clear_zero (p := p) (j := a) (hB.row s hs).len hpv L.one
    rw [e2, e, hy, L.one] at h1
    omega
end DM

namespace DL
open PySem PySem.Spec PyProof.Rows L2
/-! ### reckoning: zips, sums, truth -/
theorem m_z2LL (xs ys : List D) : zipM2 [.lst xs, .lst ys] = .ok (zipD xs ys) := nr rfl
theorem m_z2TT (xs ys : List D) : zipM2 [.tup xs, .tup ys] = .ok (zipD xs ys) := nr rfl
theorem m_z2LT (xs ys : List D) : zipM2 [.lst xs, .tup ys] = .ok (zipD xs ys) := nr rfl
theorem m_z2TL (xs ys : List D) : zipM2 [.tup xs, .lst ys] = .ok (zipD xs ys) := nr rfl
theorem m_truB (b : Bool) : truM (.bl b) = .ok b := nr rfl
theorem m_truN : truM .non = .ok false := nr rfl
theorem m_truI (i : Int) : truM (.int i) = .ok (i != 0) := nr rfl
theorem m_truL (ds : List D) : truM (.lst ds) = .ok (!ds.isEmpty) := nr rfl
theorem m_truT (ds : List D) : truM (.tup ds) = .ok (!ds.isEmpty) := nr rfl
theorem m_sum (ns : List Int) : fnM sumD [.lst (ns.map .int)] = .ok (.int ns.sum) := by
  have e : sumD [.lst (ns.map .int)] = some (.same (.int ns.sum)) := by
    show (intsD (ns.map .int)).map _ = _
    rw [intsD_of]
    rfl
  unfold fnM
  rw [e]
  rfl
theorem m_listZ {ds : List D} (h : ds.length ≤ 100000) : listZM ds = .ok (.lst ds) := if_pos h
/-- lists and tuples of numbers -/
def IsRows (es : List D) (rows : List (List Int)) : Prop := es.map itemsD = rows.map fun r => some (r.map .int)
theorem itemsDs_of : ∀ {es : List D} {rows : List (List Int)}, IsRows es rows → itemsDs es = some (rows.map fun r => r.map .int)
  | [], [], _ => rfl
  | [], _ :: _, h => by simp [IsRows] at h
  | _ :: _, [], h => by simp [IsRows] at h
  | e :: es, r :: rs, h => by
    unfold IsRows at h
    rw [List.map_cons, List.map_cons, List.cons.injEq] at h
    unfold itemsDs
    rw [h.1, itemsDs_of h.2]
    rfl
theorem isRows_T (B : List (List Int)) : IsRows (B.map rowT) B := by
  unfold IsRows
  rw [List.map_map]
  rfl
theorem isRows_L (B : List (List Int)) : IsRows (B.map fun r => D.lst (r.map .int)) B := by
  unfold IsRows
  rw [List.map_map]
  rfl
theorem IsRows.app {es fs : List D} {rows rows' : List (List Int)} (h : IsRows es rows) (h' : IsRows fs rows') : IsRows (es ++ fs) (rows ++ rows') := by
  unfold IsRows at *
  rw [List.map_append, List.map_append, h, h']
theorem minLen_rows {n : Nat} : ∀ {B : List (List Int)}, B ≠ [] → (∀ r ∈ B, r.length = n) → minLen (B.map fun r => r.map D.int) = n
  | [], h, _ => (h rfl).elim
  | [r], _, h => by
    show (r.map D.int).length = n
    rw [List.length_map]; exact h r (by simp)
  | r :: s :: B, _, h => by
    show min (r.map D.int).length (minLen ((s :: B).map fun r => r.map D.int)) = n
    rw [minLen_rows (B := s :: B) (by simp) fun x hx => h x (List.mem_cons_of_mem _ hx), List.length_map, h r (by simp)]
    exact Nat.min_self n
theorem m_zipN {es : List D} {B : List (List Int)} {n : Nat} (h : IsRows es B) (hne : B ≠ []) (hl : ∀ r ∈ B, r.length = n) (hb : B.length ≤ 100000) : zipNM es = .ok ((List.range n).map fun c => rowT (B.map fun r => DM.gz r c)) := by
  unfold zipNM zipDs
  rw [itemsDs_of h]
  dsimp only
  rw [if_pos ⟨by simpa using hne, by rw [List.length_map]; exact hb⟩]
  dsimp only
  unfold zipND
  rw [minLen_rows hne hl]
  congr 1
  apply List.map_congr_left
  intro c hc
  have hc := List.mem_range.mp hc
  unfold zrow rowT
  rw [List.map_map, List.map_map]
  congr 1
  apply List.map_congr_left
  intro r hr
  show (r.map D.int).getD c .non = D.int (DM.gz r c)
  have hlr : c < r.length := by rw [hl r hr]; exact hc
  unfold DM.gz
  rw [List.getD_eq_getElem?_getD, List.getD_eq_getElem?_getD, List.getElem?_map, List.getElem?_eq_getElem hlr]
  rfl
/-- the sum of products -/
theorem comb_sum : ∀ (B : List (List Int)) (xs : List Int) (c : Nat), ((xs.zip (B.map fun r => DM.gz r c)).map fun z => z.1 * z.2).sum = DM.comb B xs c
  | [], xs, c => by cases xs <;> rfl
  | b :: B, [], c => rfl
  | b :: B, x :: xs, c => by
    rw [List.map_cons, List.zip_cons_cons, List.map_cons, List.sum_cons, comb_sum B xs c]
    rfl
end DL

namespace DL
open PySem PySem.Spec PyProof.Rows L2
/-! ### reckoning: == of plain data -/
/-- plain data, nested at most n deep -/
def Pd : Nat → D → Prop
  | _, .non => True
  | _, .bl _ => True
  | _, .int _ => True
  | _, .str s => PyData.strOk s = true
  | n + 1, .lst ds => ∀ d ∈ ds, Pd n d
  | n + 1, .tup ds => ∀ d ∈ ds, Pd n d
  | _, _ => False
theorem py_of : ∀ {n : Nat} {d : D}, Pd n d → ∃ p, pyD d = some p ∧ p.canLay0 = true ∧ p.depth ≤ n ∧ PyData.eqv p p = true := fun {n} => by
  induction n with
  | zero =>
    intro d h
    cases d with
    | non => exact ⟨.none, rfl, rfl, Nat.le_refl _, by simp [PyData.eqv]⟩
    | bl b => exact ⟨.bool b, rfl, rfl, Nat.le_refl _, by simp [PyData.eqv]⟩
    | int i => exact ⟨.int i, rfl, rfl, Nat.le_refl _, by simp [PyData.eqv]⟩
    | str s => exact ⟨.str s, rfl, h, Nat.le_refl _, by simp [PyData.eqv]⟩
    | lst ds => exact (h : False).elim
    | tup ds => exact (h : False).elim
    | ins C fs => exact (h : False).elim
    | dic kvs => exact (h : False).elim
    | scr ns => exact (h : False).elim
    | prs ds => exact (h : False).elim
  | succ n ih =>
    intro d h
    have all : ∀ {ds : List D}, (∀ d ∈ ds, Pd n d) → ∃ ps, pyL ds = some ps ∧ PyData.canLayAll0 ps = true ∧ PyData.depthAll ps ≤ n ∧ PyData.eqvAll ps ps = true := fun {ds} hd => by
      induction ds with
      | nil => exact ⟨[], rfl, rfl, Nat.zero_le _, by simp [PyData.eqvAll]⟩
      | cons d ds ihd =>
        obtain ⟨p, h1, h2, h3, h4⟩ := ih (hd d (List.mem_cons_self ..))
        obtain ⟨ps, k1, k2, k3, k4⟩ := ihd fun e he => hd e (List.mem_cons_of_mem _ he)
        refine ⟨p :: ps, ?_, ?_, ?_, ?_⟩
        · show (match pyD d with
            | some p => (pyL ds).map (p :: ·)
            | none => none) = _
          rw [h1, k1]; rfl
        · show (p.canLay0 && PyData.canLayAll0 ps) = true
          rw [h2, k2]; rfl
        · show max p.depth (PyData.depthAll ps) ≤ n
          omega
        · show PyData.eqvAll (p :: ps) (p :: ps) = true
          rw [PyData.eqvAll, h4, k4]; rfl
    cases d with
    | non => exact ⟨.none, rfl, rfl, Nat.zero_le _, by simp [PyData.eqv]⟩
    | bl b => exact ⟨.bool b, rfl, rfl, Nat.zero_le _, by simp [PyData.eqv]⟩
    | int i => exact ⟨.int i, rfl, rfl, Nat.zero_le _, by simp [PyData.eqv]⟩
    | str s => exact ⟨.str s, rfl, h, Nat.zero_le _, by simp [PyData.eqv]⟩
    | lst ds =>
      obtain ⟨ps, k1, k2, k3, k4⟩ := all h
      exact ⟨.list ps, by show (pyL ds).map PyData.list = _; rw [k1]; rfl, k2, by show PyData.depthAll ps + 1 ≤ n + 1; omega, by rw [PyData.eqv]; exact k4⟩
    | tup ds =>
      obtain ⟨ps, k1, k2, k3, k4⟩ := all h
      exact ⟨.tuple ps, by show (pyL ds).map PyData.tuple = _; rw [k1]; rfl, k2, by show PyData.depthAll ps + 1 ≤ n + 1; omega, by rw [PyData.eqv]; exact k4⟩
    | ins C fs => exact (h : False).elim
    | dic kvs => exact (h : False).elim
    | scr ns => exact (h : False).elim
    | prs ds => exact (h : False).elim
theorem eqB_refl {n : Nat} {d : D} (h : Pd n d) (hn : n ≤ 64) : eqB d d = some true := by
  obtain ⟨p, h1, h2, h3, h4⟩ := py_of h
  have s : SeqAt.shaped p = true := by
    unfold SeqAt.shaped
    rw [h2, decide_eq_true (by omega)]
    rfl
  unfold eqB
  rw [h1]
  dsimp only
  rw [s, h4]
  rfl
theorem m_eqR {n : Nat} {d : D} (h : Pd n d) (hn : n ≤ 64) : opM eqD d d = .ok (.bl true) := by
  unfold opM eqD
  rw [eqB_refl h hn]
  rfl
theorem m_neR {n : Nat} {d : D} (h : Pd n d) (hn : n ≤ 64) : opM neD d d = .ok (.bl false) := by
  unfold opM neD
  rw [eqB_refl h hn]
  rfl
theorem pd_ints (ns : List Int) : Pd 1 (.lst (ns.map .int)) := fun d hd => by
  obtain ⟨i, _, rfl⟩ := List.mem_map.mp hd
  exact True.intro
theorem pd_intsT (ns : List Int) : Pd 1 (.tup (ns.map .int)) := fun d hd => by
  obtain ⟨i, _, rfl⟩ := List.mem_map.mp hd
  exact True.intro
theorem pyL_ints : ∀ ns : List Int, pyL (ns.map .int) = some (ns.map .int)
  | [] => rfl
  | n :: ns => by
    show (match pyD (.int n) with
      | some p => (pyL (ns.map .int)).map (p :: ·)
      | none => none) = _
    rw [pyL_ints ns]
    rfl
theorem eqv_ints : ∀ xs ys : List Int, PyData.eqvAll (xs.map .int) (ys.map .int) = decide (xs = ys)
  | [], [] => by simp [PyData.eqvAll]
  | [], y :: ys => by simp [PyData.eqvAll]
  | x :: xs, [] => by simp [PyData.eqvAll]
  | x :: xs, y :: ys => by
    rw [List.map_cons, List.map_cons, PyData.eqvAll, eqv_ints xs ys, PyData.eqv]
    by_cases h : x = y
    · subst h
      simp
    · simp [h]
theorem shaped_ints (ns : List Int) : SeqAt.shaped (.list (ns.map .int)) = true := by
  obtain ⟨p, h1, h2, h3, h4⟩ := py_of (pd_ints ns)
  have e : pyD (.lst (ns.map .int)) = some (.list (ns.map .int)) := by
    show (pyL (ns.map .int)).map PyData.list = _
    rw [pyL_ints]; rfl
  rw [e] at h1
  cases h1
  unfold SeqAt.shaped
  rw [h2, decide_eq_true (by omega)]
  rfl
theorem eqB_ints (xs ys : List Int) : eqB (.lst (xs.map .int)) (.lst (ys.map .int)) = some (decide (xs = ys)) := by
  have e : ∀ ns : List Int, pyD (.lst (ns.map .int)) = some (.list (ns.map .int)) := fun ns => by
    show (pyL (ns.map .int)).map PyData.list = _
    rw [pyL_ints]; rfl
  unfold eqB
  rw [e, e]
  dsimp only
  rw [shaped_ints, shaped_ints, PyData.eqv, eqv_ints]
  rfl
theorem m_neL (xs ys : List Int) : opM neD (.lst (xs.map .int)) (.lst (ys.map .int)) = .ok (.bl !decide (xs = ys)) := by
  unfold opM neD
  rw [eqB_ints]
  rfl
theorem m_eqL (xs ys : List Int) : opM eqD (.lst (xs.map .int)) (.lst (ys.map .int)) = .ok (.bl (decide (xs = ys))) := by
  unfold opM eqD
  rw [eqB_ints]
  rfl
end DL

namespace K09
open PySem PySem.Spec PyProof.Rows L2 DL
def top (i : Nat) : Stmt := PySem.Challenge.pw_mendworth_k09_whole_combinations.main.body.getD i (.Pass ⟨0, 0, 0, 0⟩)
structure Tx (mg : Str → Option Value) : Prop where
  b_isqrt : mg "isqrt" = some (.builtin "math.isqrt")
  c_GREATEST_MODULUS : ∃ t, mg "GREATEST_MODULUS" = some (.int 999983 t)
  c_LEAST_MODULUS : ∃ t, mg "LEAST_MODULUS" = some (.int 10007 t)
  n_all : mg "all" = none
  n_any : mg "any" = none
  n_bool : mg "bool" = none
  n_dict : mg "dict" = none
  n_enumerate : mg "enumerate" = none
  n_int : mg "int" = none
  n_isinstance : mg "isinstance" = none
  n_len : mg "len" = none
  n_list : mg "list" = none
  n_range : mg "range" = none
  n_sorted : mg "sorted" = none
  n_str : mg "str" = none
  n_sum : mg "sum" = none
  n_tuple : mg "tuple" = none
  n_zip : mg "zip" = none
section
variable {P : Program} {w : World} {K : PySem.W.Frag} {mg : Str → Option Value} {base : Heap}
/-! copied -/
abbrev s_copied : Stmt := top 2
theorem sc_copied : FnScope ["value", "item", "key"] ["value"] (defScope s_copied) := ⟨rfl, rfl, rfl, by decide +kernel, rfl, by decide +kernel, by decide +kernel⟩
def G_copied (Gr : List Ent → R Kd) : List Ent → R Fl :=
  (seqR (ifS (fun ρ => toB ((isiR [.list] (nameR 0)) ρ)) (seqR (retR (lcR (seqI (nameR 0)) (nameT 1) yesT (callU 1 Gr [] (consV (nameR 1) nilA)) [1])) nxS) nxS) (seqR (ifS (fun ρ => toB ((isiR [.tuple] (nameR 0)) ρ)) (seqR (retR (callR tupleD (consR (lcR (seqI (nameR 0)) (nameT 1) yesT (callU 1 Gr [] (consV (nameR 1) nilA)) [1]) nilA))) nxS) nxS) (seqR (ifS (fun ρ => toB ((isiR [.dict] (nameR 0)) ρ)) (seqR (retR (dcR (seqI (nameR 0)) (nameT 2) yesT (nameR 2) (callU 1 Gr [] (consV (binR ixD (nameR 0) (nameR 2)) nilA)) [2])) nxS) nxS) (seqR (retR (fun ρ => toVa ((nameR 0) ρ))) nxS))))
def Gf_copied : Nat → List Ent → R Kd
  | 0 => fun _ => .bad
  | d + 1 => fun es => fin 1 (G_copied (Gf_copied d) (es ++ List.replicate 2 .no))
theorem bd_copied (kV doc pm : Value) (an : Option Addr) (cdv ct : Value) (us : List Value) (h : us.length = (["value"] : List Str).length) : bindArgs (PySem.W.fnOf "copied" "copied" (defArgs s_copied) (defBody s_copied) (defScope s_copied) .none kV doc pm an cdv ct) { pos := us } = pure ((["value"] : List Str).zip us) := match us, h with | [_], _ => rfl
theorem ok_copied {f : Addr} {fd : FuncData} (T : Tx mg)  (F : Fun K "copied" "copied" s_copied f fd) (hm : mg "copied" = some (.ref f)) : ∀ d : Nat, FnOk P w K mg base (L2.CX P w) (d + 1) f fd ["value"] (spD K 1 (Gf_copied d))
  | 0 => jf_ok (n := 1) (k := 0) (G := fun _ => .bad) F sc_copied rfl (fun cdv A outer s H E Fm hr => jx_bad) fun _ _ h => (h rfl).elim
  | d + 1 => by
    have D_copied : FnD P w K mg base "copied" (d + 1) 1 (Gf_copied d) := ⟨f, fd, ["value"], ok_copied T  F hm d, hm, F.kp, F.binds (bd_copied)⟩
    exact jf_ok (n := 1) (k := d + 1) (G := G_copied (Gf_copied d)) F sc_copied rfl (fun cdv A outer s H E Fm hr =>
      (js_cons (js_if (jt_val (je_isi .list rfl (by rfl) T.n_isinstance (by rfl) T.n_list boot_list (je_name 0))) (js_cons (js_ret (je_lcV rfl sc_copied.nd (ji_seq (je_name 0)) (blkOk_by (N := ["value", "item", "key"]) (sc := defScope s_copied) (own := [("item", 1)]) (by decide +kernel)) (fun _ _ _ _ _ => (jg_name 1 sc_copied.nd)) (tgD_name 1) (by decide) (fun _ _ _ _ _ _ => jy_nil) (fun _ _ _ _ _ _ => (je_f D_copied (hr.mono (by omega)) passL (ja_consV (je_name 1) jn_nil))) rfl)) jx_nil) jx_nil) (js_cons (js_if (jt_val (je_isi .tuple rfl (by rfl) T.n_isinstance (by rfl) T.n_tuple boot_tuple (je_name 0))) (js_cons (js_ret (je_callTy call_tuple_ofF snd_tuple (by rfl) T.n_tuple boot_tuple (ja_cons (je_lcV rfl sc_copied.nd (ji_seq (je_name 0)) (blkOk_by (N := ["value", "item", "key"]) (sc := defScope s_copied) (own := [("item", 1)]) (by decide +kernel)) (fun _ _ _ _ _ => (jg_name 1 sc_copied.nd)) (tgD_name 1) (by decide) (fun _ _ _ _ _ _ => jy_nil) (fun _ _ _ _ _ _ => (je_f D_copied (hr.mono (by omega)) passL (ja_consV (je_name 1) jn_nil))) rfl) jn_nil))) jx_nil) jx_nil) (js_cons (js_if (jt_val (je_isi .dict rfl (by rfl) T.n_isinstance (by rfl) T.n_dict boot_dict (je_name 0))) (js_cons (js_ret (je_dcV rfl sc_copied.nd (ji_seq (je_name 0)) (blkOk_by (N := ["value", "item", "key"]) (sc := defScope s_copied) (own := [("key", 2)]) (by decide +kernel)) (fun _ _ _ _ _ => (jg_name 2 sc_copied.nd)) (tgD_name 2) (by decide) (fun _ _ _ _ _ _ => jy_nil) (fun _ _ _ _ _ _ => (je_name 2)) (fun _ _ _ _ _ _ => (je_f D_copied (hr.mono (by omega)) passL (ja_consV (je_ix (je_name 0) (je_name 2)) jn_nil))) rfl)) jx_nil) jx_nil) (js_cons (js_ret (je_toVa (je_name 0))) jx_nil))))) fun _ _ _ => rfl
theorem dn_copied {f : Addr} {fd : FuncData} (T : Tx mg)  (F : Fun K "copied" "copied" s_copied f fd) (hm : mg "copied" = some (.ref f)) : FnD P w K mg base "copied" 4 1 (Gf_copied 3) := ⟨f, fd, ["value"], ok_copied T  F hm 3, hm, F.kp, F.binds (bd_copied)⟩
/-! is_number -/
abbrev s_is_number : Stmt := top 10
theorem sc_is_number : FnScope ["value"] ["value"] (defScope s_is_number) := ⟨rfl, rfl, rfl, by decide +kernel, rfl, by decide +kernel, by decide +kernel⟩
def G_is_number : List Ent → R Fl :=
  (seqR (retR (andV (isiR [.int] (nameR 0)) (notV (isiR [.bool] (nameR 0))))) nxS)
def Gf_is_number : List Ent → R Kd := fun es => fin 1 (G_is_number (es ++ List.replicate 0 .no))
theorem eq_is_number : ∀ es : List Ent, es.length = 1 → Gf_is_number es ≠ .bad → fin 1 (G_is_number (es ++ List.replicate (1 - 1) .no)) = Gf_is_number es := fun _ _ _ => rfl
theorem bd_is_number (kV doc pm : Value) (an : Option Addr) (cdv ct : Value) (us : List Value) (h : us.length = (["value"] : List Str).length) : bindArgs (PySem.W.fnOf "is_number" "is_number" (defArgs s_is_number) (defBody s_is_number) (defScope s_is_number) .none kV doc pm an cdv ct) { pos := us } = pure ((["value"] : List Str).zip us) := match us, h with | [_], _ => rfl
theorem ok_is_number {f : Addr} {fd : FuncData} (T : Tx mg)  (F : Fun K "is_number" "is_number" s_is_number f fd) : FnOk P w K mg base (L2.CX P w) 1 f fd ["value"] (spD K 1 Gf_is_number) :=
  jf_ok (n := 1) (k := 0) (G := G_is_number) F sc_is_number rfl (fun cdv A outer s H E Fm hr =>
    (js_cons (js_ret (je_and (je_isi .int rfl (by rfl) T.n_isinstance (by rfl) T.n_int boot_int (je_name 0)) (je_one (je_not (je_isi .bool rfl (by rfl) T.n_isinstance (by rfl) T.n_bool boot_bool (je_name 0)))))) jx_nil)) eq_is_number
theorem dn_is_number {f : Addr} {fd : FuncData} (T : Tx mg)  (F : Fun K "is_number" "is_number" s_is_number f fd) (hm : mg "is_number" = some (.ref f)) : FnD P w K mg base "is_number" 1 1 Gf_is_number := ⟨f, fd, ["value"], ok_is_number T  F, hm, F.kp, F.binds (bd_is_number)⟩
/-! is_modulus -/
abbrev s_is_modulus : Stmt := top 11
theorem sc_is_modulus : FnScope ["value", "divisor"] ["value"] (defScope s_is_modulus) := ⟨rfl, rfl, rfl, by decide +kernel, rfl, by decide +kernel, by decide +kernel⟩
def B1_is_modulus : List Ent → R Fl :=
  (seqR (ifS (fun ρ => toB ((binR eqD (binR modD (nameR 0) (nameR 1)) (cR (.int 0))) ρ)) (seqR (retR (cR (.bl false))) nxS) nxS) nxS)
def S2_is_modulus : List Ent → R Fl :=
  (ifS (orR (notR (fun ρ => toB ((callU 1 Gf_is_number [] (consV (nameR 0) nilA)) ρ))) (orR (fun ρ => toB ((binR ltD (nameR 0) (cR (.int 10007))) ρ)) (fun ρ => toB ((binR gtD (nameR 0) (cR (.int 999983))) ρ)))) (seqR (retR (cR (.bl false))) nxS) nxS)
def G_is_modulus : List Ent → R Fl :=
  (seqR S2_is_modulus (seqR (forS (rng2I (consV (cR (.int 2)) (consV (binR addD (callR isqrtD (consR (nameR 0) nilA)) (cR (.int 1))) nilA))) (nameT 1) B1_is_modulus) (seqR (retR (cR (.bl true))) nxS)))
def Gf_is_modulus : List Ent → R Kd := fun es => fin 1 (G_is_modulus (es ++ List.replicate 1 .no))
theorem eq_is_modulus : ∀ es : List Ent, es.length = 1 → Gf_is_modulus es ≠ .bad → fin 1 (G_is_modulus (es ++ List.replicate (2 - 1) .no)) = Gf_is_modulus es := fun _ _ _ => rfl
theorem bd_is_modulus (kV doc pm : Value) (an : Option Addr) (cdv ct : Value) (us : List Value) (h : us.length = (["value"] : List Str).length) : bindArgs (PySem.W.fnOf "is_modulus" "is_modulus" (defArgs s_is_modulus) (defBody s_is_modulus) (defScope s_is_modulus) .none kV doc pm an cdv ct) { pos := us } = pure ((["value"] : List Str).zip us) := match us, h with | [_], _ => rfl
theorem ok_is_modulus {f : Addr} {fd : FuncData} (T : Tx mg) (D_is_number : FnD P w K mg base "is_number" 1 1 Gf_is_number) (F : Fun K "is_modulus" "is_modulus" s_is_modulus f fd) : FnOk P w K mg base (L2.CX P w) 2 f fd ["value"] (spD K 1 Gf_is_modulus) :=
  jf_ok (n := 1) (k := 1) (G := G_is_modulus) F sc_is_modulus rfl (fun cdv A outer s H E Fm hr =>
    (js_cons (js_if (jt_bool (jw_or (jt_not (jt_val (je_f D_is_number (hr.mono (by decide)) pass_cx (ja_consV (je_name 0) jn_nil)))) (jw_or (jt_cmp op_lt snd_lt (je_name 0) (jc_glob (v := .int 10007) (Classical.choose_spec T.c_LEAST_MODULUS) ⟨_, rfl⟩ (fun _ _ => rfl)) (nomark _)) (jw_or1 (jt_cmp op_gt snd_gt (je_name 0) (jc_glob (v := .int 999983) (Classical.choose_spec T.c_GREATEST_MODULUS) ⟨_, rfl⟩ (fun _ _ => rfl)) (nomark _)))))) (js_cons (js_ret jc_bl) jx_nil) jx_nil) (js_cons (js_for (passes_of rfl) rfl (ji_range2 (by rfl) T.n_range (ja_consV jc_int (ja_consV (je_op op_addA snd_add (je_callBf cr_isqrt snd_isqrt (by rfl) T.b_isqrt (ja_cons (je_name 0) jn_nil)) jc_int) jn_nil))) (jg_name 1 sc_is_modulus.nd) (tgD_name 1) (js_cons (js_if (jt_cmp (op_eqD hr.units) snd_eq (je_op op_mod snd_mod (je_name 0) (je_name 1)) jc_int (nomark _)) (js_cons (js_ret jc_bl) jx_nil) jx_nil) jx_nil)) (js_cons (js_ret jc_bl) jx_nil)))) eq_is_modulus
theorem dn_is_modulus {f : Addr} {fd : FuncData} (T : Tx mg) (D_is_number : FnD P w K mg base "is_number" 1 1 Gf_is_number) (F : Fun K "is_modulus" "is_modulus" s_is_modulus f fd) (hm : mg "is_modulus" = some (.ref f)) : FnD P w K mg base "is_modulus" 2 1 Gf_is_modulus := ⟨f, fd, ["value"], ok_is_modulus T D_is_number F, hm, F.kp, F.binds (bd_is_modulus)⟩
/-! check_modulus -/
abbrev s_check_modulus : Stmt := top 12
theorem sc_check_modulus : FnScope ["modulus"] ["modulus"] (defScope s_check_modulus) := ⟨rfl, rfl, rfl, by decide +kernel, rfl, by decide +kernel, by decide +kernel⟩
def G_check_modulus : List Ent → R Fl :=
  (seqR (ifS (notR (fun ρ => toB ((callU 1 Gf_is_modulus [] (consV (nameR 0) nilA)) ρ))) (seqR (fun _ => .bad) nxS) nxS) nxS)
def Gf_check_modulus : List Ent → R Kd := fun es => fin 1 (G_check_modulus (es ++ List.replicate 0 .no))
theorem eq_check_modulus : ∀ es : List Ent, es.length = 1 → Gf_check_modulus es ≠ .bad → fin 1 (G_check_modulus (es ++ List.replicate (1 - 1) .no)) = Gf_check_modulus es := fun _ _ _ => rfl
theorem bd_check_modulus (kV doc pm : Value) (an : Option Addr) (cdv ct : Value) (us : List Value) (h : us.length = (["modulus"] : List Str).length) : bindArgs (PySem.W.fnOf "check_modulus" "check_modulus" (defArgs s_check_modulus) (defBody s_check_modulus) (defScope s_check_modulus) .none kV doc pm an cdv ct) { pos := us } = pure ((["modulus"] : List Str).zip us) := match us, h with | [_], _ => rfl
theorem ok_check_modulus {f : Addr} {fd : FuncData} (T : Tx mg) (D_is_modulus : FnD P w K mg base "is_modulus" 2 1 Gf_is_modulus) (F : Fun K "check_modulus" "check_modulus" s_check_modulus f fd) : FnOk P w K mg base (L2.CX P w) 3 f fd ["modulus"] (spD K 1 Gf_check_modulus) :=
  jf_ok (n := 1) (k := 2) (G := G_check_modulus) F sc_check_modulus rfl (fun cdv A outer s H E Fm hr =>
    (js_cons (js_if (jt_not (jt_val (je_f D_is_modulus (hr.mono (by decide)) pass_cx (ja_consV (je_name 0) jn_nil)))) (js_cons js_bad jx_nil) jx_nil) jx_nil)) eq_check_modulus
theorem dn_check_modulus {f : Addr} {fd : FuncData} (T : Tx mg) (D_is_modulus : FnD P w K mg base "is_modulus" 2 1 Gf_is_modulus) (F : Fun K "check_modulus" "check_modulus" s_check_modulus f fd) (hm : mg "check_modulus" = some (.ref f)) : FnD P w K mg base "check_modulus" 3 1 Gf_check_modulus := ⟨f, fd, ["modulus"], ok_check_modulus T D_is_modulus F, hm, F.kp, F.binds (bd_check_modulus)⟩
/-! is_letter -/
abbrev s_is_letter : Stmt := top 13
theorem sc_is_letter : FnScope ["value", "modulus"] ["value", "modulus"] (defScope s_is_letter) := ⟨rfl, rfl, rfl, by decide +kernel, rfl, by decide +kernel, by decide +kernel⟩
def G_is_letter : List Ent → R Fl :=
  (seqR (retR (andV (callU 1 Gf_is_number [] (consV (nameR 0) nilA)) (chainR leD ltD (cR (.int 0)) (nameR 0) (nameR 1)))) nxS)
def Gf_is_letter : List Ent → R Kd := fun es => fin 2 (G_is_letter (es ++ List.replicate 0 .no))
theorem eq_is_letter : ∀ es : List Ent, es.length = 2 → Gf_is_letter es ≠ .bad → fin 2 (G_is_letter (es ++ List.replicate (2 - 2) .no)) = Gf_is_letter es := fun _ _ _ => rfl
theorem bd_is_letter (kV doc pm : Value) (an : Option Addr) (cdv ct : Value) (us : List Value) (h : us.length = (["value", "modulus"] : List Str).length) : bindArgs (PySem.W.fnOf "is_letter" "is_letter" (defArgs s_is_letter) (defBody s_is_letter) (defScope s_is_letter) .none kV doc pm an cdv ct) { pos := us } = pure ((["value", "modulus"] : List Str).zip us) := match us, h with | [_, _], _ => rfl
theorem ok_is_letter {f : Addr} {fd : FuncData} (T : Tx mg) (D_is_number : FnD P w K mg base "is_number" 1 1 Gf_is_number) (F : Fun K "is_letter" "is_letter" s_is_letter f fd) : FnOk P w K mg base (L2.CX P w) 2 f fd ["value", "modulus"] (spD K 2 Gf_is_letter) :=
  jf_ok (n := 2) (k := 1) (G := G_is_letter) F sc_is_letter rfl (fun cdv A outer s H E Fm hr =>
    (js_cons (js_ret (je_and (je_f D_is_number (hr.mono (by decide)) pass_cx (ja_consV (je_name 0) jn_nil)) (je_one (je_chain op_le op_lt snd_le snd_lt jc_int (je_name 0) (je_name 1))))) jx_nil)) eq_is_letter
theorem dn_is_letter {f : Addr} {fd : FuncData} (T : Tx mg) (D_is_number : FnD P w K mg base "is_number" 1 1 Gf_is_number) (F : Fun K "is_letter" "is_letter" s_is_letter f fd) (hm : mg "is_letter" = some (.ref f)) : FnD P w K mg base "is_letter" 2 2 Gf_is_letter := ⟨f, fd, ["value", "modulus"], ok_is_letter T D_is_number F, hm, F.kp, F.binds (bd_is_letter)⟩
/-! inverse -/
abbrev s_inverse : Stmt := top 14
theorem sc_inverse : FnScope ["number", "modulus", "high", "low", "before", "times", "quotient"] ["number", "modulus"] (defScope s_inverse) := ⟨rfl, rfl, rfl, by decide +kernel, rfl, by decide +kernel, by decide +kernel⟩
def B1_inverse : List Ent → R Fl :=
  (seqR (setR 6 (binR fdivD (nameR 2) (nameR 3))) (seqR (parVV 2 3 (nameR 3) (binR subD (nameR 2) (binR mulD (nameR 6) (nameR 3)))) (seqR (parVV 4 5 (nameR 5) (binR subD (nameR 4) (binR mulD (nameR 6) (nameR 5)))) nxS)))
def G_inverse : List Ent → R Fl :=
  (seqR (dropR (callU 1 Gf_check_modulus [] (consV (nameR 1) nilA))) (seqR (ifS (fun ρ => toB ((binR eqD (binR modD (nameR 0) (nameR 1)) (cR (.int 0))) ρ)) (seqR (fun _ => .bad) nxS) nxS) (seqR (parVV 2 3 (nameR 1) (binR modD (nameR 0) (nameR 1))) (seqR (asgR (tupT [(nameT 4), (nameT 5)]) (tupR (consV (cR (.int 0)) (consV (cR (.int 1)) nilA)))) (seqR (fun ρ => whileR (fun ρ => toB ((binR neD (nameR 3) (cR (.int 1))) ρ)) B1_inverse fuelK ρ) (seqR (retR (binR modD (nameR 5) (nameR 1))) nxS))))))
def Gf_inverse : List Ent → R Kd := fun es => fin 2 (G_inverse (es ++ List.replicate 5 .no))
theorem eq_inverse : ∀ es : List Ent, es.length = 2 → Gf_inverse es ≠ .bad → fin 2 (G_inverse (es ++ List.replicate (7 - 2) .no)) = Gf_inverse es := fun _ _ _ => rfl
theorem bd_inverse (kV doc pm : Value) (an : Option Addr) (cdv ct : Value) (us : List Value) (h : us.length = (["number", "modulus"] : List Str).length) : bindArgs (PySem.W.fnOf "inverse" "inverse" (defArgs s_inverse) (defBody s_inverse) (defScope s_inverse) .none kV doc pm an cdv ct) { pos := us } = pure ((["number", "modulus"] : List Str).zip us) := match us, h with | [_, _], _ => rfl
theorem ok_inverse {f : Addr} {fd : FuncData} (T : Tx mg) (D_check_modulus : FnD P w K mg base "check_modulus" 3 1 Gf_check_modulus) (F : Fun K "inverse" "inverse" s_inverse f fd) : FnOk P w K mg base (L2.CX P w) 4 f fd ["number", "modulus"] (spD K 2 Gf_inverse) :=
  jf_ok (n := 2) (k := 3) (G := G_inverse) F sc_inverse rfl (fun cdv A outer s H E Fm hr =>
    (js_cons (js_expr (je_f D_check_modulus (hr.mono (by decide)) pass_cx (ja_consV (je_name 1) jn_nil))) (js_cons (js_if (jt_cmp (op_eqD hr.units) snd_eq (je_op op_mod snd_mod (je_name 0) (je_name 1)) jc_int (nomark _)) (js_cons js_bad jx_nil) jx_nil) (js_cons (js_parVV 2 3 rfl sc_inverse.nd (je_name 1) (je_op op_mod snd_mod (je_name 0) (je_name 1)) rfl) (js_cons (js_asg (je_tup (ja_consV jc_int (ja_consV jc_int jn_nil))) (pg_tup rfl (pgs_cons (jg_name 4 sc_inverse.nd) (pgs_cons (jg_name 5 sc_inverse.nd) pgs_nil))) (tgD_tup (tgsD_cons (tgD_name 4) (tgsD_cons (tgD_name 5) tgsD_nil)) rfl)) (js_cons (js_while (fun _ => fuelK) (passes_of rfl) (jt_cmp (op_neD hr.units) snd_ne (je_name 3) jc_int (nomark _)) (js_cons (js_set 6 sc_inverse.nd (je_op op_fdivW snd_fdiv (je_name 2) (je_name 3))) (js_cons (js_parVV 2 3 rfl sc_inverse.nd (je_name 3) (je_op op_sub snd_sub (je_name 2) (je_op op_mulA snd_mul (je_name 6) (je_name 3))) rfl) (js_cons (js_parVV 4 5 rfl sc_inverse.nd (je_name 5) (je_op op_sub snd_sub (je_name 4) (je_op op_mulA snd_mul (je_name 6) (je_name 5))) rfl) jx_nil)))) (js_cons (js_ret (je_op op_mod snd_mod (je_name 5) (je_name 1))) jx_nil))))))) eq_inverse
theorem dn_inverse {f : Addr} {fd : FuncData} (T : Tx mg) (D_check_modulus : FnD P w K mg base "check_modulus" 3 1 Gf_check_modulus) (F : Fun K "inverse" "inverse" s_inverse f fd) (hm : mg "inverse" = some (.ref f)) : FnD P w K mg base "inverse" 4 2 Gf_inverse := ⟨f, fd, ["number", "modulus"], ok_inverse T D_check_modulus F, hm, F.kp, F.binds (bd_inverse)⟩
/-! is_vector -/
abbrev s_is_vector : Stmt := top 16
theorem sc_is_vector : FnScope ["value", "modulus", "item"] ["value", "modulus"] (defScope s_is_vector) := ⟨rfl, rfl, rfl, by decide +kernel, rfl, by decide +kernel, by decide +kernel⟩
def S1_is_vector : List Ent → R Fl :=
  (retR (andV (isiR [.list, .tuple] (nameR 0)) (callR allD (consR (lcR (seqI (nameR 0)) (nameT 2) yesT (callU 2 Gf_is_letter [] (consV (nameR 2) (consV (nameR 1) nilA))) [2]) nilA))))
def G_is_vector : List Ent → R Fl :=
  (seqR S1_is_vector nxS)
def Gf_is_vector : List Ent → R Kd := fun es => fin 2 (G_is_vector (es ++ List.replicate 1 .no))
theorem eq_is_vector : ∀ es : List Ent, es.length = 2 → Gf_is_vector es ≠ .bad → fin 2 (G_is_vector (es ++ List.replicate (3 - 2) .no)) = Gf_is_vector es := fun _ _ _ => rfl
theorem bd_is_vector (kV doc pm : Value) (an : Option Addr) (cdv ct : Value) (us : List Value) (h : us.length = (["value", "modulus"] : List Str).length) : bindArgs (PySem.W.fnOf "is_vector" "is_vector" (defArgs s_is_vector) (defBody s_is_vector) (defScope s_is_vector) .none kV doc pm an cdv ct) { pos := us } = pure ((["value", "modulus"] : List Str).zip us) := match us, h with | [_, _], _ => rfl
theorem ok_is_vector {f : Addr} {fd : FuncData} (T : Tx mg) (D_is_letter : FnD P w K mg base "is_letter" 2 2 Gf_is_letter) (F : Fun K "is_vector" "is_vector" s_is_vector f fd) : FnOk P w K mg base (L2.CX P w) 3 f fd ["value", "modulus"] (spD K 2 Gf_is_vector) :=
  jf_ok (n := 2) (k := 2) (G := G_is_vector) F sc_is_vector rfl (fun cdv A outer s H E Fm hr =>
    (js_cons (js_ret (je_and (je_isi2 .list .tuple rfl rfl (by rfl) T.n_isinstance (by rfl) T.n_list boot_list (by rfl) T.n_tuple boot_tuple (je_name 0)) (je_one (je_callB (cr_all rfl) snd_all (by rfl) T.n_all boot_all (ja_cons (je_lcV rfl sc_is_vector.nd (ji_seq (je_name 0)) (blkOk_by (N := ["value", "modulus", "item"]) (sc := defScope s_is_vector) (own := [("item", 2)]) (by decide +kernel)) (fun _ _ _ _ _ => (jg_name 2 sc_is_vector.nd)) (tgD_name 2) (by decide) (fun _ _ _ _ _ _ => jy_nil) (fun _ _ _ _ _ _ => (je_f D_is_letter (hr.mono (by decide)) passL (ja_consV (je_name 2) (ja_consV (je_name 1) jn_nil)))) rfl) jn_nil))))) jx_nil)) eq_is_vector
theorem dn_is_vector {f : Addr} {fd : FuncData} (T : Tx mg) (D_is_letter : FnD P w K mg base "is_letter" 2 2 Gf_is_letter) (F : Fun K "is_vector" "is_vector" s_is_vector f fd) (hm : mg "is_vector" = some (.ref f)) : FnD P w K mg base "is_vector" 3 2 Gf_is_vector := ⟨f, fd, ["value", "modulus"], ok_is_vector T D_is_letter F, hm, F.kp, F.binds (bd_is_vector)⟩
/-! is_vector_of -/
abbrev s_is_vector_of : Stmt := top 17
theorem sc_is_vector_of : FnScope ["value", "modulus", "size"] ["value", "modulus", "size"] (defScope s_is_vector_of) := ⟨rfl, rfl, rfl, by decide +kernel, rfl, by decide +kernel, by decide +kernel⟩
def G_is_vector_of : List Ent → R Fl :=
  (seqR (retR (andV (callU 2 Gf_is_vector [] (consV (nameR 0) (consV (nameR 1) nilA))) (binR eqD (callR lenD (consR (nameR 0) nilA)) (nameR 2)))) nxS)
def Gf_is_vector_of : List Ent → R Kd := fun es => fin 3 (G_is_vector_of (es ++ List.replicate 0 .no))
theorem eq_is_vector_of : ∀ es : List Ent, es.length = 3 → Gf_is_vector_of es ≠ .bad → fin 3 (G_is_vector_of (es ++ List.replicate (3 - 3) .no)) = Gf_is_vector_of es := fun _ _ _ => rfl
theorem bd_is_vector_of (kV doc pm : Value) (an : Option Addr) (cdv ct : Value) (us : List Value) (h : us.length = (["value", "modulus", "size"] : List Str).length) : bindArgs (PySem.W.fnOf "is_vector_of" "is_vector_of" (defArgs s_is_vector_of) (defBody s_is_vector_of) (defScope s_is_vector_of) .none kV doc pm an cdv ct) { pos := us } = pure ((["value", "modulus", "size"] : List Str).zip us) := match us, h with | [_, _, _], _ => rfl
theorem ok_is_vector_of {f : Addr} {fd : FuncData} (T : Tx mg) (D_is_vector : FnD P w K mg base "is_vector" 3 2 Gf_is_vector) (F : Fun K "is_vector_of" "is_vector_of" s_is_vector_of f fd) : FnOk P w K mg base (L2.CX P w) 4 f fd ["value", "modulus", "size"] (spD K 3 Gf_is_vector_of) :=
  jf_ok (n := 3) (k := 3) (G := G_is_vector_of) F sc_is_vector_of rfl (fun cdv A outer s H E Fm hr =>
    (js_cons (js_ret (je_and (je_f D_is_vector (hr.mono (by decide)) pass_cx (ja_consV (je_name 0) (ja_consV (je_name 1) jn_nil))) (je_one (je_cmp (op_eqD hr.units) snd_eq (je_callB call_len_seq snd_len (by rfl) T.n_len PySem.boot_len (ja_cons (je_name 0) jn_nil)) (je_name 2) (nomark _))))) jx_nil)) eq_is_vector_of
theorem dn_is_vector_of {f : Addr} {fd : FuncData} (T : Tx mg) (D_is_vector : FnD P w K mg base "is_vector" 3 2 Gf_is_vector) (F : Fun K "is_vector_of" "is_vector_of" s_is_vector_of f fd) (hm : mg "is_vector_of" = some (.ref f)) : FnD P w K mg base "is_vector_of" 4 3 Gf_is_vector_of := ⟨f, fd, ["value", "modulus", "size"], ok_is_vector_of T D_is_vector F, hm, F.kp, F.binds (bd_is_vector_of)⟩
/-! check_vectors -/
abbrev s_check_vectors : Stmt := top 18
theorem sc_check_vectors : FnScope ["vectors", "modulus", "size", "at", "vector"] ["vectors", "modulus", "size"] (defScope s_check_vectors) := ⟨rfl, rfl, rfl, by decide +kernel, rfl, by decide +kernel, by decide +kernel⟩
def B1_check_vectors : List Ent → R Fl :=
  (seqR (ifS (notR (fun ρ => toB ((callU 3 Gf_is_vector_of [] (consV (nameR 4) (consV (nameR 1) (consV (nameR 2) nilA)))) ρ))) (seqR (fun _ => .bad) nxS) nxS) nxS)
def G_check_vectors : List Ent → R Fl :=
  (seqR (forS (enumI2 (consV (nameR 0) nilA)) (tupT [(nameT 3), (nameT 4)]) B1_check_vectors) nxS)
def Gf_check_vectors : List Ent → R Kd := fun es => fin 3 (G_check_vectors (es ++ List.replicate 2 .no))
theorem eq_check_vectors : ∀ es : List Ent, es.length = 3 → Gf_check_vectors es ≠ .bad → fin 3 (G_check_vectors (es ++ List.replicate (5 - 3) .no)) = Gf_check_vectors es := fun _ _ _ => rfl
theorem bd_check_vectors (kV doc pm : Value) (an : Option Addr) (cdv ct : Value) (us : List Value) (h : us.length = (["vectors", "modulus", "size"] : List Str).length) : bindArgs (PySem.W.fnOf "check_vectors" "check_vectors" (defArgs s_check_vectors) (defBody s_check_vectors) (defScope s_check_vectors) .none kV doc pm an cdv ct) { pos := us } = pure ((["vectors", "modulus", "size"] : List Str).zip us) := match us, h with | [_, _, _], _ => rfl
theorem ok_check_vectors {f : Addr} {fd : FuncData} (T : Tx mg) (D_is_vector_of : FnD P w K mg base "is_vector_of" 4 3 Gf_is_vector_of) (F : Fun K "check_vectors" "check_vectors" s_check_vectors f fd) : FnOk P w K mg base (L2.CX P w) 5 f fd ["vectors", "modulus", "size"] (spD K 3 Gf_check_vectors) :=
  jf_ok (n := 3) (k := 4) (G := G_check_vectors) F sc_check_vectors rfl (fun cdv A outer s H E Fm hr =>
    (js_cons (js_for (passes_of rfl) rfl (ji_enumA (by rfl) T.n_enumerate (ja_consV (je_name 0) jn_nil)) (pg_tup rfl (pgs_cons (jg_name 3 sc_check_vectors.nd) (pgs_cons (jg_name 4 sc_check_vectors.nd) pgs_nil))) (tgD_tup (tgsD_cons (tgD_name 3) (tgsD_cons (tgD_name 4) tgsD_nil)) rfl) (js_cons (js_if (jt_not (jt_val (je_f D_is_vector_of (hr.mono (by decide)) pass_cx (ja_consV (je_name 4) (ja_consV (je_name 1) (ja_consV (je_name 2) jn_nil)))))) (js_cons js_bad jx_nil) jx_nil) jx_nil)) jx_nil)) eq_check_vectors
theorem dn_check_vectors {f : Addr} {fd : FuncData} (T : Tx mg) (D_is_vector_of : FnD P w K mg base "is_vector_of" 4 3 Gf_is_vector_of) (F : Fun K "check_vectors" "check_vectors" s_check_vectors f fd) (hm : mg "check_vectors" = some (.ref f)) : FnD P w K mg base "check_vectors" 5 3 Gf_check_vectors := ⟨f, fd, ["vectors", "modulus", "size"], ok_check_vectors T D_is_vector_of F, hm, F.kp, F.binds (bd_check_vectors)⟩
/-! product_of -/
abbrev s_product_of : Stmt := top 19
theorem sc_product_of : FnScope ["one", "other", "modulus", "left", "right"] ["one", "other", "modulus"] (defScope s_product_of) := ⟨rfl, rfl, rfl, by decide +kernel, rfl, by decide +kernel, by decide +kernel⟩
def S1_product_of : List Ent → R Fl :=
  (retR (binR modD (callR sumD (consR (lcR (zipI2 (consV (nameR 0) (consV (nameR 1) nilA))) (tupT [(nameT 3), (nameT 4)]) yesT (binR mulD (nameR 3) (nameR 4)) [3, 4]) nilA)) (nameR 2)))
def G_product_of : List Ent → R Fl :=
  (seqR S1_product_of nxS)
def Gf_product_of : List Ent → R Kd := fun es => fin 3 (G_product_of (es ++ List.replicate 2 .no))
theorem eq_product_of : ∀ es : List Ent, es.length = 3 → Gf_product_of es ≠ .bad → fin 3 (G_product_of (es ++ List.replicate (5 - 3) .no)) = Gf_product_of es := fun _ _ _ => rfl
theorem bd_product_of (kV doc pm : Value) (an : Option Addr) (cdv ct : Value) (us : List Value) (h : us.length = (["one", "other", "modulus"] : List Str).length) : bindArgs (PySem.W.fnOf "product_of" "product_of" (defArgs s_product_of) (defBody s_product_of) (defScope s_product_of) .none kV doc pm an cdv ct) { pos := us } = pure ((["one", "other", "modulus"] : List Str).zip us) := match us, h with | [_, _, _], _ => rfl
theorem ok_product_of {f : Addr} {fd : FuncData} (T : Tx mg)  (F : Fun K "product_of" "product_of" s_product_of f fd) : FnOk P w K mg base (L2.CX P w) 1 f fd ["one", "other", "modulus"] (spD K 3 Gf_product_of) :=
  jf_ok (n := 3) (k := 0) (G := G_product_of) F sc_product_of rfl (fun cdv A outer s H E Fm hr =>
    (js_cons (js_ret (je_op op_mod snd_mod (je_callB (cr_sum rfl) snd_sum (by rfl) T.n_sum boot_sum (ja_cons (je_lcV rfl sc_product_of.nd (ji_zip2 (by rfl) T.n_zip (ja_consV (je_name 0) (ja_consV (je_name 1) jn_nil))) (blkOk_by (N := ["one", "other", "modulus", "left", "right"]) (sc := defScope s_product_of) (own := [("left", 3), ("right", 4)]) (by decide +kernel)) (fun _ _ _ _ _ => (pg_tup rfl (pgs_cons (jg_name 3 sc_product_of.nd) (pgs_cons (jg_name 4 sc_product_of.nd) pgs_nil)))) (tgD_tup (tgsD_cons (tgD_name 3) (tgsD_cons (tgD_name 4) tgsD_nil)) rfl) (by decide) (fun _ _ _ _ _ _ => jy_nil) (fun _ _ _ _ _ _ => (je_op op_mulA snd_mul (je_name 3) (je_name 4))) rfl) jn_nil)) (je_name 2))) jx_nil)) eq_product_of
theorem dn_product_of {f : Addr} {fd : FuncData} (T : Tx mg)  (F : Fun K "product_of" "product_of" s_product_of f fd) (hm : mg "product_of" = some (.ref f)) : FnD P w K mg base "product_of" 1 3 Gf_product_of := ⟨f, fd, ["one", "other", "modulus"], ok_product_of T  F, hm, F.kp, F.binds (bd_product_of)⟩
/-! sum_of -/
abbrev s_sum_of : Stmt := top 20
theorem sc_sum_of : FnScope ["factors", "vectors", "modulus", "column"] ["factors", "vectors", "modulus"] (defScope s_sum_of) := ⟨rfl, rfl, rfl, by decide +kernel, rfl, by decide +kernel, by decide +kernel⟩
def S1_sum_of : List Ent → R Fl :=
  (retR (callR tupleD (consR (lcR (zipNI (starA (nameR 1) nilA)) (nameT 3) yesT (callU 3 Gf_product_of [] (consV (nameR 0) (consV (nameR 3) (consV (nameR 2) nilA)))) [3]) nilA)))
def G_sum_of : List Ent → R Fl :=
  (seqR S1_sum_of nxS)
def Gf_sum_of : List Ent → R Kd := fun es => fin 3 (G_sum_of (es ++ List.replicate 1 .no))
theorem eq_sum_of : ∀ es : List Ent, es.length = 3 → Gf_sum_of es ≠ .bad → fin 3 (G_sum_of (es ++ List.replicate (4 - 3) .no)) = Gf_sum_of es := fun _ _ _ => rfl
theorem bd_sum_of (kV doc pm : Value) (an : Option Addr) (cdv ct : Value) (us : List Value) (h : us.length = (["factors", "vectors", "modulus"] : List Str).length) : bindArgs (PySem.W.fnOf "sum_of" "sum_of" (defArgs s_sum_of) (defBody s_sum_of) (defScope s_sum_of) .none kV doc pm an cdv ct) { pos := us } = pure ((["factors", "vectors", "modulus"] : List Str).zip us) := match us, h with | [_, _, _], _ => rfl
theorem ok_sum_of {f : Addr} {fd : FuncData} (T : Tx mg) (D_product_of : FnD P w K mg base "product_of" 1 3 Gf_product_of) (F : Fun K "sum_of" "sum_of" s_sum_of f fd) : FnOk P w K mg base (L2.CX P w) 2 f fd ["factors", "vectors", "modulus"] (spD K 3 Gf_sum_of) :=
  jf_ok (n := 3) (k := 1) (G := G_sum_of) F sc_sum_of rfl (fun cdv A outer s H E Fm hr =>
    (js_cons (js_ret (je_callTy call_tuple_ofF snd_tuple (by rfl) T.n_tuple boot_tuple (ja_cons (je_lcV rfl sc_sum_of.nd (ji_zipS (by rfl) T.n_zip (je_name 1)) (blkOk_by (N := ["factors", "vectors", "modulus", "column"]) (sc := defScope s_sum_of) (own := [("column", 3)]) (by decide +kernel)) (fun _ _ _ _ _ => (jg_name 3 sc_sum_of.nd)) (tgD_name 3) (by decide) (fun _ _ _ _ _ _ => jy_nil) (fun _ _ _ _ _ _ => (je_f D_product_of (hr.mono (by decide)) passL (ja_consV (je_name 0) (ja_consV (je_name 3) (ja_consV (je_name 2) jn_nil))))) rfl) jn_nil))) jx_nil)) eq_sum_of
theorem dn_sum_of {f : Addr} {fd : FuncData} (T : Tx mg) (D_product_of : FnD P w K mg base "product_of" 1 3 Gf_product_of) (F : Fun K "sum_of" "sum_of" s_sum_of f fd) (hm : mg "sum_of" = some (.ref f)) : FnD P w K mg base "sum_of" 2 3 Gf_sum_of := ⟨f, fd, ["factors", "vectors", "modulus"], ok_sum_of T D_product_of F, hm, F.kp, F.binds (bd_sum_of)⟩
/-! lead -/
abbrev s_lead : Stmt := top 21
theorem sc_lead : FnScope ["row"] ["row"] (defScope s_lead) := ⟨rfl, rfl, rfl, by decide +kernel, rfl, by decide +kernel, by decide +kernel⟩
def G_lead : List Ent → R Fl :=
  (seqR (retR (idxR (nameR 0) (cR (.int 1)))) nxS)
def Gf_lead : List Ent → R Kd := fun es => fin 1 (G_lead (es ++ List.replicate 0 .no))
theorem eq_lead : ∀ es : List Ent, es.length = 1 → Gf_lead es ≠ .bad → fin 1 (G_lead (es ++ List.replicate (1 - 1) .no)) = Gf_lead es := fun _ _ _ => rfl
theorem bd_lead (kV doc pm : Value) (an : Option Addr) (cdv ct : Value) (us : List Value) (h : us.length = (["row"] : List Str).length) : bindArgs (PySem.W.fnOf "lead" "lead" (defArgs s_lead) (defBody s_lead) (defScope s_lead) .none kV doc pm an cdv ct) { pos := us } = pure ((["row"] : List Str).zip us) := match us, h with | [_], _ => rfl
theorem ok_lead {f : Addr} {fd : FuncData} (T : Tx mg)  (F : Fun K "lead" "lead" s_lead f fd) : FnOk P w K mg base (L2.CX P w) 1 f fd ["row"] (spD K 1 Gf_lead) :=
  jf_ok (n := 1) (k := 0) (G := G_lead) F sc_lead rfl (fun cdv A outer s H E Fm hr =>
    (js_cons (js_ret (je_idx (je_name 0) jc_int)) jx_nil)) eq_lead
theorem dn_lead {f : Addr} {fd : FuncData} (T : Tx mg)  (F : Fun K "lead" "lead" s_lead f fd) (hm : mg "lead" = some (.ref f)) : FnD P w K mg base "lead" 1 1 Gf_lead := ⟨f, fd, ["row"], ok_lead T  F, hm, F.kp, F.binds (bd_lead)⟩
/-! first_other_than_zero -/
abbrev s_first_other_than_zero : Stmt := top 22
theorem sc_first_other_than_zero : FnScope ["row", "at"] ["row"] (defScope s_first_other_than_zero) := ⟨rfl, rfl, rfl, by decide +kernel, rfl, by decide +kernel, by decide +kernel⟩
def B1_first_other_than_zero : List Ent → R Fl :=
  (seqR (setR 1 (binR addD (nameR 1) (cR (.int 1)))) nxS)
def G_first_other_than_zero : List Ent → R Fl :=
  (seqR (setR 1 (cR (.int 0))) (seqR (fun ρ => whileR (fun ρ => toB ((binR eqD (binR ixD (nameR 0) (nameR 1)) (cR (.int 0))) ρ)) B1_first_other_than_zero fuelK ρ) (seqR (retR (fun ρ => toVa ((nameR 1) ρ))) nxS)))
def Gf_first_other_than_zero : List Ent → R Kd := fun es => fin 1 (G_first_other_than_zero (es ++ List.replicate 1 .no))
theorem eq_first_other_than_zero : ∀ es : List Ent, es.length = 1 → Gf_first_other_than_zero es ≠ .bad → fin 1 (G_first_other_than_zero (es ++ List.replicate (2 - 1) .no)) = Gf_first_other_than_zero es := fun _ _ _ => rfl
theorem bd_first_other_than_zero (kV doc pm : Value) (an : Option Addr) (cdv ct : Value) (us : List Value) (h : us.length = (["row"] : List Str).length) : bindArgs (PySem.W.fnOf "first_other_than_zero" "first_other_than_zero" (defArgs s_first_other_than_zero) (defBody s_first_other_than_zero) (defScope s_first_other_than_zero) .none kV doc pm an cdv ct) { pos := us } = pure ((["row"] : List Str).zip us) := match us, h with | [_], _ => rfl
theorem ok_first_other_than_zero {f : Addr} {fd : FuncData} (T : Tx mg)  (F : Fun K "first_other_than_zero" "first_other_than_zero" s_first_other_than_zero f fd) : FnOk P w K mg base (L2.CX P w) 1 f fd ["row"] (spD K 1 Gf_first_other_than_zero) :=
  jf_ok (n := 1) (k := 0) (G := G_first_other_than_zero) F sc_first_other_than_zero rfl (fun cdv A outer s H E Fm hr =>
    (js_cons (js_set 1 sc_first_other_than_zero.nd jc_int) (js_cons (js_while (fun _ => fuelK) (passes_of rfl) (jt_cmp (op_eqD hr.units) snd_eq (je_ix (je_name 0) (je_name 1)) jc_int (nomark _)) (js_cons (js_set 1 sc_first_other_than_zero.nd (je_op op_addA snd_add (je_name 1) jc_int)) jx_nil)) (js_cons (js_ret (je_toVa (je_name 1))) jx_nil)))) eq_first_other_than_zero
theorem dn_first_other_than_zero {f : Addr} {fd : FuncData} (T : Tx mg)  (F : Fun K "first_other_than_zero" "first_other_than_zero" s_first_other_than_zero f fd) (hm : mg "first_other_than_zero" = some (.ref f)) : FnD P w K mg base "first_other_than_zero" 1 1 Gf_first_other_than_zero := ⟨f, fd, ["row"], ok_first_other_than_zero T  F, hm, F.kp, F.binds (bd_first_other_than_zero)⟩
/-! cleared_at -/
abbrev s_cleared_at : Stmt := top 23
theorem sc_cleared_at : FnScope ["row", "at", "pivot", "modulus", "times", "letter", "taken"] ["row", "at", "pivot", "modulus"] (defScope s_cleared_at) := ⟨rfl, rfl, rfl, by decide +kernel, rfl, by decide +kernel, by decide +kernel⟩
def S1_cleared_at : List Ent → R Fl :=
  (retR (callR tupleD (consR (lcR (zipI2 (consV (nameR 0) (consV (nameR 2) nilA))) (tupT [(nameT 5), (nameT 6)]) yesT (binR modD (binR subD (nameR 5) (binR mulD (nameR 4) (nameR 6))) (nameR 3)) [5, 6]) nilA)))
def G_cleared_at : List Ent → R Fl :=
  (seqR (setR 4 (binR ixD (nameR 0) (nameR 1))) (seqR (ifS (fun ρ => toB ((binR eqD (nameR 4) (cR (.int 0))) ρ)) (seqR (retR (fun ρ => toVa ((nameR 0) ρ))) nxS) nxS) (seqR S1_cleared_at nxS)))
def Gf_cleared_at : List Ent → R Kd := fun es => fin 4 (G_cleared_at (es ++ List.replicate 3 .no))
theorem eq_cleared_at : ∀ es : List Ent, es.length = 4 → Gf_cleared_at es ≠ .bad → fin 4 (G_cleared_at (es ++ List.replicate (7 - 4) .no)) = Gf_cleared_at es := fun _ _ _ => rfl
theorem bd_cleared_at (kV doc pm : Value) (an : Option Addr) (cdv ct : Value) (us : List Value) (h : us.length = (["row", "at", "pivot", "modulus"] : List Str).length) : bindArgs (PySem.W.fnOf "cleared_at" "cleared_at" (defArgs s_cleared_at) (defBody s_cleared_at) (defScope s_cleared_at) .none kV doc pm an cdv ct) { pos := us } = pure ((["row", "at", "pivot", "modulus"] : List Str).zip us) := match us, h with | [_, _, _, _], _ => rfl
theorem ok_cleared_at {f : Addr} {fd : FuncData} (T : Tx mg)  (F : Fun K "cleared_at" "cleared_at" s_cleared_at f fd) : FnOk P w K mg base (L2.CX P w) 1 f fd ["row", "at", "pivot", "modulus"] (spD K 4 Gf_cleared_at) :=
  jf_ok (n := 4) (k := 0) (G := G_cleared_at) F sc_cleared_at rfl (fun cdv A outer s H E Fm hr =>
    (js_cons (js_set 4 sc_cleared_at.nd (je_ix (je_name 0) (je_name 1))) (js_cons (js_if (jt_cmp (op_eqD hr.units) snd_eq (je_name 4) jc_int (nomark _)) (js_cons (js_ret (je_toVa (je_name 0))) jx_nil) jx_nil) (js_cons (js_ret (je_callTy call_tuple_ofF snd_tuple (by rfl) T.n_tuple boot_tuple (ja_cons (je_lcV rfl sc_cleared_at.nd (ji_zip2 (by rfl) T.n_zip (ja_consV (je_name 0) (ja_consV (je_name 2) jn_nil))) (blkOk_by (N := ["row", "at", "pivot", "modulus", "times", "letter", "taken"]) (sc := defScope s_cleared_at) (own := [("letter", 5), ("taken", 6)]) (by decide +kernel)) (fun _ _ _ _ _ => (pg_tup rfl (pgs_cons (jg_name 5 sc_cleared_at.nd) (pgs_cons (jg_name 6 sc_cleared_at.nd) pgs_nil)))) (tgD_tup (tgsD_cons (tgD_name 5) (tgsD_cons (tgD_name 6) tgsD_nil)) rfl) (by decide) (fun _ _ _ _ _ _ => jy_nil) (fun _ _ _ _ _ _ => (je_op op_mod snd_mod (je_op op_sub snd_sub (je_name 5) (je_op op_mulA snd_mul (je_name 4) (je_name 6))) (je_name 3))) rfl) jn_nil))) jx_nil)))) eq_cleared_at
theorem dn_cleared_at {f : Addr} {fd : FuncData} (T : Tx mg)  (F : Fun K "cleared_at" "cleared_at" s_cleared_at f fd) (hm : mg "cleared_at" = some (.ref f)) : FnD P w K mg base "cleared_at" 1 4 Gf_cleared_at := ⟨f, fd, ["row", "at", "pivot", "modulus"], ok_cleared_at T  F, hm, F.kp, F.binds (bd_cleared_at)⟩
/-! cleared -/
abbrev s_cleared : Stmt := top 24
theorem sc_cleared : FnScope ["vector", "basis", "modulus", "taken", "row", "letter", "less"] ["vector", "basis", "modulus"] (defScope s_cleared) := ⟨rfl, rfl, rfl, by decide +kernel, rfl, by decide +kernel, by decide +kernel⟩
def S1_cleared : List Ent → R Fl :=
  (retR (callR tupleD (consR (lcR (zipI2 (consV (nameR 0) (consV (nameR 3) nilA))) (tupT [(nameT 5), (nameT 6)]) yesT (binR modD (binR subD (nameR 5) (nameR 6)) (nameR 2)) [5, 6]) nilA)))
def S2_cleared : List Ent → R Fl :=
  (setR 3 (callU 3 Gf_sum_of [] (consV (lcR (seqI (nameR 1)) (nameT 4) yesT (binR ixD (nameR 0) (callU 1 Gf_lead [] (consV (nameR 4) nilA))) [4]) (consV (nameR 1) (consV (nameR 2) nilA)))))
def G_cleared : List Ent → R Fl :=
  (seqR (ifS (notR (truR (nameR 1))) (seqR (retR (callR tupleD (consR (nameR 0) nilA))) nxS) nxS) (seqR S2_cleared (seqR S1_cleared nxS)))
def Gf_cleared : List Ent → R Kd := fun es => fin 3 (G_cleared (es ++ List.replicate 4 .no))
theorem eq_cleared : ∀ es : List Ent, es.length = 3 → Gf_cleared es ≠ .bad → fin 3 (G_cleared (es ++ List.replicate (7 - 3) .no)) = Gf_cleared es := fun _ _ _ => rfl
theorem bd_cleared (kV doc pm : Value) (an : Option Addr) (cdv ct : Value) (us : List Value) (h : us.length = (["vector", "basis", "modulus"] : List Str).length) : bindArgs (PySem.W.fnOf "cleared" "cleared" (defArgs s_cleared) (defBody s_cleared) (defScope s_cleared) .none kV doc pm an cdv ct) { pos := us } = pure ((["vector", "basis", "modulus"] : List Str).zip us) := match us, h with | [_, _, _], _ => rfl
theorem ok_cleared {f : Addr} {fd : FuncData} (T : Tx mg) (D_sum_of : FnD P w K mg base "sum_of" 2 3 Gf_sum_of) (D_lead : FnD P w K mg base "lead" 1 1 Gf_lead) (F : Fun K "cleared" "cleared" s_cleared f fd) : FnOk P w K mg base (L2.CX P w) 3 f fd ["vector", "basis", "modulus"] (spD K 3 Gf_cleared) :=
  jf_ok (n := 3) (k := 2) (G := G_cleared) F sc_cleared rfl (fun cdv A outer s H E Fm hr =>
    (js_cons (js_if (jt_not (jt_tru (je_name 1))) (js_cons (js_ret (je_callTy call_tuple_ofF snd_tuple (by rfl) T.n_tuple boot_tuple (ja_cons (je_name 0) jn_nil))) jx_nil) jx_nil) (js_cons (js_set 3 sc_cleared.nd (je_f D_sum_of (hr.mono (by decide)) pass_cx (ja_consV (je_lcV rfl sc_cleared.nd (ji_seq (je_name 1)) (blkOk_by (N := ["vector", "basis", "modulus", "taken", "row", "letter", "less"]) (sc := defScope s_cleared) (own := [("row", 4)]) (by decide +kernel)) (fun _ _ _ _ _ => (jg_name 4 sc_cleared.nd)) (tgD_name 4) (by decide) (fun _ _ _ _ _ _ => jy_nil) (fun _ _ _ _ _ _ => (je_ix (je_name 0) (je_f D_lead (hr.mono (by decide)) passL (ja_consV (je_name 4) jn_nil)))) rfl) (ja_consV (je_name 1) (ja_consV (je_name 2) jn_nil))))) (js_cons (js_ret (je_callTy call_tuple_ofF snd_tuple (by rfl) T.n_tuple boot_tuple (ja_cons (je_lcV rfl sc_cleared.nd (ji_zip2 (by rfl) T.n_zip (ja_consV (je_name 0) (ja_consV (je_name 3) jn_nil))) (blkOk_by (N := ["vector", "basis", "modulus", "taken", "row", "letter", "less"]) (sc := defScope s_cleared) (own := [("letter", 5), ("less", 6)]) (by decide +kernel)) (fun _ _ _ _ _ => (pg_tup rfl (pgs_cons (jg_name 5 sc_cleared.nd) (pgs_cons (jg_name 6 sc_cleared.nd) pgs_nil)))) (tgD_tup (tgsD_cons (tgD_name 5) (tgsD_cons (tgD_name 6) tgsD_nil)) rfl) (by decide) (fun _ _ _ _ _ _ => jy_nil) (fun _ _ _ _ _ _ => (je_op op_mod snd_mod (je_op op_sub snd_sub (je_name 5) (je_name 6)) (je_name 2))) rfl) jn_nil))) jx_nil)))) eq_cleared
theorem dn_cleared {f : Addr} {fd : FuncData} (T : Tx mg) (D_sum_of : FnD P w K mg base "sum_of" 2 3 Gf_sum_of) (D_lead : FnD P w K mg base "lead" 1 1 Gf_lead) (F : Fun K "cleared" "cleared" s_cleared f fd) (hm : mg "cleared" = some (.ref f)) : FnD P w K mg base "cleared" 3 3 Gf_cleared := ⟨f, fd, ["vector", "basis", "modulus"], ok_cleared T D_sum_of D_lead F, hm, F.kp, F.binds (bd_cleared)⟩
/-! basis_with -/
abbrev s_basis_with : Stmt := top 25
theorem sc_basis_with : FnScope ["basis", "row", "modulus", "at", "factor", "pivot", "others", "other", "letter"] ["basis", "row", "modulus"] (defScope s_basis_with) := ⟨rfl, rfl, rfl, by decide +kernel, rfl, by decide +kernel, by decide +kernel⟩
def G_basis_with : List Ent → R Fl :=
  (seqR (setR 3 (callU 1 Gf_first_other_than_zero [] (consV (nameR 1) nilA))) (seqR (setR 4 (callU 2 Gf_inverse [] (consV (binR ixD (nameR 1) (nameR 3)) (consV (nameR 2) nilA)))) (seqR (setR 5 (callR tupleD (consR (lcR (seqI (nameR 1)) (nameT 8) yesT (binR modD (binR mulD (nameR 8) (nameR 4)) (nameR 2)) [8]) nilA))) (seqR (setR 6 (lcR (seqI (nameR 0)) (nameT 7) yesT (callU 4 Gf_cleared_at [] (consV (nameR 7) (consV (nameR 3) (consV (nameR 5) (consV (nameR 2) nilA))))) [7])) (seqR (retR (callR sortRD (consR (binR addD (nameR 6) (listR (consV (nameR 5) nilA))) nilA))) nxS)))))
def Gf_basis_with : List Ent → R Kd := fun es => fin 3 (G_basis_with (es ++ List.replicate 6 .no))
theorem eq_basis_with : ∀ es : List Ent, es.length = 3 → Gf_basis_with es ≠ .bad → fin 3 (G_basis_with (es ++ List.replicate (9 - 3) .no)) = Gf_basis_with es := fun _ _ _ => rfl
theorem bd_basis_with (kV doc pm : Value) (an : Option Addr) (cdv ct : Value) (us : List Value) (h : us.length = (["basis", "row", "modulus"] : List Str).length) : bindArgs (PySem.W.fnOf "basis_with" "basis_with" (defArgs s_basis_with) (defBody s_basis_with) (defScope s_basis_with) .none kV doc pm an cdv ct) { pos := us } = pure ((["basis", "row", "modulus"] : List Str).zip us) := match us, h with | [_, _, _], _ => rfl
theorem ok_basis_with {f : Addr} {fd : FuncData} (T : Tx mg) (D_first_other_than_zero : FnD P w K mg base "first_other_than_zero" 1 1 Gf_first_other_than_zero) (D_inverse : FnD P w K mg base "inverse" 4 2 Gf_inverse) (D_cleared_at : FnD P w K mg base "cleared_at" 1 4 Gf_cleared_at) (F : Fun K "basis_with" "basis_with" s_basis_with f fd) : FnOk P w K mg base (L2.CX P w) 5 f fd ["basis", "row", "modulus"] (spD K 3 Gf_basis_with) :=
  jf_ok (n := 3) (k := 4) (G := G_basis_with) F sc_basis_with rfl (fun cdv A outer s H E Fm hr =>
    (js_cons (js_set 3 sc_basis_with.nd (je_f D_first_other_than_zero (hr.mono (by decide)) pass_cx (ja_consV (je_name 1) jn_nil))) (js_cons (js_set 4 sc_basis_with.nd (je_f D_inverse (hr.mono (by decide)) pass_cx (ja_consV (je_ix (je_name 1) (je_name 3)) (ja_consV (je_name 2) jn_nil)))) (js_cons (js_set 5 sc_basis_with.nd (je_callTy call_tuple_ofF snd_tuple (by rfl) T.n_tuple boot_tuple (ja_cons (je_lcV rfl sc_basis_with.nd (ji_seq (je_name 1)) (blkOk_by (N := ["basis", "row", "modulus", "at", "factor", "pivot", "others", "other", "letter"]) (sc := defScope s_basis_with) (own := [("letter", 8)]) (by decide +kernel)) (fun _ _ _ _ _ => (jg_name 8 sc_basis_with.nd)) (tgD_name 8) (by decide) (fun _ _ _ _ _ _ => jy_nil) (fun _ _ _ _ _ _ => (je_op op_mod snd_mod (je_op op_mulA snd_mul (je_name 8) (je_name 4)) (je_name 2))) rfl) jn_nil))) (js_cons (js_setLcV (i := 6) rfl sc_basis_with.nd (sw_true rfl rfl rfl (by decide +kernel)) (ji_seq (je_name 0)) (blkOk_by (N := ["basis", "row", "modulus", "at", "factor", "pivot", "others", "other", "letter"]) (sc := defScope s_basis_with) (own := [("other", 7)]) (by decide +kernel)) (fun _ _ _ _ _ => (jg_name 7 sc_basis_with.nd)) (tgD_name 7) (by decide) (fun _ _ _ _ _ _ => jy_nil) (fun _ _ _ _ _ _ => (je_f D_cleared_at (hr.mono (by decide)) passL (ja_consV (je_name 7) (ja_consV (je_name 3) (ja_consV (je_name 5) (ja_consV (je_name 2) jn_nil)))))) rfl) (js_cons (js_ret (je_sortR (by rfl) T.n_sorted boot_sorted (ja_cons (je_op op_addA snd_add (je_name 6) (je_list (ja_consV (je_name 5) jn_nil))) jn_nil))) jx_nil)))))) eq_basis_with
theorem dn_basis_with {f : Addr} {fd : FuncData} (T : Tx mg) (D_first_other_than_zero : FnD P w K mg base "first_other_than_zero" 1 1 Gf_first_other_than_zero) (D_inverse : FnD P w K mg base "inverse" 4 2 Gf_inverse) (D_cleared_at : FnD P w K mg base "cleared_at" 1 4 Gf_cleared_at) (F : Fun K "basis_with" "basis_with" s_basis_with f fd) (hm : mg "basis_with" = some (.ref f)) : FnD P w K mg base "basis_with" 5 3 Gf_basis_with := ⟨f, fd, ["basis", "row", "modulus"], ok_basis_with T D_first_other_than_zero D_inverse D_cleared_at F, hm, F.kp, F.binds (bd_basis_with)⟩
/-! widened -/
abbrev s_widened : Stmt := top 26
theorem sc_widened : FnScope ["basis", "rows", "modulus", "row", "rest"] ["basis", "rows", "modulus"] (defScope s_widened) := ⟨rfl, rfl, rfl, by decide +kernel, rfl, by decide +kernel, by decide +kernel⟩
def S1_widened : List Ent → R Fl :=
  (ifS (fun ρ => toB ((callR anyD2 (consR (nameR 4) nilA)) ρ)) (seqR (setR 0 (callU 3 Gf_basis_with [] (consV (nameR 0) (consV (nameR 4) (consV (nameR 2) nilA))))) nxS) nxS)
def B2_widened : List Ent → R Fl :=
  (seqR (setR 4 (callU 3 Gf_cleared [] (consV (nameR 3) (consV (nameR 0) (consV (nameR 2) nilA))))) (seqR S1_widened nxS))
def G_widened : List Ent → R Fl :=
  (seqR (forS (seqI (nameR 1)) (nameT 3) B2_widened) (seqR (retR (fun ρ => toVa ((nameR 0) ρ))) nxS))
def Gf_widened : List Ent → R Kd := fun es => fin 3 (G_widened (es ++ List.replicate 2 .no))
theorem eq_widened : ∀ es : List Ent, es.length = 3 → Gf_widened es ≠ .bad → fin 3 (G_widened (es ++ List.replicate (5 - 3) .no)) = Gf_widened es := fun _ _ _ => rfl
theorem bd_widened (kV doc pm : Value) (an : Option Addr) (cdv ct : Value) (us : List Value) (h : us.length = (["basis", "rows", "modulus"] : List Str).length) : bindArgs (PySem.W.fnOf "widened" "widened" (defArgs s_widened) (defBody s_widened) (defScope s_widened) .none kV doc pm an cdv ct) { pos := us } = pure ((["basis", "rows", "modulus"] : List Str).zip us) := match us, h with | [_, _, _], _ => rfl
theorem ok_widened {f : Addr} {fd : FuncData} (T : Tx mg) (D_cleared : FnD P w K mg base "cleared" 3 3 Gf_cleared) (D_basis_with : FnD P w K mg base "basis_with" 5 3 Gf_basis_with) (F : Fun K "widened" "widened" s_widened f fd) : FnOk P w K mg base (L2.CX P w) 6 f fd ["basis", "rows", "modulus"] (spD K 3 Gf_widened) :=
  jf_ok (n := 3) (k := 5) (G := G_widened) F sc_widened rfl (fun cdv A outer s H E Fm hr =>
    (js_cons (js_for (passes_of rfl) rfl (ji_seq (je_name 1)) (jg_name 3 sc_widened.nd) (tgD_name 3) (js_cons (js_set 4 sc_widened.nd (je_f D_cleared (hr.mono (by decide)) pass_cx (ja_consV (je_name 3) (ja_consV (je_name 0) (ja_consV (je_name 2) jn_nil))))) (js_cons (js_if (jt_val (je_callB (cr_any2 rfl) snd_any2 (by rfl) T.n_any boot_any (ja_cons (je_name 4) jn_nil))) (js_cons (js_set 0 sc_widened.nd (je_f D_basis_with (hr.mono (by decide)) pass_cx (ja_consV (je_name 0) (ja_consV (je_name 4) (ja_consV (je_name 2) jn_nil))))) jx_nil) jx_nil) jx_nil))) (js_cons (js_ret (je_toVa (je_name 0))) jx_nil))) eq_widened
theorem dn_widened {f : Addr} {fd : FuncData} (T : Tx mg) (D_cleared : FnD P w K mg base "cleared" 3 3 Gf_cleared) (D_basis_with : FnD P w K mg base "basis_with" 5 3 Gf_basis_with) (F : Fun K "widened" "widened" s_widened f fd) (hm : mg "widened" = some (.ref f)) : FnD P w K mg base "widened" 6 3 Gf_widened := ⟨f, fd, ["basis", "rows", "modulus"], ok_widened T D_cleared D_basis_with F, hm, F.kp, F.binds (bd_widened)⟩
/-! reduced_basis -/
abbrev s_reduced_basis : Stmt := top 27
theorem sc_reduced_basis : FnScope ["rows", "modulus"] ["rows", "modulus"] (defScope s_reduced_basis) := ⟨rfl, rfl, rfl, by decide +kernel, rfl, by decide +kernel, by decide +kernel⟩
def G_reduced_basis : List Ent → R Fl :=
  (seqR (retR (callU 3 Gf_widened [] (consV (listR nilA) (consV (nameR 0) (consV (nameR 1) nilA))))) nxS)
def Gf_reduced_basis : List Ent → R Kd := fun es => fin 2 (G_reduced_basis (es ++ List.replicate 0 .no))
theorem eq_reduced_basis : ∀ es : List Ent, es.length = 2 → Gf_reduced_basis es ≠ .bad → fin 2 (G_reduced_basis (es ++ List.replicate (2 - 2) .no)) = Gf_reduced_basis es := fun _ _ _ => rfl
theorem bd_reduced_basis (kV doc pm : Value) (an : Option Addr) (cdv ct : Value) (us : List Value) (h : us.length = (["rows", "modulus"] : List Str).length) : bindArgs (PySem.W.fnOf "reduced_basis" "reduced_basis" (defArgs s_reduced_basis) (defBody s_reduced_basis) (defScope s_reduced_basis) .none kV doc pm an cdv ct) { pos := us } = pure ((["rows", "modulus"] : List Str).zip us) := match us, h with | [_, _], _ => rfl
theorem ok_reduced_basis {f : Addr} {fd : FuncData} (T : Tx mg) (D_widened : FnD P w K mg base "widened" 6 3 Gf_widened) (F : Fun K "reduced_basis" "reduced_basis" s_reduced_basis f fd) : FnOk P w K mg base (L2.CX P w) 7 f fd ["rows", "modulus"] (spD K 2 Gf_reduced_basis) :=
  jf_ok (n := 2) (k := 6) (G := G_reduced_basis) F sc_reduced_basis rfl (fun cdv A outer s H E Fm hr =>
    (js_cons (js_ret (je_f D_widened (hr.mono (by decide)) pass_cx (ja_consV (je_list jn_nil) (ja_consV (je_name 0) (ja_consV (je_name 1) jn_nil))))) jx_nil)) eq_reduced_basis
theorem dn_reduced_basis {f : Addr} {fd : FuncData} (T : Tx mg) (D_widened : FnD P w K mg base "widened" 6 3 Gf_widened) (F : Fun K "reduced_basis" "reduced_basis" s_reduced_basis f fd) (hm : mg "reduced_basis" = some (.ref f)) : FnD P w K mg base "reduced_basis" 7 2 Gf_reduced_basis := ⟨f, fd, ["rows", "modulus"], ok_reduced_basis T D_widened F, hm, F.kp, F.binds (bd_reduced_basis)⟩
/-! combination -/
abbrev s_combination : Stmt := top 28
theorem sc_combination : FnScope ["modulus", "vectors", "target", "equations", "many", "found", "row", "at"] ["modulus", "vectors", "target"] (defScope s_combination) := ⟨rfl, rfl, rfl, by decide +kernel, rfl, by decide +kernel, by decide +kernel⟩
def S1_combination : List Ent → R Fl :=
  (setR 5 (dcR (seqI (callU 2 Gf_reduced_basis [] (consV (nameR 3) (consV (nameR 0) nilA)))) (nameT 6) yesT (callU 1 Gf_lead [] (consV (nameR 6) nilA)) (binR ixD (nameR 6) (nameR 4)) [6]))
def G_combination : List Ent → R Fl :=
  (seqR (dropR (callU 1 Gf_check_modulus [] (consV (nameR 0) nilA))) (seqR (ifS (notR (fun ρ => toB ((callU 2 Gf_is_vector [] (consV (nameR 2) (consV (nameR 0) nilA))) ρ))) (seqR (fun _ => .bad) nxS) nxS) (seqR (dropR (callU 3 Gf_check_vectors [] (consV (nameR 1) (consV (nameR 0) (consV (callR lenD (consR (nameR 2) nilA)) nilA))))) (seqR (setR 3 (listZR (zipNI (starA (nameR 1) (consV (nameR 2) nilA))))) (seqR (setR 4 (callR lenD (consR (nameR 1) nilA))) (seqR S1_combination (seqR (ifS (fun ρ => toB ((binR inD2 (nameR 4) (nameR 5)) ρ)) (seqR (retR (cR .non)) nxS) nxS) (seqR (retR (lcR (rng1I (consV (nameR 4) nilA)) (nameT 7) yesT (get2R (nameR 5) (nameR 7) (cR (.int 0))) [7])) nxS))))))))
def Gf_combination : List Ent → R Kd := fun es => fin 3 (G_combination (es ++ List.replicate 5 .no))
theorem eq_combination : ∀ es : List Ent, es.length = 3 → Gf_combination es ≠ .bad → fin 3 (G_combination (es ++ List.replicate (8 - 3) .no)) = Gf_combination es := fun _ _ _ => rfl
theorem bd_combination (kV doc pm : Value) (an : Option Addr) (cdv ct : Value) (us : List Value) (h : us.length = (["modulus", "vectors", "target"] : List Str).length) : bindArgs (PySem.W.fnOf "combination" "combination" (defArgs s_combination) (defBody s_combination) (defScope s_combination) .none kV doc pm an cdv ct) { pos := us } = pure ((["modulus", "vectors", "target"] : List Str).zip us) := match us, h with | [_, _, _], _ => rfl
theorem ok_combination {f : Addr} {fd : FuncData} (T : Tx mg) (D_check_modulus : FnD P w K mg base "check_modulus" 3 1 Gf_check_modulus) (D_is_vector : FnD P w K mg base "is_vector" 3 2 Gf_is_vector) (D_check_vectors : FnD P w K mg base "check_vectors" 5 3 Gf_check_vectors) (D_reduced_basis : FnD P w K mg base "reduced_basis" 7 2 Gf_reduced_basis) (D_lead : FnD P w K mg base "lead" 1 1 Gf_lead) (F : Fun K "combination" "combination" s_combination f fd) : FnOk P w K mg base (L2.CX P w) 8 f fd ["modulus", "vectors", "target"] (spD K 3 Gf_combination) :=
  jf_ok (n := 3) (k := 7) (G := G_combination) F sc_combination rfl (fun cdv A outer s H E Fm hr =>
    (js_cons (js_expr (je_f D_check_modulus (hr.mono (by decide)) pass_cx (ja_consV (je_name 0) jn_nil))) (js_cons (js_if (jt_not (jt_val (je_f D_is_vector (hr.mono (by decide)) pass_cx (ja_consV (je_name 2) (ja_consV (je_name 0) jn_nil))))) (js_cons js_bad jx_nil) jx_nil) (js_cons (js_expr (je_f D_check_vectors (hr.mono (by decide)) pass_cx (ja_consV (je_name 1) (ja_consV (je_name 0) (ja_consV (je_callB call_len_seq snd_len (by rfl) T.n_len PySem.boot_len (ja_cons (je_name 2) jn_nil)) jn_nil))))) (js_cons (js_set 3 sc_combination.nd (je_listZipM (by rfl) T.n_list (by rfl) T.n_zip (ja_star (je_name 1) (ja_consV (je_name 2) jn_nil)))) (js_cons (js_set 4 sc_combination.nd (je_callB call_len_seq snd_len (by rfl) T.n_len PySem.boot_len (ja_cons (je_name 1) jn_nil))) (js_cons (js_set 5 sc_combination.nd (je_dcV rfl sc_combination.nd (ji_seq (je_f D_reduced_basis (hr.mono (by decide)) pass_cx (ja_consV (je_name 3) (ja_consV (je_name 0) jn_nil)))) (blkOk_by (N := ["modulus", "vectors", "target", "equations", "many", "found", "row", "at"]) (sc := defScope s_combination) (own := [("row", 6)]) (by decide +kernel)) (fun _ _ _ _ _ => (jg_name 6 sc_combination.nd)) (tgD_name 6) (by decide) (fun _ _ _ _ _ _ => jy_nil) (fun _ _ _ _ _ _ => (je_f D_lead (hr.mono (by decide)) passL (ja_consV (je_name 6) jn_nil))) (fun _ _ _ _ _ _ => (je_ix (je_name 6) (je_name 4))) rfl)) (js_cons (js_if (jt_cmp (op_in2 (huD hr)) snd_in2 (je_name 4) (je_name 5) rfl) (js_cons (js_ret jc_non) jx_nil) jx_nil) (js_cons (js_ret (je_lcV rfl sc_combination.nd (ji_range1 (by rfl) T.n_range (ja_consV (je_name 4) jn_nil)) (blkOk_by (N := ["modulus", "vectors", "target", "equations", "many", "found", "row", "at"]) (sc := defScope s_combination) (own := [("at", 7)]) (by decide +kernel)) (fun _ _ _ _ _ => (jg_name 7 sc_combination.nd)) (tgD_name 7) (by decide) (fun _ _ _ _ _ _ => jy_nil) (fun _ _ _ _ _ _ => (je_get2 (huD hr) (je_name 5) (je_name 7) jc_int ⟨rfl, rfl, rfl, rfl⟩)) rfl)) jx_nil))))))))) eq_combination
theorem dn_combination {f : Addr} {fd : FuncData} (T : Tx mg) (D_check_modulus : FnD P w K mg base "check_modulus" 3 1 Gf_check_modulus) (D_is_vector : FnD P w K mg base "is_vector" 3 2 Gf_is_vector) (D_check_vectors : FnD P w K mg base "check_vectors" 5 3 Gf_check_vectors) (D_reduced_basis : FnD P w K mg base "reduced_basis" 7 2 Gf_reduced_basis) (D_lead : FnD P w K mg base "lead" 1 1 Gf_lead) (F : Fun K "combination" "combination" s_combination f fd) (hm : mg "combination" = some (.ref f)) : FnD P w K mg base "combination" 8 3 Gf_combination := ⟨f, fd, ["modulus", "vectors", "target"], ok_combination T D_check_modulus D_is_vector D_check_vectors D_reduced_basis D_lead F, hm, F.kp, F.binds (bd_combination)⟩
/-! _law_draws -/
abbrev s__law_draws : Stmt := top 30
theorem sc__law_draws : FnScope ["_law_script"] ["_law_script"] (defScope s__law_draws) := ⟨rfl, rfl, rfl, by decide +kernel, rfl, by decide +kernel, by decide +kernel⟩
def S1__law_draws : List Ent → R Fl :=
  (retR (listR (consV (callR listD (consR (sliceR (nameR 0) partN (partS (cR (.int 63)))) nilA)) (consV (cR (.int 0)) (consV (cR (.int 0)) (consV (cR (.int 10045)) (consV (cR (.int 0)) nilA)))))))
def G__law_draws : List Ent → R Fl :=
  (seqR S1__law_draws nxS)
def Gf__law_draws : List Ent → R Kd := fun es => fin 1 (G__law_draws (es ++ List.replicate 0 .no))
theorem eq__law_draws : ∀ es : List Ent, es.length = 1 → Gf__law_draws es ≠ .bad → fin 1 (G__law_draws (es ++ List.replicate (1 - 1) .no)) = Gf__law_draws es := fun _ _ _ => rfl
theorem bd__law_draws (kV doc pm : Value) (an : Option Addr) (cdv ct : Value) (us : List Value) (h : us.length = (["_law_script"] : List Str).length) : bindArgs (PySem.W.fnOf "_law_draws" "_law_draws" (defArgs s__law_draws) (defBody s__law_draws) (defScope s__law_draws) .none kV doc pm an cdv ct) { pos := us } = pure ((["_law_script"] : List Str).zip us) := match us, h with | [_], _ => rfl
theorem ok__law_draws {f : Addr} {fd : FuncData} (T : Tx mg)  (F : Fun K "_law_draws" "_law_draws" s__law_draws f fd) : FnOk P w K mg base (L2.CX P w) 1 f fd ["_law_script"] (spD K 1 Gf__law_draws) :=
  jf_ok (n := 1) (k := 0) (G := G__law_draws) F sc__law_draws rfl (fun cdv A outer s H E Fm hr =>
    (js_cons (js_ret (je_list (ja_consV (je_callTy call_list_of snd_list (by rfl) T.n_list boot_list (ja_cons (je_slice (je_name 0) jo_none (jo_some jc_int)) jn_nil)) (ja_consV jc_int (ja_consV jc_int (ja_consV jc_int (ja_consV jc_int jn_nil))))))) jx_nil)) eq__law_draws
theorem dn__law_draws {f : Addr} {fd : FuncData} (T : Tx mg)  (F : Fun K "_law_draws" "_law_draws" s__law_draws f fd) (hm : mg "_law_draws" = some (.ref f)) : FnD P w K mg base "_law_draws" 1 1 Gf__law_draws := ⟨f, fd, ["_law_script"], ok__law_draws T  F, hm, F.kp, F.binds (bd__law_draws)⟩
/-! _law_pull -/
abbrev s__law_pull : Stmt := top 31
theorem sc__law_pull : FnScope ["_law_bag", "_law_many", "_law_cell", "_law_digit", "_law_seed"] ["_law_bag", "_law_many"] (defScope s__law_pull) := ⟨rfl, rfl, rfl, by decide +kernel, rfl, by decide +kernel, by decide +kernel⟩
def S1__law_pull : List Ent → R Fl :=
  (setIx (nameR 0) (cR (.int 3)) (binR modD (callR intD (consR (binR addD (binR addD (binR mulD (binR ixD (nameR 0) (cR (.int 3))) (cR (.int 43019))) (binR mulD (binR modD (callR intD (consR (nameR 2) nilA)) (cR (.int 2147483269))) (cR (.int 51197)))) (cR (.int 73))) nilA)) (cR (.int 2147483399))))
def S2__law_pull : List Ent → R Fl :=
  (retR (binR modD (callR intD (consR (binR addD (binR fdivD (binR ixD (nameR 0) (cR (.int 3))) (cR (.int 83))) (binR mulD (binR modD (callR intD (consR (binR ixD (nameR 0) (cR (.int 3))) nilA)) (cR (.int 7919))) (cR (.int 67)))) nilA)) (nameR 1)))
def S3__law_pull : List Ent → R Fl :=
  (setIx (nameR 0) (cR (.int 3)) (binR modD (callR intD (consR (binR addD (binR addD (binR addD (binR powD (nameR 4) (cR (.int 3))) (binR mulD (nameR 4) (cR (.int 37991)))) (binR mulD (binR ixD (nameR 0) (cR (.int 4))) (cR (.int 1299689)))) (cR (.int 70489))) nilA)) (cR (.int 2147483399))))
def S4__law_pull : List Ent → R Fl :=
  (ifS (fun ρ => toB ((binR gtD (binR ixD (nameR 0) (cR (.int 2))) (cR (.int 0))) ρ)) (seqR (setR 3 (binR modD (callR intD (consR (binR ixD (nameR 0) (cR (.int 2))) nilA)) (nameR 1))) (seqR (setIx (nameR 0) (cR (.int 2)) (binR fdivD (binR ixD (nameR 0) (cR (.int 2))) (nameR 1))) (seqR (retR (fun ρ => toVa ((nameR 3) ρ))) nxS))) nxS)
def S5__law_pull : List Ent → R Fl :=
  (ifS (andR (fun ρ => toB ((binR eqD (binR ixD (nameR 0) (cR (.int 2))) (cR (.int 0))) ρ)) (fun ρ => toB ((binR ltD (binR ixD (nameR 0) (cR (.int 1))) (callR lenD (consR (binR ixD (nameR 0) (cR (.int 0))) nilA))) ρ))) (seqR (setR 2 (binR ixD (binR ixD (nameR 0) (cR (.int 0))) (binR ixD (nameR 0) (cR (.int 1))))) (seqR (setIx (nameR 0) (cR (.int 1)) (binR addD (binR ixD (nameR 0) (cR (.int 1))) (cR (.int 1)))) (seqR (ifS (fun ρ => toB ((binR geD (nameR 2) (binR powD (cR (.int 10)) (cR (.int 18)))) ρ)) (seqR (setIx (nameR 0) (cR (.int 2)) (nameR 2)) nxS) nxS) (seqR S1__law_pull nxS)))) nxS)
def G__law_pull : List Ent → R Fl :=
  (seqR (setIx (nameR 0) (cR (.int 4)) (binR addD (binR ixD (nameR 0) (cR (.int 4))) (cR (.int 1)))) (seqR S5__law_pull (seqR S4__law_pull (seqR (setR 4 (binR ixD (nameR 0) (cR (.int 3)))) (seqR S3__law_pull (seqR S2__law_pull nxS))))))
def Gf__law_pull : List Ent → R Kd := fun es => fin 2 (G__law_pull (es ++ List.replicate 3 .no))
theorem eq__law_pull : ∀ es : List Ent, es.length = 2 → Gf__law_pull es ≠ .bad → fin 2 (G__law_pull (es ++ List.replicate (5 - 2) .no)) = Gf__law_pull es := fun _ _ _ => rfl
theorem bd__law_pull (kV doc pm : Value) (an : Option Addr) (cdv ct : Value) (us : List Value) (h : us.length = (["_law_bag", "_law_many"] : List Str).length) : bindArgs (PySem.W.fnOf "_law_pull" "_law_pull" (defArgs s__law_pull) (defBody s__law_pull) (defScope s__law_pull) .none kV doc pm an cdv ct) { pos := us } = pure ((["_law_bag", "_law_many"] : List Str).zip us) := match us, h with | [_, _], _ => rfl
theorem ok__law_pull {f : Addr} {fd : FuncData} (T : Tx mg)  (F : Fun K "_law_pull" "_law_pull" s__law_pull f fd) : FnOk P w K mg base (L2.CX P w) 1 f fd ["_law_bag", "_law_many"] (spD K 2 Gf__law_pull) :=
  jf_ok (n := 2) (k := 0) (G := G__law_pull) F sc__law_pull rfl (fun cdv A outer s H E Fm hr =>
    (js_cons (js_setIx (je_op op_addA snd_add (je_ix (je_name 0) jc_int) jc_int) (je_name 0) jc_int) (js_cons (js_if (jt_bool (jw_and (jt_cmp (op_eqD hr.units) snd_eq (je_ix (je_name 0) jc_int) jc_int (nomark _)) (jw_and1 (jt_cmp op_lt snd_lt (je_ix (je_name 0) jc_int) (je_callB call_len_seq snd_len (by rfl) T.n_len PySem.boot_len (ja_cons (je_ix (je_name 0) jc_int) jn_nil)) (nomark _))))) (js_cons (js_set 2 sc__law_pull.nd (je_ix (je_ix (je_name 0) jc_int) (je_ix (je_name 0) jc_int))) (js_cons (js_setIx (je_op op_addA snd_add (je_ix (je_name 0) jc_int) jc_int) (je_name 0) jc_int) (js_cons (js_if (jt_cmp op_ge snd_ge (je_name 2) (je_op op_pow snd_pow jc_int jc_int) (nomark _)) (js_cons (js_setIx (je_name 2) (je_name 0) jc_int) jx_nil) jx_nil) (js_cons (js_setIx (je_op op_mod snd_mod (je_callTy call_int1 snd_int (by rfl) T.n_int boot_int (ja_cons (je_op op_addA snd_add (je_op op_addA snd_add (je_op op_mulA snd_mul (je_ix (je_name 0) jc_int) jc_int) (je_op op_mulA snd_mul (je_op op_mod snd_mod (je_callTy call_int1 snd_int (by rfl) T.n_int boot_int (ja_cons (je_name 2) jn_nil)) jc_int) jc_int)) jc_int) jn_nil)) jc_int) (je_name 0) jc_int) jx_nil)))) jx_nil) (js_cons (js_if (jt_cmp op_gt snd_gt (je_ix (je_name 0) jc_int) jc_int (nomark _)) (js_cons (js_set 3 sc__law_pull.nd (je_op op_mod snd_mod (je_callTy call_int1 snd_int (by rfl) T.n_int boot_int (ja_cons (je_ix (je_name 0) jc_int) jn_nil)) (je_name 1))) (js_cons (js_setIx (je_op op_fdivW snd_fdiv (je_ix (je_name 0) jc_int) (je_name 1)) (je_name 0) jc_int) (js_cons (js_ret (je_toVa (je_name 3))) jx_nil))) jx_nil) (js_cons (js_set 4 sc__law_pull.nd (je_ix (je_name 0) jc_int)) (js_cons (js_setIx (je_op op_mod snd_mod (je_callTy call_int1 snd_int (by rfl) T.n_int boot_int (ja_cons (je_op op_addA snd_add (je_op op_addA snd_add (je_op op_addA snd_add (je_op op_pow snd_pow (je_name 4) jc_int) (je_op op_mulA snd_mul (je_name 4) jc_int)) (je_op op_mulA snd_mul (je_ix (je_name 0) jc_int) jc_int)) jc_int) jn_nil)) jc_int) (je_name 0) jc_int) (js_cons (js_ret (je_op op_mod snd_mod (je_callTy call_int1 snd_int (by rfl) T.n_int boot_int (ja_cons (je_op op_addA snd_add (je_op op_fdivW snd_fdiv (je_ix (je_name 0) jc_int) jc_int) (je_op op_mulA snd_mul (je_op op_mod snd_mod (je_callTy call_int1 snd_int (by rfl) T.n_int boot_int (ja_cons (je_ix (je_name 0) jc_int) jn_nil)) jc_int) jc_int)) jn_nil)) (je_name 1))) jx_nil))))))) eq__law_pull
theorem dn__law_pull {f : Addr} {fd : FuncData} (T : Tx mg)  (F : Fun K "_law_pull" "_law_pull" s__law_pull f fd) (hm : mg "_law_pull" = some (.ref f)) : FnD P w K mg base "_law_pull" 1 2 Gf__law_pull := ⟨f, fd, ["_law_bag", "_law_many"], ok__law_pull T  F, hm, F.kp, F.binds (bd__law_pull)⟩
/-! _law_any -/
abbrev s__law_any : Stmt := top 32
theorem sc__law_any : FnScope ["_law_bag", "_law_things"] ["_law_bag", "_law_things"] (defScope s__law_any) := ⟨rfl, rfl, rfl, by decide +kernel, rfl, by decide +kernel, by decide +kernel⟩
def G__law_any : List Ent → R Fl :=
  (seqR (retR (binR ixD (nameR 1) (callB 2 Gf__law_pull [] (consR (nameR 0) (consV (callR lenD (consR (nameR 1) nilA)) nilA))))) nxS)
def Gf__law_any : List Ent → R Kd := fun es => fin 2 (G__law_any (es ++ List.replicate 0 .no))
theorem eq__law_any : ∀ es : List Ent, es.length = 2 → Gf__law_any es ≠ .bad → fin 2 (G__law_any (es ++ List.replicate (2 - 2) .no)) = Gf__law_any es := fun _ _ _ => rfl
theorem bd__law_any (kV doc pm : Value) (an : Option Addr) (cdv ct : Value) (us : List Value) (h : us.length = (["_law_bag", "_law_things"] : List Str).length) : bindArgs (PySem.W.fnOf "_law_any" "_law_any" (defArgs s__law_any) (defBody s__law_any) (defScope s__law_any) .none kV doc pm an cdv ct) { pos := us } = pure ((["_law_bag", "_law_things"] : List Str).zip us) := match us, h with | [_, _], _ => rfl
theorem ok__law_any {f : Addr} {fd : FuncData} (T : Tx mg) (D__law_pull : FnD P w K mg base "_law_pull" 1 2 Gf__law_pull) (F : Fun K "_law_any" "_law_any" s__law_any f fd) : FnOk P w K mg base (L2.CX P w) 2 f fd ["_law_bag", "_law_things"] (spD K 2 Gf__law_any) :=
  jf_ok (n := 2) (k := 1) (G := G__law_any) F sc__law_any rfl (fun cdv A outer s H E Fm hr =>
    (js_cons (js_ret (je_ix (je_name 1) (je_fB D__law_pull (hr.mono (by decide)) pass_cx (ja_cons (je_name 0) (ja_consV (je_callB call_len_seq snd_len (by rfl) T.n_len PySem.boot_len (ja_cons (je_name 1) jn_nil)) jn_nil))))) jx_nil)) eq__law_any
theorem dn__law_any {f : Addr} {fd : FuncData} (T : Tx mg) (D__law_pull : FnD P w K mg base "_law_pull" 1 2 Gf__law_pull) (F : Fun K "_law_any" "_law_any" s__law_any f fd) (hm : mg "_law_any" = some (.ref f)) : FnD P w K mg base "_law_any" 2 2 Gf__law_any := ⟨f, fd, ["_law_bag", "_law_things"], ok__law_any T D__law_pull F, hm, F.kp, F.binds (bd__law_any)⟩
/-! _law_like -/
abbrev s__law_like : Stmt := top 33
theorem sc__law_like : FnScope ["_law_found", "_law_due", "_law_name", "_law_one", "_law_other"] ["_law_found", "_law_due"] (defScope s__law_like) := ⟨rfl, rfl, rfl, by decide +kernel, rfl, by decide +kernel, by decide +kernel⟩
def G__law_like (Gr : List Ent → R Kd) : List Ent → R Fl :=
  (seqR (ifS (fun ρ => toB ((isiR [.dict] (nameR 1)) ρ)) (seqR (ifS (orR (notR (fun ρ => toB ((isiR [.dict] (nameR 0)) ρ))) (fun ρ => toB ((binR neD (callR lenD (consR (nameR 0) nilA)) (callR lenD (consR (nameR 1) nilA))) ρ))) (seqR (retR (cR (.bl false))) nxS) nxS) (seqR (retR (callR allD (consR (lcR (seqI (nameR 1)) (nameT 2) yesT (andV (binR inSD (nameR 2) (nameR 0)) (callU 2 Gr [] (consV (binR ixD (nameR 0) (nameR 2)) (consV (binR ixD (nameR 1) (nameR 2)) nilA)))) [2]) nilA))) nxS)) nxS) (seqR (ifS (fun ρ => toB ((isiR [.list, .tuple] (nameR 1)) ρ)) (seqR (ifS (orR (fun ρ => toB ((binR neD (isiR [.list] (nameR 0)) (isiR [.list] (nameR 1))) ρ)) (fun ρ => toB ((binR neD (isiR [.tuple] (nameR 0)) (isiR [.tuple] (nameR 1))) ρ))) (seqR (retR (cR (.bl false))) nxS) nxS) (seqR (retR (andV (binR eqD (callR lenD (consR (nameR 0) nilA)) (callR lenD (consR (nameR 1) nilA))) (callR allD (consR (lcR (zipI2 (consV (nameR 0) (consV (nameR 1) nilA))) (tupT [(nameT 3), (nameT 4)]) yesT (callU 2 Gr [] (consV (nameR 3) (consV (nameR 4) nilA))) [3, 4]) nilA)))) nxS)) nxS) (seqR (ifS (orR (fun ρ => toB ((binR isND (nameR 1) (cR .non)) ρ)) (fun ρ => toB ((binR isND (nameR 0) (cR .non)) ρ))) (seqR (retR (andV (binR isND (nameR 1) (cR .non)) (binR isND (nameR 0) (cR .non)))) nxS) nxS) (seqR (ifS (orR (fun ρ => toB ((binR neD (isiR [.bool] (nameR 0)) (isiR [.bool] (nameR 1))) ρ)) (fun ρ => toB ((binR neD (isiR [.int] (nameR 0)) (isiR [.int] (nameR 1))) ρ))) (seqR (retR (cR (.bl false))) nxS) nxS) (seqR (retR (andV (binR eqD (isiR [.str] (nameR 0)) (isiR [.str] (nameR 1))) (binR eqD (nameR 0) (nameR 1)))) nxS)))))
def Gf__law_like : Nat → List Ent → R Kd
  | 0 => fun _ => .bad
  | d + 1 => fun es => fin 2 (G__law_like (Gf__law_like d) (es ++ List.replicate 3 .no))
theorem bd__law_like (kV doc pm : Value) (an : Option Addr) (cdv ct : Value) (us : List Value) (h : us.length = (["_law_found", "_law_due"] : List Str).length) : bindArgs (PySem.W.fnOf "_law_like" "_law_like" (defArgs s__law_like) (defBody s__law_like) (defScope s__law_like) .none kV doc pm an cdv ct) { pos := us } = pure ((["_law_found", "_law_due"] : List Str).zip us) := match us, h with | [_, _], _ => rfl
theorem ok__law_like {f : Addr} {fd : FuncData} (T : Tx mg)  (F : Fun K "_law_like" "_law_like" s__law_like f fd) (hm : mg "_law_like" = some (.ref f)) : ∀ d : Nat, FnOk P w K mg base (L2.CX P w) (d + 1) f fd ["_law_found", "_law_due"] (spD K 2 (Gf__law_like d))
  | 0 => jf_ok (n := 2) (k := 0) (G := fun _ => .bad) F sc__law_like rfl (fun cdv A outer s H E Fm hr => jx_bad) fun _ _ h => (h rfl).elim
  | d + 1 => by
    have D__law_like : FnD P w K mg base "_law_like" (d + 1) 2 (Gf__law_like d) := ⟨f, fd, ["_law_found", "_law_due"], ok__law_like T  F hm d, hm, F.kp, F.binds (bd__law_like)⟩
    exact jf_ok (n := 2) (k := d + 1) (G := G__law_like (Gf__law_like d)) F sc__law_like rfl (fun cdv A outer s H E Fm hr =>
      (js_cons (js_if (jt_val (je_isi .dict rfl (by rfl) T.n_isinstance (by rfl) T.n_dict boot_dict (je_name 1))) (js_cons (js_if (jt_bool (jw_or (jt_not (jt_val (je_isi .dict rfl (by rfl) T.n_isinstance (by rfl) T.n_dict boot_dict (je_name 0)))) (jw_or1 (jt_cmp (op_neD hr.units) snd_ne (je_callB call_len_seq snd_len (by rfl) T.n_len PySem.boot_len (ja_cons (je_name 0) jn_nil)) (je_callB call_len_seq snd_len (by rfl) T.n_len PySem.boot_len (ja_cons (je_name 1) jn_nil)) (nomark _))))) (js_cons (js_ret jc_bl) jx_nil) jx_nil) (js_cons (js_ret (je_callB (cr_all rfl) snd_all (by rfl) T.n_all boot_all (ja_cons (je_lcV rfl sc__law_like.nd (ji_seq (je_name 1)) (blkOk_by (N := ["_law_found", "_law_due", "_law_name", "_law_one", "_law_other"]) (sc := defScope s__law_like) (own := [("_law_name", 2)]) (by decide +kernel)) (fun _ _ _ _ _ => (jg_name 2 sc__law_like.nd)) (tgD_name 2) (by decide) (fun _ _ _ _ _ _ => jy_nil) (fun _ _ _ _ _ _ => (je_and (je_cmp op_in_seq snd_in (je_name 2) (je_name 0) rfl) (je_one (je_f D__law_like (hr.mono (by omega)) passL (ja_consV (je_ix (je_name 0) (je_name 2)) (ja_consV (je_ix (je_name 1) (je_name 2)) jn_nil)))))) rfl) jn_nil))) jx_nil)) jx_nil) (js_cons (js_if (jt_val (je_isi2 .list .tuple rfl rfl (by rfl) T.n_isinstance (by rfl) T.n_list boot_list (by rfl) T.n_tuple boot_tuple (je_name 1))) (js_cons (js_if (jt_bool (jw_or (jt_cmp (op_neD hr.units) snd_ne (je_isi .list rfl (by rfl) T.n_isinstance (by rfl) T.n_list boot_list (je_name 0)) (je_isi .list rfl (by rfl) T.n_isinstance (by rfl) T.n_list boot_list (je_name 1)) (nomark _)) (jw_or1 (jt_cmp (op_neD hr.units) snd_ne (je_isi .tuple rfl (by rfl) T.n_isinstance (by rfl) T.n_tuple boot_tuple (je_name 0)) (je_isi .tuple rfl (by rfl) T.n_isinstance (by rfl) T.n_tuple boot_tuple (je_name 1)) (nomark _))))) (js_cons (js_ret jc_bl) jx_nil) jx_nil) (js_cons (js_ret (je_and (je_cmp (op_eqD hr.units) snd_eq (je_callB call_len_seq snd_len (by rfl) T.n_len PySem.boot_len (ja_cons (je_name 0) jn_nil)) (je_callB call_len_seq snd_len (by rfl) T.n_len PySem.boot_len (ja_cons (je_name 1) jn_nil)) (nomark _)) (je_one (je_callB (cr_all rfl) snd_all (by rfl) T.n_all boot_all (ja_cons (je_lcV rfl sc__law_like.nd (ji_zip2 (by rfl) T.n_zip (ja_consV (je_name 0) (ja_consV (je_name 1) jn_nil))) (blkOk_by (N := ["_law_found", "_law_due", "_law_name", "_law_one", "_law_other"]) (sc := defScope s__law_like) (own := [("_law_one", 3), ("_law_other", 4)]) (by decide +kernel)) (fun _ _ _ _ _ => (pg_tup rfl (pgs_cons (jg_name 3 sc__law_like.nd) (pgs_cons (jg_name 4 sc__law_like.nd) pgs_nil)))) (tgD_tup (tgsD_cons (tgD_name 3) (tgsD_cons (tgD_name 4) tgsD_nil)) rfl) (by decide) (fun _ _ _ _ _ _ => jy_nil) (fun _ _ _ _ _ _ => (je_f D__law_like (hr.mono (by omega)) passL (ja_consV (je_name 3) (ja_consV (je_name 4) jn_nil)))) rfl) jn_nil))))) jx_nil)) jx_nil) (js_cons (js_if (jt_bool (jw_or (jt_cmp op_isN snd_isN (je_name 1) jc_non (nomark _)) (jw_or1 (jt_cmp op_isN snd_isN (je_name 0) jc_non (nomark _))))) (js_cons (js_ret (je_and (je_cmp op_isN snd_isN (je_name 1) jc_non (nomark _)) (je_one (je_cmp op_isN snd_isN (je_name 0) jc_non (nomark _))))) jx_nil) jx_nil) (js_cons (js_if (jt_bool (jw_or (jt_cmp (op_neD hr.units) snd_ne (je_isi .bool rfl (by rfl) T.n_isinstance (by rfl) T.n_bool boot_bool (je_name 0)) (je_isi .bool rfl (by rfl) T.n_isinstance (by rfl) T.n_bool boot_bool (je_name 1)) (nomark _)) (jw_or1 (jt_cmp (op_neD hr.units) snd_ne (je_isi .int rfl (by rfl) T.n_isinstance (by rfl) T.n_int boot_int (je_name 0)) (je_isi .int rfl (by rfl) T.n_isinstance (by rfl) T.n_int boot_int (je_name 1)) (nomark _))))) (js_cons (js_ret jc_bl) jx_nil) jx_nil) (js_cons (js_ret (je_and (je_cmp (op_eqD hr.units) snd_eq (je_isi .str rfl (by rfl) T.n_isinstance (by rfl) T.n_str boot_str (je_name 0)) (je_isi .str rfl (by rfl) T.n_isinstance (by rfl) T.n_str boot_str (je_name 1)) (nomark _)) (je_one (je_cmp (op_eqD hr.units) snd_eq (je_name 0) (je_name 1) (nomark _))))) jx_nil)))))) fun _ _ _ => rfl
theorem dn__law_like {f : Addr} {fd : FuncData} (T : Tx mg)  (F : Fun K "_law_like" "_law_like" s__law_like f fd) (hm : mg "_law_like" = some (.ref f)) : FnD P w K mg base "_law_like" 4 2 (Gf__law_like 3) := ⟨f, fd, ["_law_found", "_law_due"], ok__law_like T  F hm 3, hm, F.kp, F.binds (bd__law_like)⟩
/-! _law_prime -/
abbrev s__law_prime : Stmt := top 34
theorem sc__law_prime : FnScope ["_law_bag"] ["_law_bag"] (defScope s__law_prime) := ⟨rfl, rfl, rfl, by decide +kernel, rfl, by decide +kernel, by decide +kernel⟩
def S1__law_prime : List Ent → R Fl :=
  (retR (callB 2 Gf__law_any [] (consR (nameR 0) (consV (listR (consV (cR (.int 10007)) (consV (cR (.int 10007)) (consV (cR (.int 10009)) (consV (cR (.int 65537)) (consV (cR (.int 104729)) (consV (cR (.int 999983)) nilA))))))) nilA))))
def G__law_prime : List Ent → R Fl :=
  (seqR S1__law_prime nxS)
def Gf__law_prime : List Ent → R Kd := fun es => fin 1 (G__law_prime (es ++ List.replicate 0 .no))
theorem eq__law_prime : ∀ es : List Ent, es.length = 1 → Gf__law_prime es ≠ .bad → fin 1 (G__law_prime (es ++ List.replicate (1 - 1) .no)) = Gf__law_prime es := fun _ _ _ => rfl
theorem bd__law_prime (kV doc pm : Value) (an : Option Addr) (cdv ct : Value) (us : List Value) (h : us.length = (["_law_bag"] : List Str).length) : bindArgs (PySem.W.fnOf "_law_prime" "_law_prime" (defArgs s__law_prime) (defBody s__law_prime) (defScope s__law_prime) .none kV doc pm an cdv ct) { pos := us } = pure ((["_law_bag"] : List Str).zip us) := match us, h with | [_], _ => rfl
theorem ok__law_prime {f : Addr} {fd : FuncData} (T : Tx mg) (D__law_any : FnD P w K mg base "_law_any" 2 2 Gf__law_any) (F : Fun K "_law_prime" "_law_prime" s__law_prime f fd) : FnOk P w K mg base (L2.CX P w) 3 f fd ["_law_bag"] (spD K 1 Gf__law_prime) :=
  jf_ok (n := 1) (k := 2) (G := G__law_prime) F sc__law_prime rfl (fun cdv A outer s H E Fm hr =>
    (js_cons (js_ret (je_fB D__law_any (hr.mono (by decide)) pass_cx (ja_cons (je_name 0) (ja_consV (je_list (ja_consV jc_int (ja_consV jc_int (ja_consV jc_int (ja_consV jc_int (ja_consV jc_int (ja_consV jc_int jn_nil))))))) jn_nil)))) jx_nil)) eq__law_prime
theorem dn__law_prime {f : Addr} {fd : FuncData} (T : Tx mg) (D__law_any : FnD P w K mg base "_law_any" 2 2 Gf__law_any) (F : Fun K "_law_prime" "_law_prime" s__law_prime f fd) (hm : mg "_law_prime" = some (.ref f)) : FnD P w K mg base "_law_prime" 3 1 Gf__law_prime := ⟨f, fd, ["_law_bag"], ok__law_prime T D__law_any F, hm, F.kp, F.binds (bd__law_prime)⟩
/-! _law_letter -/
abbrev s__law_letter : Stmt := top 35
theorem sc__law_letter : FnScope ["_law_bag", "_law_modulus_in"] ["_law_bag", "_law_modulus_in"] (defScope s__law_letter) := ⟨rfl, rfl, rfl, by decide +kernel, rfl, by decide +kernel, by decide +kernel⟩
def S1__law_letter : List Ent → R Fl :=
  (retR (callB 2 Gf__law_any [] (consR (nameR 0) (consV (listR (consV (cR (.int 0)) (consV (cR (.int 0)) (consV (cR (.int 1)) (consV (binR subD (nameR 1) (cR (.int 1))) (consV (callB 2 Gf__law_pull [] (consR (nameR 0) (consV (cR (.int 4)) nilA))) (consV (callB 2 Gf__law_pull [] (consR (nameR 0) (consV (nameR 1) nilA))) nilA))))))) nilA))))
def G__law_letter : List Ent → R Fl :=
  (seqR S1__law_letter nxS)
def Gf__law_letter : List Ent → R Kd := fun es => fin 2 (G__law_letter (es ++ List.replicate 0 .no))
theorem eq__law_letter : ∀ es : List Ent, es.length = 2 → Gf__law_letter es ≠ .bad → fin 2 (G__law_letter (es ++ List.replicate (2 - 2) .no)) = Gf__law_letter es := fun _ _ _ => rfl
theorem bd__law_letter (kV doc pm : Value) (an : Option Addr) (cdv ct : Value) (us : List Value) (h : us.length = (["_law_bag", "_law_modulus_in"] : List Str).length) : bindArgs (PySem.W.fnOf "_law_letter" "_law_letter" (defArgs s__law_letter) (defBody s__law_letter) (defScope s__law_letter) .none kV doc pm an cdv ct) { pos := us } = pure ((["_law_bag", "_law_modulus_in"] : List Str).zip us) := match us, h with | [_, _], _ => rfl
theorem ok__law_letter {f : Addr} {fd : FuncData} (T : Tx mg) (D__law_any : FnD P w K mg base "_law_any" 2 2 Gf__law_any) (D__law_pull : FnD P w K mg base "_law_pull" 1 2 Gf__law_pull) (F : Fun K "_law_letter" "_law_letter" s__law_letter f fd) : FnOk P w K mg base (L2.CX P w) 3 f fd ["_law_bag", "_law_modulus_in"] (spD K 2 Gf__law_letter) :=
  jf_ok (n := 2) (k := 2) (G := G__law_letter) F sc__law_letter rfl (fun cdv A outer s H E Fm hr =>
    (js_cons (js_ret (je_fB D__law_any (hr.mono (by decide)) pass_cx (ja_cons (je_name 0) (ja_consV (je_list (ja_consV jc_int (ja_consV jc_int (ja_consV jc_int (ja_consV (je_op op_sub snd_sub (je_name 1) jc_int) (ja_consV (je_fB D__law_pull (hr.mono (by decide)) pass_cx (ja_cons (je_name 0) (ja_consV jc_int jn_nil))) (ja_consV (je_fB D__law_pull (hr.mono (by decide)) pass_cx (ja_cons (je_name 0) (ja_consV (je_name 1) jn_nil))) jn_nil))))))) jn_nil)))) jx_nil)) eq__law_letter
theorem dn__law_letter {f : Addr} {fd : FuncData} (T : Tx mg) (D__law_any : FnD P w K mg base "_law_any" 2 2 Gf__law_any) (D__law_pull : FnD P w K mg base "_law_pull" 1 2 Gf__law_pull) (F : Fun K "_law_letter" "_law_letter" s__law_letter f fd) (hm : mg "_law_letter" = some (.ref f)) : FnD P w K mg base "_law_letter" 3 2 Gf__law_letter := ⟨f, fd, ["_law_bag", "_law_modulus_in"], ok__law_letter T D__law_any D__law_pull F, hm, F.kp, F.binds (bd__law_letter)⟩
/-! _law_vector -/
abbrev s__law_vector : Stmt := top 36
theorem sc__law_vector : FnScope ["_law_bag", "_law_modulus_in", "_law_size", "_law_step"] ["_law_bag", "_law_modulus_in", "_law_size"] (defScope s__law_vector) := ⟨rfl, rfl, rfl, by decide +kernel, rfl, by decide +kernel, by decide +kernel⟩
def G__law_vector : List Ent → R Fl :=
  (seqR (retR (lcR (rng1I (consV (nameR 2) nilA)) (nameT 3) yesT (callB 2 Gf__law_letter [] (consR (nameR 0) (consV (nameR 1) nilA))) [3])) nxS)
def Gf__law_vector : List Ent → R Kd := fun es => fin 3 (G__law_vector (es ++ List.replicate 1 .no))
theorem eq__law_vector : ∀ es : List Ent, es.length = 3 → Gf__law_vector es ≠ .bad → fin 3 (G__law_vector (es ++ List.replicate (4 - 3) .no)) = Gf__law_vector es := fun _ _ _ => rfl
theorem bd__law_vector (kV doc pm : Value) (an : Option Addr) (cdv ct : Value) (us : List Value) (h : us.length = (["_law_bag", "_law_modulus_in", "_law_size"] : List Str).length) : bindArgs (PySem.W.fnOf "_law_vector" "_law_vector" (defArgs s__law_vector) (defBody s__law_vector) (defScope s__law_vector) .none kV doc pm an cdv ct) { pos := us } = pure ((["_law_bag", "_law_modulus_in", "_law_size"] : List Str).zip us) := match us, h with | [_, _, _], _ => rfl
theorem ok__law_vector {f : Addr} {fd : FuncData} (T : Tx mg) (D__law_letter : FnD P w K mg base "_law_letter" 3 2 Gf__law_letter) (F : Fun K "_law_vector" "_law_vector" s__law_vector f fd) : FnOk P w K mg base (L2.CX P w) 4 f fd ["_law_bag", "_law_modulus_in", "_law_size"] (spD K 3 Gf__law_vector) :=
  jf_ok (n := 3) (k := 3) (G := G__law_vector) F sc__law_vector rfl (fun cdv A outer s H E Fm hr =>
    (js_cons (js_ret (je_lcV rfl sc__law_vector.nd (ji_range1 (by rfl) T.n_range (ja_consV (je_name 2) jn_nil)) (blkOk_by (N := ["_law_bag", "_law_modulus_in", "_law_size", "_law_step"]) (sc := defScope s__law_vector) (own := [("_law_step", 3)]) (by decide +kernel)) (fun _ _ _ _ _ => (jg_name 3 sc__law_vector.nd)) (tgD_name 3) (by decide) (fun _ _ _ _ _ _ => jy_nil) (fun _ _ _ _ _ _ => (je_fB D__law_letter (hr.mono (by decide)) passL (ja_cons (je_name 0) (ja_consV (je_name 1) jn_nil)))) rfl)) jx_nil)) eq__law_vector
theorem dn__law_vector {f : Addr} {fd : FuncData} (T : Tx mg) (D__law_letter : FnD P w K mg base "_law_letter" 3 2 Gf__law_letter) (F : Fun K "_law_vector" "_law_vector" s__law_vector f fd) (hm : mg "_law_vector" = some (.ref f)) : FnD P w K mg base "_law_vector" 4 3 Gf__law_vector := ⟨f, fd, ["_law_bag", "_law_modulus_in", "_law_size"], ok__law_vector T D__law_letter F, hm, F.kp, F.binds (bd__law_vector)⟩
/-! _law_sum_of -/
abbrev s__law_sum_of : Stmt := top 37
theorem sc__law_sum_of : FnScope ["_law_factors", "_law_vectors_in", "_law_modulus_in", "_law_size", "_law_total", "_law_factor", "_law_vector_here", "_law_one", "_law_other"] ["_law_factors", "_law_vectors_in", "_law_modulus_in", "_law_size"] (defScope s__law_sum_of) := ⟨rfl, rfl, rfl, by decide +kernel, rfl, by decide +kernel, by decide +kernel⟩
def S1__law_sum_of : List Ent → R Fl :=
  (setR 4 (lcR (zipI2 (consV (nameR 4) (consV (nameR 6) nilA))) (tupT [(nameT 7), (nameT 8)]) yesT (binR modD (callR intD (consR (binR addD (nameR 7) (binR mulD (nameR 5) (nameR 8))) nilA)) (nameR 2)) [7, 8]))
def B2__law_sum_of : List Ent → R Fl :=
  (seqR S1__law_sum_of nxS)
def G__law_sum_of : List Ent → R Fl :=
  (seqR (setR 4 (binR mulD (listR (consV (cR (.int 0)) nilA)) (nameR 3))) (seqR (forS (zipI2 (consV (nameR 0) (consV (nameR 1) nilA))) (tupT [(nameT 5), (nameT 6)]) B2__law_sum_of) (seqR (retR (fun ρ => toVa ((nameR 4) ρ))) nxS)))
def Gf__law_sum_of : List Ent → R Kd := fun es => fin 4 (G__law_sum_of (es ++ List.replicate 5 .no))
theorem eq__law_sum_of : ∀ es : List Ent, es.length = 4 → Gf__law_sum_of es ≠ .bad → fin 4 (G__law_sum_of (es ++ List.replicate (9 - 4) .no)) = Gf__law_sum_of es := fun _ _ _ => rfl
theorem bd__law_sum_of (kV doc pm : Value) (an : Option Addr) (cdv ct : Value) (us : List Value) (h : us.length = (["_law_factors", "_law_vectors_in", "_law_modulus_in", "_law_size"] : List Str).length) : bindArgs (PySem.W.fnOf "_law_sum_of" "_law_sum_of" (defArgs s__law_sum_of) (defBody s__law_sum_of) (defScope s__law_sum_of) .none kV doc pm an cdv ct) { pos := us } = pure ((["_law_factors", "_law_vectors_in", "_law_modulus_in", "_law_size"] : List Str).zip us) := match us, h with | [_, _, _, _], _ => rfl
theorem ok__law_sum_of {f : Addr} {fd : FuncData} (T : Tx mg)  (F : Fun K "_law_sum_of" "_law_sum_of" s__law_sum_of f fd) : FnOk P w K mg base (L2.CX P w) 1 f fd ["_law_factors", "_law_vectors_in", "_law_modulus_in", "_law_size"] (spD K 4 Gf__law_sum_of) :=
  jf_ok (n := 4) (k := 0) (G := G__law_sum_of) F sc__law_sum_of rfl (fun cdv A outer s H E Fm hr =>
    (js_cons (js_set 4 sc__law_sum_of.nd (je_op op_mulA snd_mul (je_list (ja_consV jc_int jn_nil)) (je_name 3))) (js_cons (js_for (passes_of rfl) rfl (ji_zip2 (by rfl) T.n_zip (ja_consV (je_name 0) (ja_consV (je_name 1) jn_nil))) (pg_tup rfl (pgs_cons (jg_name 5 sc__law_sum_of.nd) (pgs_cons (jg_name 6 sc__law_sum_of.nd) pgs_nil))) (tgD_tup (tgsD_cons (tgD_name 5) (tgsD_cons (tgD_name 6) tgsD_nil)) rfl) (js_cons (js_setLcV (i := 4) rfl sc__law_sum_of.nd (sw_true rfl rfl rfl (by decide +kernel)) (ji_zip2 (by rfl) T.n_zip (ja_consV (je_name 4) (ja_consV (je_name 6) jn_nil))) (blkOk_by (N := ["_law_factors", "_law_vectors_in", "_law_modulus_in", "_law_size", "_law_total", "_law_factor", "_law_vector_here", "_law_one", "_law_other"]) (sc := defScope s__law_sum_of) (own := [("_law_one", 7), ("_law_other", 8)]) (by decide +kernel)) (fun _ _ _ _ _ => (pg_tup rfl (pgs_cons (jg_name 7 sc__law_sum_of.nd) (pgs_cons (jg_name 8 sc__law_sum_of.nd) pgs_nil)))) (tgD_tup (tgsD_cons (tgD_name 7) (tgsD_cons (tgD_name 8) tgsD_nil)) rfl) (by decide) (fun _ _ _ _ _ _ => jy_nil) (fun _ _ _ _ _ _ => (je_op op_mod snd_mod (je_callTy call_int1 snd_int (by rfl) T.n_int boot_int (ja_cons (je_op op_addA snd_add (je_name 7) (je_op op_mulA snd_mul (je_name 5) (je_name 8))) jn_nil)) (je_name 2))) rfl) jx_nil)) (js_cons (js_ret (je_toVa (je_name 4))) jx_nil)))) eq__law_sum_of
theorem dn__law_sum_of {f : Addr} {fd : FuncData} (T : Tx mg)  (F : Fun K "_law_sum_of" "_law_sum_of" s__law_sum_of f fd) (hm : mg "_law_sum_of" = some (.ref f)) : FnD P w K mg base "_law_sum_of" 1 4 Gf__law_sum_of := ⟨f, fd, ["_law_factors", "_law_vectors_in", "_law_modulus_in", "_law_size"], ok__law_sum_of T  F, hm, F.kp, F.binds (bd__law_sum_of)⟩
/-! _law_rank -/
abbrev s__law_rank : Stmt := top 38
theorem sc__law_rank : FnScope ["_law_vectors_in", "_law_modulus_in", "_law_rows", "_law_found", "_law_place", "_law_heads", "_law_head", "_law_lead", "_law_left", "_law_at", "_law_row", "_law_factor", "_law_vector_here", "_law_one", "_law_other"] ["_law_vectors_in", "_law_modulus_in"] (defScope s__law_rank) := ⟨rfl, rfl, rfl, by decide +kernel, rfl, by decide +kernel, by decide +kernel⟩
def S1__law_rank : List Ent → R Fl :=
  (dropR (appR (nameR 8) (ifR (fun ρ => toB ((binR eqD (nameR 11) (cR (.int 0))) ρ)) (nameR 10) (lcR (zipI2 (consV (nameR 10) (consV (nameR 6) nilA))) (tupT [(nameT 13), (nameT 14)]) yesT (binR modD (callR intD (consR (binR subD (binR mulD (nameR 13) (nameR 7)) (binR mulD (nameR 14) (nameR 11))) nilA)) (nameR 1)) [13, 14]))))
def S2__law_rank : List Ent → R Fl :=
  (ifS (fun ρ => toB ((binR neD (nameR 9) (binR ixD (nameR 5) (cR (.int 0)))) ρ)) (seqR (asgR (tupT [(nameT 10), (nameT 11)]) (tupR (consV (binR ixD (nameR 2) (nameR 9)) (consV (binR ixD (binR ixD (nameR 2) (nameR 9)) (nameR 4)) nilA)))) (seqR S1__law_rank nxS)) nxS)
def B3__law_rank : List Ent → R Fl :=
  (seqR S2__law_rank nxS)
def S4__law_rank : List Ent → R Fl :=
  (ifS (fun ρ => toB ((binR neD (nameR 5) (listR nilA)) ρ)) (seqR (parVV 6 3 (binR ixD (nameR 2) (binR ixD (nameR 5) (cR (.int 0)))) (binR addD (nameR 3) (cR (.int 1)))) (seqR (parVO 7 8 (binR ixD (nameR 6) (nameR 4)) (listR nilA)) (seqR (forS (rng1I (consV (callR lenD (consR (nameR 2) nilA)) nilA)) (nameT 9) B3__law_rank) (seqR (setR 2 (nameR 8)) nxS)))) nxS)
def S5__law_rank : List Ent → R Fl :=
  (setR 5 (lcR (rng1I (consV (callR lenD (consR (nameR 2) nilA)) nilA)) (nameT 9) (fun ρ => toB ((binR neD (binR ixD (binR ixD (nameR 2) (nameR 9)) (nameR 4)) (cR (.int 0))) ρ)) (nameR 9) [9]))
def B6__law_rank : List Ent → R Fl :=
  (seqR S5__law_rank (seqR S4__law_rank nxS))
def S7__law_rank : List Ent → R Fl :=
  (forS (rng1I (consV (ifR (fun ρ => toB ((binR neD (nameR 2) (listR nilA)) ρ)) (callR lenD (consR (binR ixD (nameR 2) (cR (.int 0))) nilA)) (cR (.int 0))) nilA)) (nameT 4) B6__law_rank)
def S8__law_rank : List Ent → R Fl :=
  (asgR (tupT [(nameT 2), (nameT 3)]) (tupR (consV (lcR (seqI (nameR 0)) (nameT 12) yesT (callR listD (consR (nameR 12) nilA)) [12]) (consV (cR (.int 0)) nilA))))
def G__law_rank : List Ent → R Fl :=
  (seqR S8__law_rank (seqR S7__law_rank (seqR (retR (fun ρ => toVa ((nameR 3) ρ))) nxS)))
def Gf__law_rank : List Ent → R Kd := fun es => fin 2 (G__law_rank (es ++ List.replicate 13 .no))
theorem eq__law_rank : ∀ es : List Ent, es.length = 2 → Gf__law_rank es ≠ .bad → fin 2 (G__law_rank (es ++ List.replicate (15 - 2) .no)) = Gf__law_rank es := fun _ _ _ => rfl
theorem bd__law_rank (kV doc pm : Value) (an : Option Addr) (cdv ct : Value) (us : List Value) (h : us.length = (["_law_vectors_in", "_law_modulus_in"] : List Str).length) : bindArgs (PySem.W.fnOf "_law_rank" "_law_rank" (defArgs s__law_rank) (defBody s__law_rank) (defScope s__law_rank) .none kV doc pm an cdv ct) { pos := us } = pure ((["_law_vectors_in", "_law_modulus_in"] : List Str).zip us) := match us, h with | [_, _], _ => rfl
theorem ok__law_rank {f : Addr} {fd : FuncData} (T : Tx mg)  (F : Fun K "_law_rank" "_law_rank" s__law_rank f fd) : FnOk P w K mg base (L2.CX P w) 1 f fd ["_law_vectors_in", "_law_modulus_in"] (spD K 2 Gf__law_rank) :=
  jf_ok (n := 2) (k := 0) (G := G__law_rank) F sc__law_rank rfl (fun cdv A outer s H E Fm hr =>
    (js_cons (js_asg (je_tup (ja_consV (je_lcV rfl sc__law_rank.nd (ji_seq (je_name 0)) (blkOk_by (N := ["_law_vectors_in", "_law_modulus_in", "_law_rows", "_law_found", "_law_place", "_law_heads", "_law_head", "_law_lead", "_law_left", "_law_at", "_law_row", "_law_factor", "_law_vector_here", "_law_one", "_law_other"]) (sc := defScope s__law_rank) (own := [("_law_vector_here", 12)]) (by decide +kernel)) (fun _ _ _ _ _ => (jg_name 12 sc__law_rank.nd)) (tgD_name 12) (by decide) (fun _ _ _ _ _ _ => jy_nil) (fun _ _ _ _ _ _ => (je_callTy call_list_of snd_list (by rfl) T.n_list boot_list (ja_cons (je_name 12) jn_nil))) rfl) (ja_consV jc_int jn_nil))) (pg_tup rfl (pgs_cons (jg_name 2 sc__law_rank.nd) (pgs_cons (jg_name 3 sc__law_rank.nd) pgs_nil))) (tgD_tup (tgsD_cons (tgD_name 2) (tgsD_cons (tgD_name 3) tgsD_nil)) rfl)) (js_cons (js_for (passes_of rfl) rfl (ji_range1 (by rfl) T.n_range (ja_consV (je_if (jt_cmp (op_neD hr.units) snd_ne (je_name 2) (je_list jn_nil) (nomark _)) (je_callB call_len_seq snd_len (by rfl) T.n_len PySem.boot_len (ja_cons (je_ix (je_name 2) jc_int) jn_nil)) jc_int) jn_nil)) (jg_name 4 sc__law_rank.nd) (tgD_name 4) (js_cons (js_setLcV (i := 5) rfl sc__law_rank.nd (sw_true rfl rfl rfl (by decide +kernel)) (ji_range1 (by rfl) T.n_range (ja_consV (je_callB call_len_seq snd_len (by rfl) T.n_len PySem.boot_len (ja_cons (je_name 2) jn_nil)) jn_nil)) (blkOk_by (N := ["_law_vectors_in", "_law_modulus_in", "_law_rows", "_law_found", "_law_place", "_law_heads", "_law_head", "_law_lead", "_law_left", "_law_at", "_law_row", "_law_factor", "_law_vector_here", "_law_one", "_law_other"]) (sc := defScope s__law_rank) (own := [("_law_at", 9)]) (by decide +kernel)) (fun _ _ _ _ _ => (jg_name 9 sc__law_rank.nd)) (tgD_name 9) (by decide) (fun _ _ _ _ _ _ => (jts_one (jt_cmp (op_neD hr.units) snd_ne (je_ix (je_ix (je_name 2) (je_name 9)) (je_name 4)) jc_int (nomark _)))) (fun _ _ _ _ _ _ => (je_name 9)) rfl) (js_cons (js_if (jt_cmp (op_neD hr.units) snd_ne (je_name 5) (je_list jn_nil) (nomark _)) (js_cons (js_parVV 6 3 rfl sc__law_rank.nd (je_ix (je_name 2) (je_ix (je_name 5) jc_int)) (je_op op_addA snd_add (je_name 3) jc_int) rfl) (js_cons (js_tupVO 7 8 rfl (je_ix (je_name 6) (je_name 4)) (je_list jn_nil) (jg_name 7 sc__law_rank.nd) (jg_name 8 sc__law_rank.nd)) (js_cons (js_for (passes_of rfl) rfl (ji_range1 (by rfl) T.n_range (ja_consV (je_callB call_len_seq snd_len (by rfl) T.n_len PySem.boot_len (ja_cons (je_name 2) jn_nil)) jn_nil)) (jg_name 9 sc__law_rank.nd) (tgD_name 9) (js_cons (js_if (jt_cmp (op_neD hr.units) snd_ne (je_name 9) (je_ix (je_name 5) jc_int) (nomark _)) (js_cons (js_asg (je_tup (ja_consV (je_ix (je_name 2) (je_name 9)) (ja_consV (je_ix (je_ix (je_name 2) (je_name 9)) (je_name 4)) jn_nil))) (pg_tup rfl (pgs_cons (jg_name 10 sc__law_rank.nd) (pgs_cons (jg_name 11 sc__law_rank.nd) pgs_nil))) (tgD_tup (tgsD_cons (tgD_name 10) (tgsD_cons (tgD_name 11) tgsD_nil)) rfl)) (js_cons (js_expr (je_append (je_name 8) (je_if (jt_cmp (op_eqD hr.units) snd_eq (je_name 11) jc_int (nomark _)) (je_name 10) (je_lcV rfl sc__law_rank.nd (ji_zip2 (by rfl) T.n_zip (ja_consV (je_name 10) (ja_consV (je_name 6) jn_nil))) (blkOk_by (N := ["_law_vectors_in", "_law_modulus_in", "_law_rows", "_law_found", "_law_place", "_law_heads", "_law_head", "_law_lead", "_law_left", "_law_at", "_law_row", "_law_factor", "_law_vector_here", "_law_one", "_law_other"]) (sc := defScope s__law_rank) (own := [("_law_one", 13), ("_law_other", 14)]) (by decide +kernel)) (fun _ _ _ _ _ => (pg_tup rfl (pgs_cons (jg_name 13 sc__law_rank.nd) (pgs_cons (jg_name 14 sc__law_rank.nd) pgs_nil)))) (tgD_tup (tgsD_cons (tgD_name 13) (tgsD_cons (tgD_name 14) tgsD_nil)) rfl) (by decide) (fun _ _ _ _ _ _ => jy_nil) (fun _ _ _ _ _ _ => (je_op op_mod snd_mod (je_callTy call_int1 snd_int (by rfl) T.n_int boot_int (ja_cons (je_op op_sub snd_sub (je_op op_mulA snd_mul (je_name 13) (je_name 7)) (je_op op_mulA snd_mul (je_name 14) (je_name 11))) jn_nil)) (je_name 1))) rfl)))) jx_nil)) jx_nil) jx_nil)) (js_cons (js_set 2 sc__law_rank.nd (je_name 8)) jx_nil)))) jx_nil) jx_nil))) (js_cons (js_ret (je_toVa (je_name 3))) jx_nil)))) eq__law_rank
theorem dn__law_rank {f : Addr} {fd : FuncData} (T : Tx mg)  (F : Fun K "_law_rank" "_law_rank" s__law_rank f fd) (hm : mg "_law_rank" = some (.ref f)) : FnD P w K mg base "_law_rank" 1 2 Gf__law_rank := ⟨f, fd, ["_law_vectors_in", "_law_modulus_in"], ok__law_rank T  F, hm, F.kp, F.binds (bd__law_rank)⟩
/-! _law_lies -/
abbrev s__law_lies : Stmt := top 39
theorem sc__law_lies : FnScope ["_law_vector_here", "_law_vectors_in", "_law_modulus_in"] ["_law_vector_here", "_law_vectors_in", "_law_modulus_in"] (defScope s__law_lies) := ⟨rfl, rfl, rfl, by decide +kernel, rfl, by decide +kernel, by decide +kernel⟩
def S1__law_lies : List Ent → R Fl :=
  (retR (binR eqD (callU 2 Gf__law_rank [] (consV (binR addD (callR listD (consR (nameR 1) nilA)) (listR (consV (nameR 0) nilA))) (consV (nameR 2) nilA))) (callU 2 Gf__law_rank [] (consV (nameR 1) (consV (nameR 2) nilA)))))
def G__law_lies : List Ent → R Fl :=
  (seqR S1__law_lies nxS)
def Gf__law_lies : List Ent → R Kd := fun es => fin 3 (G__law_lies (es ++ List.replicate 0 .no))
theorem eq__law_lies : ∀ es : List Ent, es.length = 3 → Gf__law_lies es ≠ .bad → fin 3 (G__law_lies (es ++ List.replicate (3 - 3) .no)) = Gf__law_lies es := fun _ _ _ => rfl
theorem bd__law_lies (kV doc pm : Value) (an : Option Addr) (cdv ct : Value) (us : List Value) (h : us.length = (["_law_vector_here", "_law_vectors_in", "_law_modulus_in"] : List Str).length) : bindArgs (PySem.W.fnOf "_law_lies" "_law_lies" (defArgs s__law_lies) (defBody s__law_lies) (defScope s__law_lies) .none kV doc pm an cdv ct) { pos := us } = pure ((["_law_vector_here", "_law_vectors_in", "_law_modulus_in"] : List Str).zip us) := match us, h with | [_, _, _], _ => rfl
theorem ok__law_lies {f : Addr} {fd : FuncData} (T : Tx mg) (D__law_rank : FnD P w K mg base "_law_rank" 1 2 Gf__law_rank) (F : Fun K "_law_lies" "_law_lies" s__law_lies f fd) : FnOk P w K mg base (L2.CX P w) 2 f fd ["_law_vector_here", "_law_vectors_in", "_law_modulus_in"] (spD K 3 Gf__law_lies) :=
  jf_ok (n := 3) (k := 1) (G := G__law_lies) F sc__law_lies rfl (fun cdv A outer s H E Fm hr =>
    (js_cons (js_ret (je_cmp (op_eqD hr.units) snd_eq (je_f D__law_rank (hr.mono (by decide)) pass_cx (ja_consV (je_op op_addA snd_add (je_callTy call_list_of snd_list (by rfl) T.n_list boot_list (ja_cons (je_name 1) jn_nil)) (je_list (ja_consV (je_name 0) jn_nil))) (ja_consV (je_name 2) jn_nil))) (je_f D__law_rank (hr.mono (by decide)) pass_cx (ja_consV (je_name 1) (ja_consV (je_name 2) jn_nil))) (nomark _))) jx_nil)) eq__law_lies
theorem dn__law_lies {f : Addr} {fd : FuncData} (T : Tx mg) (D__law_rank : FnD P w K mg base "_law_rank" 1 2 Gf__law_rank) (F : Fun K "_law_lies" "_law_lies" s__law_lies f fd) (hm : mg "_law_lies" = some (.ref f)) : FnD P w K mg base "_law_lies" 2 3 Gf__law_lies := ⟨f, fd, ["_law_vector_here", "_law_vectors_in", "_law_modulus_in"], ok__law_lies T D__law_rank F, hm, F.kp, F.binds (bd__law_lies)⟩
/-! law -/
abbrev s_law : Stmt := top 40
theorem sc_law : FnScope ["_law_script", "_law_bag", "_law_turn", "_law_prime_here", "_law_size", "_law_rows", "_law_target_in", "_law_handed", "_law_kept", "_law_found", "_law_step", "_law_row", "_law_letter_here"] ["_law_script"] (defScope s_law) := ⟨rfl, rfl, rfl, by decide +kernel, rfl, by decide +kernel, by decide +kernel⟩
def S1_law : List Ent → R Fl :=
  (ifS (fun ρ => toB ((binR neD (callU 4 Gf__law_sum_of [] (consV (nameR 9) (consV (nameR 5) (consV (nameR 3) (consV (nameR 4) nilA))))) (nameR 6)) ρ)) (seqR (retR (cR (.bl false))) nxS) nxS)
def S2_law : List Ent → R Fl :=
  (ifS (notR (fun ρ => toB ((callR allD (consR (lcR (seqI (nameR 9)) (nameT 12) yesT (andV (isiR [.int] (nameR 12)) (andV (notV (isiR [.bool] (nameR 12))) (chainR leD ltD (cR (.int 0)) (nameR 12) (nameR 3)))) [12]) nilA)) ρ))) (seqR (retR (cR (.bl false))) nxS) nxS)
def S3_law : List Ent → R Fl :=
  (ifS (orR (notR (fun ρ => toB ((isiR [.list] (nameR 9)) ρ))) (fun ρ => toB ((binR neD (callR lenD (consR (nameR 9) nilA)) (callR lenD (consR (nameR 5) nilA))) ρ))) (seqR (retR (cR (.bl false))) nxS) nxS)
def S4_law : List Ent → R Fl :=
  (ifS (notR (fun ρ => toB ((callU 2 (Gf__law_like 3) [] (consV (callU 3 Gf_combination [] (permR 3 [2, 1, 0] (consV (callR tupleD (consR (nameR 6) nilA)) (consV (callR tupleD (consR (nameR 7) nilA)) (consV (nameR 3) nilA))))) (consV (nameR 9) nilA))) ρ))) (seqR (retR (cR (.bl false))) nxS) nxS)
def S5_law : List Ent → R Fl :=
  (ifS (orR (fun ρ => toB ((binR neD (nameR 7) (nameR 5)) ρ)) (orR (fun ρ => toB ((binR neD (nameR 6) (nameR 8)) ρ)) (fun ρ => toB ((binR neD (binR isND (nameR 9) (cR .non)) (notV (callU 3 Gf__law_lies [] (consV (nameR 6) (consV (nameR 5) (consV (nameR 3) nilA)))))) ρ)))) (seqR (retR (cR (.bl false))) nxS) nxS)
def S6_law : List Ent → R Fl :=
  (setR 6 (ifR (fun ρ => toB ((binR gtD (callB 2 Gf__law_pull [] (consR (nameR 1) (consV (cR (.int 3)) nilA))) (cR (.int 0))) ρ)) (nameR 6) (callB 3 Gf__law_vector [] (consR (nameR 1) (consV (nameR 3) (consV (nameR 4) nilA))))))
def S7_law : List Ent → R Fl :=
  (setR 6 (callU 4 Gf__law_sum_of [] (consV (callB 3 Gf__law_vector [] (consR (nameR 1) (consV (nameR 3) (consV (callR lenD (consR (nameR 5) nilA)) nilA)))) (consV (nameR 5) (consV (nameR 3) (consV (nameR 4) nilA))))))
def S8_law : List Ent → R Fl :=
  (setR 5 (lcR (rng1I (consV (callB 2 Gf__law_pull [] (consR (nameR 1) (consV (cR (.int 5)) nilA))) nilA)) (nameT 10) yesT (callB 3 Gf__law_vector [] (consR (nameR 1) (consV (nameR 3) (consV (nameR 4) nilA)))) [10]))
def S9_law : List Ent → R Fl :=
  (asgR (tupT [(nameT 3), (nameT 4)]) (tupR (consV (callB 1 Gf__law_prime [] (consR (nameR 1) nilA)) (consV (binR addD (cR (.int 1)) (callB 2 Gf__law_pull [] (consR (nameR 1) (consV (cR (.int 5)) nilA)))) nilA))))
def B10_law : List Ent → R Fl :=
  (seqR S9_law (seqR S8_law (seqR (setR 5 (binR addD (nameR 5) (sliceR (nameR 5) partN (partS (callB 2 Gf__law_pull [] (consR (nameR 1) (consV (cR (.int 2)) nilA))))))) (seqR S7_law (seqR S6_law (seqR (parVV 7 8 (lcR (seqI (nameR 5)) (nameT 11) yesT (callR listD (consR (nameR 11) nilA)) [11]) (callR listD (consR (nameR 6) nilA))) (seqR (setR 9 (callU 3 Gf_combination [] (consV (nameR 3) (consV (nameR 7) (consV (nameR 6) nilA))))) (seqR S5_law (seqR (ifS (fun ρ => toB ((binR notND (nameR 9) (cR .non)) ρ)) (seqR S3_law (seqR S2_law (seqR S1_law nxS))) nxS) (seqR S4_law nxS))))))))))
def S11_law : List Ent → R Fl :=
  (retR (callU 2 (Gf__law_like 3) [] (consV (nameR 9) (consV (listR (consV (listR nilA) (consV (cR .non) (consV (listR (consV (cR (.int 5004)) nilA)) nilA)))) nilA))))
def S12_law : List Ent → R Fl :=
  (setR 9 (listR (consV (callU 3 Gf_combination [] (consV (cR (.int 10007)) (consV (listR nilA) (consV (listR (consV (cR (.int 0)) (consV (cR (.int 0)) nilA))) nilA)))) (consV (callU 3 Gf_combination [] (consV (cR (.int 10007)) (consV (listR nilA) (consV (listR (consV (cR (.int 0)) (consV (cR (.int 1)) nilA))) nilA)))) (consV (callU 3 Gf_combination [] (consV (cR (.int 10007)) (consV (listR (consV (listR (consV (cR (.int 2)) nilA)) nilA)) (consV (listR (consV (cR (.int 1)) nilA)) nilA)))) nilA)))))
def G_law : List Ent → R Fl :=
  (seqR (setO 1 (callU 1 Gf__law_draws [] (consV (nameR 0) nilA))) (seqR (forS (rng1I (consV (cR (.int 5)) nilA)) (nameT 2) B10_law) (seqR S12_law (seqR S11_law nxS))))
def Gf_law : List Ent → R Kd := fun es => fin 1 (G_law (es ++ List.replicate 12 .no))
theorem eq_law : ∀ es : List Ent, es.length = 1 → Gf_law es ≠ .bad → fin 1 (G_law (es ++ List.replicate (13 - 1) .no)) = Gf_law es := fun _ _ _ => rfl
theorem bd_law (kV doc pm : Value) (an : Option Addr) (cdv ct : Value) (us : List Value) (h : us.length = (["_law_script"] : List Str).length) : bindArgs (PySem.W.fnOf "law" "law" (defArgs s_law) (defBody s_law) (defScope s_law) .none kV doc pm an cdv ct) { pos := us } = pure ((["_law_script"] : List Str).zip us) := match us, h with | [_], _ => rfl
theorem ok_law {f : Addr} {fd : FuncData} (T : Tx mg) (D__law_draws : FnD P w K mg base "_law_draws" 1 1 Gf__law_draws) (D__law_prime : FnD P w K mg base "_law_prime" 3 1 Gf__law_prime) (D__law_pull : FnD P w K mg base "_law_pull" 1 2 Gf__law_pull) (D__law_vector : FnD P w K mg base "_law_vector" 4 3 Gf__law_vector) (D__law_sum_of : FnD P w K mg base "_law_sum_of" 1 4 Gf__law_sum_of) (D_combination : FnD P w K mg base "combination" 8 3 Gf_combination) (D__law_lies : FnD P w K mg base "_law_lies" 2 3 Gf__law_lies) (D__law_like : FnD P w K mg base "_law_like" 4 2 (Gf__law_like 3)) (K_combination_210 : FnKP P w K mg base "combination" ["modulus", "vectors", "target"] ["target", "vectors", "modulus"] [2, 1, 0] 8 3 Gf_combination) (F : Fun K "law" "law" s_law f fd) : FnOk P w K mg base (L2.CX P w) 9 f fd ["_law_script"] (spD K 1 Gf_law) :=
  jf_ok (n := 1) (k := 8) (G := G_law) F sc_law rfl (fun cdv A outer s H E Fm hr =>
    (js_cons (js_setO 1 sc_law.nd (je_f D__law_draws (hr.mono (by decide)) pass_cx (ja_consV (je_name 0) jn_nil))) (js_cons (js_for (passes_of rfl) rfl (ji_range1 (by rfl) T.n_range (ja_consV jc_int jn_nil)) (jg_name 2 sc_law.nd) (tgD_name 2) (js_cons (js_asg (je_tup (ja_consV (je_fB D__law_prime (hr.mono (by decide)) pass_cx (ja_cons (je_name 1) jn_nil)) (ja_consV (je_op op_addA snd_add jc_int (je_fB D__law_pull (hr.mono (by decide)) pass_cx (ja_cons (je_name 1) (ja_consV jc_int jn_nil)))) jn_nil))) (pg_tup rfl (pgs_cons (jg_name 3 sc_law.nd) (pgs_cons (jg_name 4 sc_law.nd) pgs_nil))) (tgD_tup (tgsD_cons (tgD_name 3) (tgsD_cons (tgD_name 4) tgsD_nil)) rfl)) (js_cons (js_setLcV (i := 5) rfl sc_law.nd (sw_true rfl rfl rfl (by decide +kernel)) (ji_range1 (by rfl) T.n_range (ja_consV (je_fB D__law_pull (hr.mono (by decide)) pass_cx (ja_cons (je_name 1) (ja_consV jc_int jn_nil))) jn_nil)) (blkOk_by (N := ["_law_script", "_law_bag", "_law_turn", "_law_prime_here", "_law_size", "_law_rows", "_law_target_in", "_law_handed", "_law_kept", "_law_found", "_law_step", "_law_row", "_law_letter_here"]) (sc := defScope s_law) (own := [("_law_step", 10)]) (by decide +kernel)) (fun _ _ _ _ _ => (jg_name 10 sc_law.nd)) (tgD_name 10) (by decide) (fun _ _ _ _ _ _ => jy_nil) (fun _ _ _ _ _ _ => (je_fB D__law_vector (hr.mono (by decide)) passL (ja_cons (je_name 1) (ja_consV (je_name 3) (ja_consV (je_name 4) jn_nil))))) rfl) (js_cons (js_set 5 sc_law.nd (je_op op_addA snd_add (je_name 5) (je_slice (je_name 5) jo_none (jo_some (je_fB D__law_pull (hr.mono (by decide)) pass_cx (ja_cons (je_name 1) (ja_consV jc_int jn_nil))))))) (js_cons (js_set 6 sc_law.nd (je_f D__law_sum_of (hr.mono (by decide)) pass_cx (ja_consV (je_fB D__law_vector (hr.mono (by decide)) pass_cx (ja_cons (je_name 1) (ja_consV (je_name 3) (ja_consV (je_callB call_len_seq snd_len (by rfl) T.n_len PySem.boot_len (ja_cons (je_name 5) jn_nil)) jn_nil)))) (ja_consV (je_name 5) (ja_consV (je_name 3) (ja_consV (je_name 4) jn_nil)))))) (js_cons (js_set 6 sc_law.nd (je_if (jt_cmp op_gt snd_gt (je_fB D__law_pull (hr.mono (by decide)) pass_cx (ja_cons (je_name 1) (ja_consV jc_int jn_nil))) jc_int (nomark _)) (je_name 6) (je_fB D__law_vector (hr.mono (by decide)) pass_cx (ja_cons (je_name 1) (ja_consV (je_name 3) (ja_consV (je_name 4) jn_nil)))))) (js_cons (js_parVV 7 8 rfl sc_law.nd (je_lcV rfl sc_law.nd (ji_seq (je_name 5)) (blkOk_by (N := ["_law_script", "_law_bag", "_law_turn", "_law_prime_here", "_law_size", "_law_rows", "_law_target_in", "_law_handed", "_law_kept", "_law_found", "_law_step", "_law_row", "_law_letter_here"]) (sc := defScope s_law) (own := [("_law_row", 11)]) (by decide +kernel)) (fun _ _ _ _ _ => (jg_name 11 sc_law.nd)) (tgD_name 11) (by decide) (fun _ _ _ _ _ _ => jy_nil) (fun _ _ _ _ _ _ => (je_callTy call_list_of snd_list (by rfl) T.n_list boot_list (ja_cons (je_name 11) jn_nil))) rfl) (je_callTy call_list_of snd_list (by rfl) T.n_list boot_list (ja_cons (je_name 6) jn_nil)) rfl) (js_cons (js_set 9 sc_law.nd (je_f D_combination (hr.mono (by decide)) pass_cx (ja_consV (je_name 3) (ja_consV (je_name 7) (ja_consV (je_name 6) jn_nil))))) (js_cons (js_if (jt_bool (jw_or (jt_cmp (op_neD hr.units) snd_ne (je_name 7) (je_name 5) (nomark _)) (jw_or (jt_cmp (op_neD hr.units) snd_ne (je_name 6) (je_name 8) (nomark _)) (jw_or1 (jt_cmp (op_neD hr.units) snd_ne (je_cmp op_isN snd_isN (je_name 9) jc_non (nomark _)) (je_not (je_f D__law_lies (hr.mono (by decide)) pass_cx (ja_consV (je_name 6) (ja_consV (je_name 5) (ja_consV (je_name 3) jn_nil))))) (nomark _)))))) (js_cons (js_ret jc_bl) jx_nil) jx_nil) (js_cons (js_if (jt_cmp op_notN snd_notN (je_name 9) jc_non (nomark _)) (js_cons (js_if (jt_bool (jw_or (jt_not (jt_val (je_isi .list rfl (by rfl) T.n_isinstance (by rfl) T.n_list boot_list (je_name 9)))) (jw_or1 (jt_cmp (op_neD hr.units) snd_ne (je_callB call_len_seq snd_len (by rfl) T.n_len PySem.boot_len (ja_cons (je_name 9) jn_nil)) (je_callB call_len_seq snd_len (by rfl) T.n_len PySem.boot_len (ja_cons (je_name 5) jn_nil)) (nomark _))))) (js_cons (js_ret jc_bl) jx_nil) jx_nil) (js_cons (js_if (jt_not (jt_val (je_callB (cr_all rfl) snd_all (by rfl) T.n_all boot_all (ja_cons (je_lcV rfl sc_law.nd (ji_seq (je_name 9)) (blkOk_by (N := ["_law_script", "_law_bag", "_law_turn", "_law_prime_here", "_law_size", "_law_rows", "_law_target_in", "_law_handed", "_law_kept", "_law_found", "_law_step", "_law_row", "_law_letter_here"]) (sc := defScope s_law) (own := [("_law_letter_here", 12)]) (by decide +kernel)) (fun _ _ _ _ _ => (jg_name 12 sc_law.nd)) (tgD_name 12) (by decide) (fun _ _ _ _ _ _ => jy_nil) (fun _ _ _ _ _ _ => (je_and (je_isi .int rfl (by rfl) T.n_isinstance (by rfl) T.n_int boot_int (je_name 12)) (je_and (je_not (je_isi .bool rfl (by rfl) T.n_isinstance (by rfl) T.n_bool boot_bool (je_name 12))) (je_one (je_chain op_le op_lt snd_le snd_lt jc_int (je_name 12) (je_name 3)))))) rfl) jn_nil)))) (js_cons (js_ret jc_bl) jx_nil) jx_nil) (js_cons (js_if (jt_cmp (op_neD hr.units) snd_ne (je_f D__law_sum_of (hr.mono (by decide)) pass_cx (ja_consV (je_name 9) (ja_consV (je_name 5) (ja_consV (je_name 3) (ja_consV (je_name 4) jn_nil))))) (je_name 6) (nomark _)) (js_cons (js_ret jc_bl) jx_nil) jx_nil) jx_nil))) jx_nil) (js_cons (js_if (jt_not (jt_val (je_f D__law_like (hr.mono (by decide)) pass_cx (ja_consV (je_fKP K_combination_210 (hr.mono (by decide)) pass_cx (pk_one (je_callTy call_tuple_ofF snd_tuple (by rfl) T.n_tuple boot_tuple (ja_cons (je_name 6) jn_nil)) (pk_one (je_callTy call_tuple_ofF snd_tuple (by rfl) T.n_tuple boot_tuple (ja_cons (je_name 7) jn_nil)) (pk_one (je_name 3) pk_end)))) (ja_consV (je_name 9) jn_nil))))) (js_cons (js_ret jc_bl) jx_nil) jx_nil) jx_nil))))))))))) (js_cons (js_set 9 sc_law.nd (je_list (ja_consV (je_f D_combination (hr.mono (by decide)) pass_cx (ja_consV jc_int (ja_consV (je_list jn_nil) (ja_consV (je_list (ja_consV jc_int (ja_consV jc_int jn_nil))) jn_nil)))) (ja_consV (je_f D_combination (hr.mono (by decide)) pass_cx (ja_consV jc_int (ja_consV (je_list jn_nil) (ja_consV (je_list (ja_consV jc_int (ja_consV jc_int jn_nil))) jn_nil)))) (ja_consV (je_f D_combination (hr.mono (by decide)) pass_cx (ja_consV jc_int (ja_consV (je_list (ja_consV (je_list (ja_consV jc_int jn_nil)) jn_nil)) (ja_consV (je_list (ja_consV jc_int jn_nil)) jn_nil)))) jn_nil))))) (js_cons (js_ret (je_f D__law_like (hr.mono (by decide)) pass_cx (ja_consV (je_name 9) (ja_consV (je_list (ja_consV (je_list jn_nil) (ja_consV jc_non (ja_consV (je_list (ja_consV jc_int jn_nil)) jn_nil)))) jn_nil)))) jx_nil))))) eq_law
theorem dn_law {f : Addr} {fd : FuncData} (T : Tx mg) (D__law_draws : FnD P w K mg base "_law_draws" 1 1 Gf__law_draws) (D__law_prime : FnD P w K mg base "_law_prime" 3 1 Gf__law_prime) (D__law_pull : FnD P w K mg base "_law_pull" 1 2 Gf__law_pull) (D__law_vector : FnD P w K mg base "_law_vector" 4 3 Gf__law_vector) (D__law_sum_of : FnD P w K mg base "_law_sum_of" 1 4 Gf__law_sum_of) (D_combination : FnD P w K mg base "combination" 8 3 Gf_combination) (D__law_lies : FnD P w K mg base "_law_lies" 2 3 Gf__law_lies) (D__law_like : FnD P w K mg base "_law_like" 4 2 (Gf__law_like 3)) (K_combination_210 : FnKP P w K mg base "combination" ["modulus", "vectors", "target"] ["target", "vectors", "modulus"] [2, 1, 0] 8 3 Gf_combination) (F : Fun K "law" "law" s_law f fd) (hm : mg "law" = some (.ref f)) : FnD P w K mg base "law" 9 1 Gf_law := ⟨f, fd, ["_law_script"], ok_law T D__law_draws D__law_prime D__law_pull D__law_vector D__law_sum_of D_combination D__law_lies D__law_like K_combination_210 F, hm, F.kp, F.binds (bd_law)⟩
theorem bk_K_combination_210 (kV doc pm : Value) (an : Option Addr) (cdv ct : Value) (us : List Value) (h : us.length = (["target", "vectors", "modulus"] : List Str).length) : bindArgs (PySem.W.fnOf "combination" "combination" (defArgs s_combination) (defBody s_combination) (defScope s_combination) .none kV doc pm an cdv ct) { pos := [], kw := (["target", "vectors", "modulus"] : List Str).zip us } = pure ((["modulus", "vectors", "target"] : List Str).zip (permL [2, 1, 0] us)) := match us, h with | [_, _, _], _ => rfl
theorem kn_K_combination_210 {f : Addr} {fd : FuncData} (T : Tx mg) (D_check_modulus : FnD P w K mg base "check_modulus" 3 1 Gf_check_modulus) (D_is_vector : FnD P w K mg base "is_vector" 3 2 Gf_is_vector) (D_check_vectors : FnD P w K mg base "check_vectors" 5 3 Gf_check_vectors) (D_reduced_basis : FnD P w K mg base "reduced_basis" 7 2 Gf_reduced_basis) (D_lead : FnD P w K mg base "lead" 1 1 Gf_lead) (F : Fun K "combination" "combination" s_combination f fd) (hm : mg "combination" = some (.ref f)) : FnKP P w K mg base "combination" ["modulus", "vectors", "target"] ["target", "vectors", "modulus"] [2, 1, 0] 8 3 Gf_combination := ⟨f, fd, ok_combination T D_check_modulus D_is_vector D_check_vectors D_reduced_basis D_lead F, hm, F.kp, kbp_of F bk_K_combination_210⟩
end
/-! ### the defs as plain functions -/
def Mb_copied (Mr : D → Res D) (x0 : D) : Res D :=
  (isiM [.list] x0).bind fun v18 => (asB v18).bind fun b17 => if b17 then (itM x0).bind fun ds19 => (few ds19 (mapR (fun d20 => (Mr d20).bind fun v21 => Res.ok v21) ds19)).bind fun l22 => Res.ok (.lst l22) else (isiM [.tuple] x0).bind fun v24 => (asB v24).bind fun b23 => if b23 then (itM x0).bind fun ds25 => (few ds25 (mapR (fun d26 => (Mr d26).bind fun v27 => Res.ok v27) ds25)).bind fun l28 => (fnM tupleD [(.lst l28)]).bind fun v29 => Res.ok v29 else (isiM [.dict] x0).bind fun v31 => (asB v31).bind fun b30 => if b30 then (itM x0).bind fun ds32 => (few ds32 (dcS (fun d33 => (Res.ok d33).nox.bind fun k34 => (keyM k34).bind fun k35 => ((opM ixD x0 d33).bind fun v37 => (Mr v37).bind fun v38 => Res.ok v38).nox.bind fun v36 => Res.ok (some (k35, v36))) ds32 [])).bind fun l39 => Res.ok (.dic l39) else Res.ok x0
def M_copied : Nat → D → Res D
  | 0 => fun _ => .bad
  | d + 1 => Mb_copied (M_copied d)
theorem F_copied : ∀ d : Nat, FM 1 (Gf_copied d) (ap1 (M_copied d))
  | 0 => ⟨fun ds h => by
    match ds, h with
    | [_], _ => exact True.intro, fun ds h => by
    match ds, h with
    | [], _ => exact rfl
    | [_], h => exact (h rfl).elim
    | _ :: _ :: _, _ => exact rfl⟩
  | d + 1 => fm_mk (n := 1) (pad := 2) (fun _ => rfl) (fun ds h => by
    match ds, h with
    | [], _ => exact rfl
    | [_], h => exact (h rfl).elim
    | _ :: _ :: _, _ => exact rfl) fun ds h => match ds, h with
    | [x0], _ => (show BS [some (.va x0), none, none] (G_copied (Gf_copied d)) (M_copied (d + 1) x0) QT from bs_eq (bs_guard (ebp_val (ep_isi (EP.ec (ep_name 0 x0 rfl)))) (fun c1 => (bs_retS (fun r6 => r6) (EW.ef (ewp_map (eip_seq (ep_name 0 x0 rfl)) rfl fun _ => cb_map (tg_name 1) (fun t3 => (ep_call (F_copied d) (ea_cons (ep_name 1 t3 rfl) ea_nil))) fun _ => (wk_s (wk_n (wk_n wk_e))))) (fun a k r q m => ⟨(fun z => nomatch z), (fun _ _ _ q _ => Or.inl ⟨_, rfl, q⟩) a k r q m⟩))) fun c1 => (bs_guard (ebp_val (ep_isi (EP.ec (ep_name 0 x0 rfl)))) (fun c7 => (bs_retS (fun r12 => r12) (ep_fn (eac_cons (EP.ec (EW.ef (ewp_map (eip_seq (ep_name 0 x0 rfl)) rfl fun _ => cb_map (tg_name 1) (fun t9 => (ep_call (F_copied d) (ea_cons (ep_name 1 t9 rfl) ea_nil))) fun _ => (wk_s (wk_n (wk_n wk_e)))))) eac_nil)) (fun a k r q m => ⟨(fun z => nomatch z), (fun _ _ _ q _ => Or.inl ⟨_, rfl, q⟩) a k r q m⟩))) fun c7 => (bs_guard (ebp_val (ep_isi (EP.ec (ep_name 0 x0 rfl)))) (fun c13 => (bs_retS (fun r15 => r15) (EW.ef (ew_dc (eip_seq (ep_name 0 x0 rfl)) rfl fun _ => cb_dc (tg_name 2) (fun t14 => (ep_name 2 t14 rfl)) (fun t14 => (ep_call (F_copied d) (ea_cons (ep_bin (EP.ec (ep_name 0 x0 rfl)) (EP.ec (ep_name 2 t14 rfl))) ea_nil))) fun _ => (wk_s (wk_n (wk_n wk_e))))) (fun a k r q m => ⟨(fun z => nomatch z), (fun _ _ _ q _ => Or.inl ⟨_, rfl, q⟩) a k r q m⟩))) fun c13 => (bs_retVS (fun r16 => r16) (EF.ev (ep_name 0 x0 rfl)) (fun _ _ _ q _ => Or.inl ⟨_, rfl, q⟩))))) (by dsimp only [ap0, ap1, ap2, ap3, ap4, ap5]; show _ = Mb_copied (M_copied d) x0; unfold Mb_copied; with_reducible rfl))
theorem FM_copied : FM 1 (Gf_copied 3) (ap1 (M_copied 3)) := F_copied 3
def M_is_number (x0 : D) : Res D :=
  (isiM [.int] x0).bind fun v3 => (asB v3).bind fun b2 => (if b2 then (isiM [.bool] x0).bind fun v5 => (asB v5).bind fun b4 => Res.ok (.bl !b4) else Res.ok (.bl false)).bind fun v6 => Res.ok v6
theorem FM_is_number : FM 1 Gf_is_number (ap1 M_is_number) :=
  fm_mk (n := 1) (pad := 0) (fun _ => rfl) (fun ds h => by
    match ds, h with
    | [], _ => exact rfl
    | [_], h => exact (h rfl).elim
    | _ :: _ :: _, _ => exact rfl) fun ds h => match ds, h with
    | [x0], _ => (show BS [some (.va x0)] G_is_number (M_is_number x0) QT from bs_eq (bs_retS (fun r1 => r1) (ep_and (ep_isi (EP.ec (ep_name 0 x0 rfl))) (ep_not (ep_isi (EP.ec (ep_name 0 x0 rfl))))) (fun _ _ _ q _ => Or.inl ⟨_, rfl, q⟩)) (by dsimp only [ap0, ap1, ap2, ap3, ap4, ap5]; unfold M_is_number; with_reducible rfl))
def M_is_modulus (x0 : D) : Res D :=
  (M_is_number x0).bind fun v13 => (asB v13).bind fun b12 => (if (!b12) then Res.ok true else (opM ltD x0 (.int 10007)).bind fun v15 => (asB v15).bind fun b14 => (if b14 then Res.ok true else (opM gtD x0 (.int 999983)).bind fun v17 => (asB v17).bind fun b16 => Res.ok b16).bind fun b18 => Res.ok b18).bind fun b19 => if b19 then Res.ok (.bl false) else (fnM isqrtD [x0]).bind fun v20 => (opM addD v20 (.int 1)).bind fun v21 => (rng2M [(.int 2), v21]).bind fun ds22 => (loopR (fun (s24 : Unit) d23 => (opM modD x0 d23).bind fun v27 => (opM eqD v27 (.int 0)).bind fun v28 => (asB v28).bind fun b26 => if b26 then Res.ok (Ft.rt (.bl false)) else Res.ok (Ft.nx ())) ds22 ()).bind (Ft.go fun s25 => Res.ok (.bl true))
theorem FM_is_modulus : FM 1 Gf_is_modulus (ap1 M_is_modulus) :=
  fm_mk (n := 1) (pad := 1) (fun _ => rfl) (fun ds h => by
    match ds, h with
    | [], _ => exact rfl
    | [_], h => exact (h rfl).elim
    | _ :: _ :: _, _ => exact rfl) fun ds h => match ds, h with
    | [x0], _ => (show BS [some (.va x0), none] G_is_modulus (M_is_modulus x0) QT from bs_eq (bs_guard (ebp_or (ebp_not (ebp_val (ep_call FM_is_number (ea_cons (ep_name 0 x0 rfl) ea_nil)))) (ebp_or (ebp_val (ep_bin (EP.ec (ep_name 0 x0 rfl)) (EP.ec (ep_c (.int 10007))))) (ebp_val (ep_bin (EP.ec (ep_name 0 x0 rfl)) (EP.ec (ep_c (.int 999983))))))) (fun c1 => (bs_retS (fun r2 => r2) (ep_c (.bl false)) (fun a k r q m => ⟨(fun z => nomatch z), (fun _ _ _ q _ => Or.inl ⟨_, rfl, q⟩) a k r q m⟩))) fun c1 => (bs_loop (fun a3 (s6 : Unit) => [some (.va x0), none]) (fun a3 => ()) (eip_rng2 (ea_cons (ep_c (.int 2)) (ea_cons (ep_bin (EP.ec (ep_fn (eac_cons (EP.ec (ep_name 0 x0 rfl)) eac_nil))) (EP.ec (ep_c (.int 1)))) ea_nil))) (fun _ => (wk_s (wk_n wk_e))) (fun a3 s6 d7 => sim_body (tg_name 1) fun t8 => (bs_last (bs_if (ebp_val (ep_bin (EP.ec (ep_bin (EP.ec (ep_name 0 x0 rfl)) (EP.ec (ep_name 1 t8 rfl)))) (EP.ec (ep_c (.int 0))))) (fun c9 => (bs_retS (fun r10 => (Ft.rt r10)) (ep_c (.bl false)) (fun a k r q m => ⟨⟨_, rfl⟩, (fun _ _ _ q _ => Or.inl ⟨_, rfl, q⟩) a k r q m⟩))) fun c9 => (bs_nil (Ft.nx ()) (fun _ m => ⟨Or.inl rfl, m.weak (wk_s (wk_n wk_e))⟩))))) fun a3 s6 => (bs_retS (fun r11 => r11) (ep_c (.bl true)) (fun _ _ _ q _ => Or.inl ⟨_, rfl, q⟩)))) (by dsimp only [ap0, ap1, ap2, ap3, ap4, ap5]; unfold M_is_modulus; with_reducible rfl))
def M_check_modulus (x0 : D) : Res D :=
  (M_is_modulus x0).bind fun v3 => (asB v3).bind fun b2 => if (!b2) then Res.bad else Res.ok D.non
theorem FM_check_modulus : FM 1 Gf_check_modulus (ap1 M_check_modulus) :=
  fm_mk (n := 1) (pad := 0) (fun _ => rfl) (fun ds h => by
    match ds, h with
    | [], _ => exact rfl
    | [_], h => exact (h rfl).elim
    | _ :: _ :: _, _ => exact rfl) fun ds h => match ds, h with
    | [x0], _ => (show BS [some (.va x0)] G_check_modulus (M_check_modulus x0) QT from bs_eq (bs_last (bs_if (ebp_not (ebp_val (ep_call FM_is_modulus (ea_cons (ep_name 0 x0 rfl) ea_nil)))) (fun c1 => bs_bad) fun c1 => (bs_nil D.non (fun _ _ => Or.inr ⟨rfl, rfl⟩)))) (by dsimp only [ap0, ap1, ap2, ap3, ap4, ap5]; unfold M_check_modulus; with_reducible rfl))
def M_is_letter (x0 : D) (x1 : D) : Res D :=
  (M_is_number x0).bind fun v3 => (asB v3).bind fun b2 => (if b2 then (opM leD (.int 0) x0).bind fun v4 => (asB v4).bind fun b5 => (if b5 then opM ltD x0 x1 else Res.ok (.bl false)).bind fun v6 => Res.ok v6 else Res.ok (.bl false)).bind fun v7 => Res.ok v7
theorem FM_is_letter : FM 2 Gf_is_letter (ap2 M_is_letter) :=
  fm_mk (n := 2) (pad := 0) (fun _ => rfl) (fun ds h => by
    match ds, h with
    | [], _ => exact rfl
    | [_], _ => exact rfl
    | [_, _], h => exact (h rfl).elim
    | _ :: _ :: _ :: _, _ => exact rfl) fun ds h => match ds, h with
    | [x0, x1], _ => (show BS [some (.va x0), some (.va x1)] G_is_letter (M_is_letter x0 x1) QT from bs_eq (bs_retS (fun r1 => r1) (ep_and (ep_call FM_is_number (ea_cons (ep_name 0 x0 rfl) ea_nil)) (ep_chain (EP.ec (ep_c (.int 0))) (EP.ec (ep_name 0 x0 rfl)) (EP.ec (ep_name 1 x1 rfl)))) (fun _ _ _ q _ => Or.inl ⟨_, rfl, q⟩)) (by dsimp only [ap0, ap1, ap2, ap3, ap4, ap5]; unfold M_is_letter; with_reducible rfl))
def M_inverse (x0 : D) (x1 : D) : Res D :=
  (M_check_modulus x1).bind fun v16 => (opM modD x0 x1).bind fun v18 => (opM eqD v18 (.int 0)).bind fun v19 => (asB v19).bind fun b17 => if b17 then Res.bad else (opM modD x0 x1).bind fun v20 => (tupM [(.int 0), (.int 1)]).bind fun v21 => un2 v21 fun x22 x23 => (whileM (fun s24 : D × D × D × D => (opM neD s24.2.1 (.int 1)).bind fun v28 => (asB v28).bind fun b27 => Res.ok b27) (fun s25 => (opM fdivD s25.1 s25.2.1).bind fun v29 => (opM mulD v29 s25.2.1).bind fun v30 => (opM subD s25.1 v30).bind fun v31 => (opM mulD v29 s25.2.2.2).bind fun v32 => (opM subD s25.2.2.1 v32).bind fun v33 => Res.ok (s25.2.1, v31, s25.2.2.2, v33)) fuelK (x1, v20, x22, x23)).bind fun s26 => (opM modD s26.2.2.2 x1).bind fun v34 => Res.ok v34
theorem FM_inverse : FM 2 Gf_inverse (ap2 M_inverse) :=
  fm_mk (n := 2) (pad := 5) (fun _ => rfl) (fun ds h => by
    match ds, h with
    | [], _ => exact rfl
    | [_], _ => exact rfl
    | [_, _], h => exact (h rfl).elim
    | _ :: _ :: _ :: _, _ => exact rfl) fun ds h => match ds, h with
    | [x0, x1], _ => (show BS [some (.va x0), some (.va x1), none, none, none, none, none] G_inverse (M_inverse x0 x1) QT from bs_eq (bs_seq (st_drop (ep_call FM_check_modulus (ea_cons (ep_name 1 x1 rfl) ea_nil))) fun a1 => (bs_guard (ebp_val (ep_bin (EP.ec (ep_bin (EP.ec (ep_name 0 x0 rfl)) (EP.ec (ep_name 1 x1 rfl)))) (EP.ec (ep_c (.int 0))))) (fun c2 => bs_bad) fun c2 => (bs_seq (st_parVV 2 3 (EF.ev (ep_name 1 x1 rfl)) (fun u3 => (EF.ev (ep_bin (EP.ec (ep_name 0 x0 rfl)) (EP.ec (ep_name 1 x1 rfl)))))) fun a5 => (bs_seq (st_asg (EF.ev (ep_tup (ea_cons (ep_c (.int 0)) (ea_cons (ep_c (.int 1)) ea_nil)))) fun _ => (tg_tup2 (fun _ => (tg_name 4)) fun _ _ => (tg_name 5))) fun a6 => (bs_while (fun s7 => [none, some (.va x1), some (.va s7.1), some (.va s7.2.1), some (.va s7.2.2.1), some (.va s7.2.2.2), none]) (a5.1, a5.2, a6.2.1, a6.2.2) (fun s7 => (ebp_val (ep_bin (EP.ec (ep_name 3 s7.2.1 rfl)) (EP.ec (ep_c (.int 1)))))) (wk_n (wk_s (wk_s (wk_s (wk_s (wk_s (wk_n wk_e))))))) (fun s7 => (bs_seq (st_set 6 (EF.ev (ep_bin (EP.ec (ep_name 2 s7.1 rfl)) (EP.ec (ep_name 3 s7.2.1 rfl))))) fun a8 => (bs_seq (st_parVV 2 3 (EF.ev (ep_name 3 s7.2.1 rfl)) (fun u9 => (EF.ev (ep_bin (EP.ec (ep_name 2 s7.1 rfl)) (EP.ec (ep_bin (EP.ec (ep_name 6 a8 rfl)) (EP.ec (ep_name 3 s7.2.1 rfl)))))))) fun a11 => (bs_seq (st_parVV 4 5 (EF.ev (ep_name 5 s7.2.2.2 rfl)) (fun u12 => (EF.ev (ep_bin (EP.ec (ep_name 4 s7.2.2.1 rfl)) (EP.ec (ep_bin (EP.ec (ep_name 6 a8 rfl)) (EP.ec (ep_name 5 s7.2.2.2 rfl)))))))) fun a14 => (bs_nil (a11.1, a11.2, a14.1, a14.2) (fun _ m => ⟨Or.inl rfl, m.weak (wk_n (wk_s (wk_s (wk_s (wk_s (wk_s (wk_n wk_e)))))))⟩)))))) fun s7 => (bs_retS (fun r15 => r15) (ep_bin (EP.ec (ep_name 5 s7.2.2.2 rfl)) (EP.ec (ep_name 1 x1 rfl))) (fun _ _ _ q _ => Or.inl ⟨_, rfl, q⟩))))))) (by dsimp only [ap0, ap1, ap2, ap3, ap4, ap5]; unfold M_inverse; with_reducible rfl))
def M_is_vector (x0 : D) (x1 : D) : Res D :=
  (isiM [.list, .tuple] x0).bind fun v7 => (asB v7).bind fun b6 => (if b6 then (itM x0).bind fun ds8 => (few ds8 (mapR (fun d9 => (M_is_letter d9 x1).bind fun v10 => Res.ok v10) ds8)).bind fun l11 => (fnM allD [(.lst l11)]).bind fun v12 => Res.ok v12 else Res.ok (.bl false)).bind fun v13 => Res.ok v13
theorem FM_is_vector : FM 2 Gf_is_vector (ap2 M_is_vector) :=
  fm_mk (n := 2) (pad := 1) (fun _ => rfl) (fun ds h => by
    match ds, h with
    | [], _ => exact rfl
    | [_], _ => exact rfl
    | [_, _], h => exact (h rfl).elim
    | _ :: _ :: _ :: _, _ => exact rfl) fun ds h => match ds, h with
    | [x0, x1], _ => (show BS [some (.va x0), some (.va x1), none] G_is_vector (M_is_vector x0 x1) QT from bs_eq (bs_retS (fun r5 => r5) (ep_and (ep_isi (EP.ec (ep_name 0 x0 rfl))) (ep_fn (eac_cons (EP.ec (EW.ef (ewp_map (eip_seq (ep_name 0 x0 rfl)) rfl fun _ => cb_map (tg_name 2) (fun t2 => (ep_call FM_is_letter (ea_cons (ep_name 2 t2 rfl) (ea_cons (ep_name 1 x1 rfl) ea_nil)))) fun _ => (wk_s (wk_s (wk_n wk_e)))))) eac_nil))) (fun _ _ _ q _ => Or.inl ⟨_, rfl, q⟩)) (by dsimp only [ap0, ap1, ap2, ap3, ap4, ap5]; unfold M_is_vector; with_reducible rfl))
def M_is_vector_of (x0 : D) (x1 : D) (x2 : D) : Res D :=
  (M_is_vector x0 x1).bind fun v3 => (asB v3).bind fun b2 => (if b2 then (fnM lenD [x0]).bind fun v4 => (opM eqD v4 x2).bind fun v5 => Res.ok v5 else Res.ok (.bl false)).bind fun v6 => Res.ok v6
theorem FM_is_vector_of : FM 3 Gf_is_vector_of (ap3 M_is_vector_of) :=
  fm_mk (n := 3) (pad := 0) (fun _ => rfl) (fun ds h => by
    match ds, h with
    | [], _ => exact rfl
    | [_], _ => exact rfl
    | [_, _], _ => exact rfl
    | [_, _, _], h => exact (h rfl).elim
    | _ :: _ :: _ :: _ :: _, _ => exact rfl) fun ds h => match ds, h with
    | [x0, x1, x2], _ => (show BS [some (.va x0), some (.va x1), some (.va x2)] G_is_vector_of (M_is_vector_of x0 x1 x2) QT from bs_eq (bs_retS (fun r1 => r1) (ep_and (ep_call FM_is_vector (ea_cons (ep_name 0 x0 rfl) (ea_cons (ep_name 1 x1 rfl) ea_nil))) (ep_bin (EP.ec (ep_fn (eac_cons (EP.ec (ep_name 0 x0 rfl)) eac_nil))) (EP.ec (ep_name 2 x2 rfl)))) (fun _ _ _ q _ => Or.inl ⟨_, rfl, q⟩)) (by dsimp only [ap0, ap1, ap2, ap3, ap4, ap5]; unfold M_is_vector_of; with_reducible rfl))
def M_check_vectors (x0 : D) (x1 : D) (x2 : D) : Res D :=
  (enumM2 [x0]).bind fun ds7 => (foldR (fun (s9 : Unit) d8 => un2 d8 fun x11 x12 => (M_is_vector_of x12 x1 x2).bind fun v14 => (asB v14).bind fun b13 => if (!b13) then Res.bad else Res.ok ()) ds7 ()).bind fun s10 => Res.ok D.non
theorem FM_check_vectors : FM 3 Gf_check_vectors (ap3 M_check_vectors) :=
  fm_mk (n := 3) (pad := 2) (fun _ => rfl) (fun ds h => by
    match ds, h with
    | [], _ => exact rfl
    | [_], _ => exact rfl
    | [_, _], _ => exact rfl
    | [_, _, _], h => exact (h rfl).elim
    | _ :: _ :: _ :: _ :: _, _ => exact rfl) fun ds h => match ds, h with
    | [x0, x1, x2], _ => (show BS [some (.va x0), some (.va x1), some (.va x2), none, none] G_check_vectors (M_check_vectors x0 x1 x2) QT from bs_eq (bs_for (fun a1 (s3 : Unit) => [none, some (.va x1), some (.va x2), none, none]) (fun a1 => ()) (eip_enum2 (ea_cons (ep_name 0 x0 rfl) ea_nil)) (fun _ => (wk_n (wk_s (wk_s (wk_n (wk_n wk_e)))))) (fun a1 s3 d4 => sim_body (tg_tup2 (fun _ => (tg_name 3)) fun _ _ => (tg_name 4)) fun t5 => (bs_last (bs_if (ebp_not (ebp_val (ep_call FM_is_vector_of (ea_cons (ep_name 4 t5.2 rfl) (ea_cons (ep_name 1 x1 rfl) (ea_cons (ep_name 2 x2 rfl) ea_nil)))))) (fun c6 => bs_bad) fun c6 => (bs_nil () (fun _ m => ⟨Or.inl rfl, m.weak (wk_n (wk_s (wk_s (wk_n (wk_n wk_e)))))⟩))))) fun a1 s3 => (bs_nil D.non (fun _ _ => Or.inr ⟨rfl, rfl⟩))) (by dsimp only [ap0, ap1, ap2, ap3, ap4, ap5]; unfold M_check_vectors; with_reducible rfl))
def M_product_of (x0 : D) (x1 : D) (x2 : D) : Res D :=
  (zipM2 [x0, x1]).bind fun ds6 => (few ds6 (mapR (fun d7 => un2 d7 fun x8 x9 => (opM mulD x8 x9).bind fun v10 => Res.ok v10) ds6)).bind fun l11 => (fnM sumD [(.lst l11)]).bind fun v12 => (opM modD v12 x2).bind fun v13 => Res.ok v13
theorem FM_product_of : FM 3 Gf_product_of (ap3 M_product_of) :=
  fm_mk (n := 3) (pad := 2) (fun _ => rfl) (fun ds h => by
    match ds, h with
    | [], _ => exact rfl
    | [_], _ => exact rfl
    | [_, _], _ => exact rfl
    | [_, _, _], h => exact (h rfl).elim
    | _ :: _ :: _ :: _ :: _, _ => exact rfl) fun ds h => match ds, h with
    | [x0, x1, x2], _ => (show BS [some (.va x0), some (.va x1), some (.va x2), none, none] G_product_of (M_product_of x0 x1 x2) QT from bs_eq (bs_retS (fun r5 => r5) (ep_bin (EP.ec (ep_fn (eac_cons (EP.ec (EW.ef (ewp_map (eip_zip2 (ea_cons (ep_name 0 x0 rfl) (ea_cons (ep_name 1 x1 rfl) ea_nil))) rfl fun _ => cb_map (tg_tup2 (fun _ => (tg_name 3)) fun _ _ => (tg_name 4)) (fun t2 => (ep_bin (EP.ec (ep_name 3 t2.1 rfl)) (EP.ec (ep_name 4 t2.2 rfl)))) fun _ => (wk_s (wk_s (wk_s (wk_n (wk_n wk_e)))))))) eac_nil))) (EP.ec (ep_name 2 x2 rfl))) (fun _ _ _ q _ => Or.inl ⟨_, rfl, q⟩)) (by dsimp only [ap0, ap1, ap2, ap3, ap4, ap5]; unfold M_product_of; with_reducible rfl))
def M_sum_of (x0 : D) (x1 : D) (x2 : D) : Res D :=
  (itM x1).bind fun l6 => (zipNM (l6 ++ [])).bind fun ds7 => (few ds7 (mapR (fun d8 => (M_product_of x0 d8 x2).bind fun v9 => Res.ok v9) ds7)).bind fun l10 => (fnM tupleD [(.lst l10)]).bind fun v11 => Res.ok v11
theorem FM_sum_of : FM 3 Gf_sum_of (ap3 M_sum_of) :=
  fm_mk (n := 3) (pad := 1) (fun _ => rfl) (fun ds h => by
    match ds, h with
    | [], _ => exact rfl
    | [_], _ => exact rfl
    | [_, _], _ => exact rfl
    | [_, _, _], h => exact (h rfl).elim
    | _ :: _ :: _ :: _ :: _, _ => exact rfl) fun ds h => match ds, h with
    | [x0, x1, x2], _ => (show BS [some (.va x0), some (.va x1), some (.va x2), none] G_sum_of (M_sum_of x0 x1 x2) QT from bs_eq (bs_retS (fun r5 => r5) (ep_fn (eac_cons (EP.ec (EW.ef (ewp_map (eip_zipN (ea_star (ep_name 1 x1 rfl) ea_nil)) rfl fun _ => cb_map (tg_name 3) (fun t2 => (ep_call FM_product_of (ea_cons (ep_name 0 x0 rfl) (ea_cons (ep_name 3 t2 rfl) (ea_cons (ep_name 2 x2 rfl) ea_nil))))) fun _ => (wk_s (wk_s (wk_s (wk_n wk_e))))))) eac_nil)) (fun _ _ _ q _ => Or.inl ⟨_, rfl, q⟩)) (by dsimp only [ap0, ap1, ap2, ap3, ap4, ap5]; unfold M_sum_of; with_reducible rfl))
def M_lead (x0 : D) : Res D :=
  (tupOf x0).bind fun _ => (idxM x0 (.int 1)).bind fun v2 => Res.ok v2
theorem FM_lead : FM 1 Gf_lead (ap1 M_lead) :=
  fm_mk (n := 1) (pad := 0) (fun _ => rfl) (fun ds h => by
    match ds, h with
    | [], _ => exact rfl
    | [_], h => exact (h rfl).elim
    | _ :: _ :: _, _ => exact rfl) fun ds h => match ds, h with
    | [x0], _ => (show BS [some (.va x0)] G_lead (M_lead x0) QT from bs_eq (bs_retS (fun r1 => r1) (ep_idx (ep_name 0 x0 rfl) (ep_c (.int 1))) (fun _ _ _ q _ => Or.inl ⟨_, rfl, q⟩)) (by dsimp only [ap0, ap1, ap2, ap3, ap4, ap5]; unfold M_lead; with_reducible rfl))
def M_first_other_than_zero (x0 : D) : Res D :=
  (whileM (fun s5 : D => (opM ixD x0 s5).bind fun v9 => (opM eqD v9 (.int 0)).bind fun v10 => (asB v10).bind fun b8 => Res.ok b8) (fun s6 => (opM addD s6 (.int 1)).bind fun v11 => Res.ok v11) fuelK (.int 0)).bind fun s7 => Res.ok s7
theorem FM_first_other_than_zero : FM 1 Gf_first_other_than_zero (ap1 M_first_other_than_zero) :=
  fm_mk (n := 1) (pad := 1) (fun _ => rfl) (fun ds h => by
    match ds, h with
    | [], _ => exact rfl
    | [_], h => exact (h rfl).elim
    | _ :: _ :: _, _ => exact rfl) fun ds h => match ds, h with
    | [x0], _ => (show BS [some (.va x0), none] G_first_other_than_zero (M_first_other_than_zero x0) QT from bs_eq (bs_seq (st_set 1 (EF.ev (ep_c (.int 0)))) fun a1 => (bs_while (fun s2 => [some (.va x0), some (.va s2)]) a1 (fun s2 => (ebp_val (ep_bin (EP.ec (ep_bin (EP.ec (ep_name 0 x0 rfl)) (EP.ec (ep_name 1 s2 rfl)))) (EP.ec (ep_c (.int 0)))))) (wk_s (wk_s wk_e)) (fun s2 => (bs_seq (st_set 1 (EF.ev (ep_bin (EP.ec (ep_name 1 s2 rfl)) (EP.ec (ep_c (.int 1)))))) fun a3 => (bs_nil a3 (fun _ m => ⟨Or.inl rfl, m.weak (wk_s (wk_s wk_e))⟩)))) fun s2 => (bs_retVS (fun r4 => r4) (EF.ev (ep_name 1 s2 rfl)) (fun _ _ _ q _ => Or.inl ⟨_, rfl, q⟩)))) (by dsimp only [ap0, ap1, ap2, ap3, ap4, ap5]; unfold M_first_other_than_zero; with_reducible rfl))
def M_cleared_at (x0 : D) (x1 : D) (x2 : D) (x3 : D) : Res D :=
  (opM ixD x0 x1).bind fun v9 => (opM eqD v9 (.int 0)).bind fun v11 => (asB v11).bind fun b10 => if b10 then Res.ok x0 else (zipM2 [x0, x2]).bind fun ds12 => (few ds12 (mapR (fun d13 => un2 d13 fun x14 x15 => (opM mulD v9 x15).bind fun v16 => (opM subD x14 v16).bind fun v17 => (opM modD v17 x3).bind fun v18 => Res.ok v18) ds12)).bind fun l19 => (fnM tupleD [(.lst l19)]).bind fun v20 => Res.ok v20
theorem FM_cleared_at : FM 4 Gf_cleared_at (ap4 M_cleared_at) :=
  fm_mk (n := 4) (pad := 3) (fun _ => rfl) (fun ds h => by
    match ds, h with
    | [], _ => exact rfl
    | [_], _ => exact rfl
    | [_, _], _ => exact rfl
    | [_, _, _], _ => exact rfl
    | [_, _, _, _], h => exact (h rfl).elim
    | _ :: _ :: _ :: _ :: _ :: _, _ => exact rfl) fun ds h => match ds, h with
    | [x0, x1, x2, x3], _ => (show BS [some (.va x0), some (.va x1), some (.va x2), some (.va x3), none, none, none] G_cleared_at (M_cleared_at x0 x1 x2 x3) QT from bs_eq (bs_seq (st_set 4 (EF.ev (ep_bin (EP.ec (ep_name 0 x0 rfl)) (EP.ec (ep_name 1 x1 rfl))))) fun a1 => (bs_guard (ebp_val (ep_bin (EP.ec (ep_name 4 a1 rfl)) (EP.ec (ep_c (.int 0))))) (fun c2 => (bs_retVS (fun r3 => r3) (EF.ev (ep_name 0 x0 rfl)) (fun a k r q m => ⟨(fun z => nomatch z), (fun _ _ _ q _ => Or.inl ⟨_, rfl, q⟩) a k r q m⟩))) fun c2 => (bs_retS (fun r8 => r8) (ep_fn (eac_cons (EP.ec (EW.ef (ewp_map (eip_zip2 (ea_cons (ep_name 0 x0 rfl) (ea_cons (ep_name 2 x2 rfl) ea_nil))) rfl fun _ => cb_map (tg_tup2 (fun _ => (tg_name 5)) fun _ _ => (tg_name 6)) (fun t5 => (ep_bin (EP.ec (ep_bin (EP.ec (ep_name 5 t5.1 rfl)) (EP.ec (ep_bin (EP.ec (ep_name 4 a1 rfl)) (EP.ec (ep_name 6 t5.2 rfl)))))) (EP.ec (ep_name 3 x3 rfl)))) fun _ => (wk_s (wk_s (wk_s (wk_s (wk_s (wk_n (wk_n wk_e)))))))))) eac_nil)) (fun _ _ _ q _ => Or.inl ⟨_, rfl, q⟩)))) (by dsimp only [ap0, ap1, ap2, ap3, ap4, ap5]; unfold M_cleared_at; with_reducible rfl))
def M_cleared (x0 : D) (x1 : D) (x2 : D) : Res D :=
  (truM x1).bind fun b13 => if (!b13) then (fnM tupleD [x0]).bind fun v14 => Res.ok v14 else (itM x1).bind fun ds15 => (few ds15 (mapR (fun d16 => (M_lead d16).bind fun v17 => (opM ixD x0 v17).bind fun v18 => Res.ok v18) ds15)).bind fun l19 => (M_sum_of (.lst l19) x1 x2).bind fun v20 => (zipM2 [x0, v20]).bind fun ds21 => (few ds21 (mapR (fun d22 => un2 d22 fun x23 x24 => (opM subD x23 x24).bind fun v25 => (opM modD v25 x2).bind fun v26 => Res.ok v26) ds21)).bind fun l27 => (fnM tupleD [(.lst l27)]).bind fun v28 => Res.ok v28
theorem FM_cleared : FM 3 Gf_cleared (ap3 M_cleared) :=
  fm_mk (n := 3) (pad := 4) (fun _ => rfl) (fun ds h => by
    match ds, h with
    | [], _ => exact rfl
    | [_], _ => exact rfl
    | [_, _], _ => exact rfl
    | [_, _, _], h => exact (h rfl).elim
    | _ :: _ :: _ :: _ :: _, _ => exact rfl) fun ds h => match ds, h with
    | [x0, x1, x2], _ => (show BS [some (.va x0), some (.va x1), some (.va x2), none, none, none, none] G_cleared (M_cleared x0 x1 x2) QT from bs_eq (bs_guard (ebp_not (ebp_tru (EP.ec (ep_name 1 x1 rfl)))) (fun c1 => (bs_retS (fun r2 => r2) (ep_fn (eac_cons (EP.ec (ep_name 0 x0 rfl)) eac_nil)) (fun a k r q m => ⟨(fun z => nomatch z), (fun _ _ _ q _ => Or.inl ⟨_, rfl, q⟩) a k r q m⟩))) fun c1 => (bs_seq (st_set 3 (EF.ev (ep_call FM_sum_of (ea_cons (EW.ef (ewp_map (eip_seq (ep_name 1 x1 rfl)) rfl fun _ => cb_map (tg_name 4) (fun t4 => (ep_bin (EP.ec (ep_name 0 x0 rfl)) (EP.ec (ep_call FM_lead (ea_cons (ep_name 4 t4 rfl) ea_nil))))) fun _ => (wk_s (wk_s (wk_s (wk_n (wk_n (wk_n (wk_n wk_e))))))))) (ea_cons (ep_name 1 x1 rfl) (ea_cons (ep_name 2 x2 rfl) ea_nil)))))) fun a7 => (bs_retS (fun r12 => r12) (ep_fn (eac_cons (EP.ec (EW.ef (ewp_map (eip_zip2 (ea_cons (ep_name 0 x0 rfl) (ea_cons (ep_name 3 a7 rfl) ea_nil))) rfl fun _ => cb_map (tg_tup2 (fun _ => (tg_name 5)) fun _ _ => (tg_name 6)) (fun t9 => (ep_bin (EP.ec (ep_bin (EP.ec (ep_name 5 t9.1 rfl)) (EP.ec (ep_name 6 t9.2 rfl)))) (EP.ec (ep_name 2 x2 rfl)))) fun _ => (wk_s (wk_s (wk_s (wk_s (wk_n (wk_n (wk_n wk_e)))))))))) eac_nil)) (fun _ _ _ q _ => Or.inl ⟨_, rfl, q⟩)))) (by dsimp only [ap0, ap1, ap2, ap3, ap4, ap5]; unfold M_cleared; with_reducible rfl))
def M_basis_with (x0 : D) (x1 : D) (x2 : D) : Res D :=
  (M_first_other_than_zero x1).bind fun v14 => (opM ixD x1 v14).bind fun v15 => (M_inverse v15 x2).bind fun v16 => (itM x1).bind fun ds17 => (few ds17 (mapR (fun d18 => (opM mulD d18 v16).bind fun v19 => (opM modD v19 x2).bind fun v20 => Res.ok v20) ds17)).bind fun l21 => (fnM tupleD [(.lst l21)]).bind fun v22 => (itM x0).bind fun ds23 => (few ds23 (mapR (fun d24 => (M_cleared_at d24 v14 v22 x2).bind fun v25 => Res.ok v25) ds23)).bind fun l26 => (lstM [v22]).bind fun v27 => (opM addD (.lst l26) v27).bind fun v28 => (newM sortRD [v28]).bind fun v29 => Res.ok v29
theorem FM_basis_with : FM 3 Gf_basis_with (ap3 M_basis_with) :=
  fm_mk (n := 3) (pad := 6) (fun _ => rfl) (fun ds h => by
    match ds, h with
    | [], _ => exact rfl
    | [_], _ => exact rfl
    | [_, _], _ => exact rfl
    | [_, _, _], h => exact (h rfl).elim
    | _ :: _ :: _ :: _ :: _, _ => exact rfl) fun ds h => match ds, h with
    | [x0, x1, x2], _ => (show BS [some (.va x0), some (.va x1), some (.va x2), none, none, none, none, none, none] G_basis_with (M_basis_with x0 x1 x2) QT from bs_eq (bs_seq (st_set 3 (EF.ev (ep_call FM_first_other_than_zero (ea_cons (ep_name 1 x1 rfl) ea_nil)))) fun a1 => (bs_seq (st_set 4 (EF.ev (ep_call FM_inverse (ea_cons (ep_bin (EP.ec (ep_name 1 x1 rfl)) (EP.ec (ep_name 3 a1 rfl))) (ea_cons (ep_name 2 x2 rfl) ea_nil))))) fun a2 => (bs_seq (st_set 5 (EF.ev (ep_fn (eac_cons (EP.ec (EW.ef (ewp_map (eip_seq (ep_name 1 x1 rfl)) rfl fun _ => cb_map (tg_name 8) (fun t4 => (ep_bin (EP.ec (ep_bin (EP.ec (ep_name 8 t4 rfl)) (EP.ec (ep_name 4 a2 rfl)))) (EP.ec (ep_name 2 x2 rfl)))) fun _ => (wk_s (wk_s (wk_s (wk_s (wk_s (wk_n (wk_n (wk_n (wk_n wk_e)))))))))))) eac_nil)))) fun a7 => (bs_seq (st_set 6 (EF.ev (EW.ef (ewp_map (eip_seq (ep_name 0 x0 rfl)) rfl fun _ => cb_map (tg_name 7) (fun t9 => (ep_call FM_cleared_at (ea_cons (ep_name 7 t9 rfl) (ea_cons (ep_name 3 a1 rfl) (ea_cons (ep_name 5 a7 rfl) (ea_cons (ep_name 2 x2 rfl) ea_nil)))))) fun _ => (wk_s (wk_s (wk_s (wk_s (wk_s (wk_s (wk_n (wk_n (wk_n wk_e))))))))))))) fun a12 => (bs_retS (fun r13 => r13) (EW.ef (ew_fn (eac_cons (EP.ec (ep_bin (EP.ec (ep_name 6 a12 rfl)) (EP.ec (EW.ef (ewp_list (ea_cons (ep_name 5 a7 rfl) ea_nil)))))) eac_nil))) (fun _ _ _ q _ => Or.inl ⟨_, rfl, q⟩)))))) (by dsimp only [ap0, ap1, ap2, ap3, ap4, ap5]; unfold M_basis_with; with_reducible rfl))
def M_widened (x0 : D) (x1 : D) (x2 : D) : Res D :=
  (itM x1).bind fun ds12 => (foldR (fun s14 d13 => (M_cleared d13 s14 x2).bind fun v16 => (fnM anyD2 [v16]).bind fun v18 => (asB v18).bind fun b17 => if b17 then (M_basis_with s14 v16 x2).bind fun v19 => Res.ok v19 else Res.ok s14) ds12 x0).bind fun s15 => Res.ok s15
theorem FM_widened : FM 3 Gf_widened (ap3 M_widened) :=
  fm_mk (n := 3) (pad := 2) (fun _ => rfl) (fun ds h => by
    match ds, h with
    | [], _ => exact rfl
    | [_], _ => exact rfl
    | [_, _], _ => exact rfl
    | [_, _, _], h => exact (h rfl).elim
    | _ :: _ :: _ :: _ :: _, _ => exact rfl) fun ds h => match ds, h with
    | [x0, x1, x2], _ => (show BS [some (.va x0), some (.va x1), some (.va x2), none, none] G_widened (M_widened x0 x1 x2) QT from bs_eq (bs_for (fun a1 s5 => [some (.va s5), none, some (.va x2), none, none]) (fun a1 => x0) (eip_seq (ep_name 1 x1 rfl)) (fun _ => (wk_s (wk_n (wk_s (wk_n (wk_n wk_e)))))) (fun a1 s5 d6 => sim_body (tg_name 3) fun t7 => (bs_seq (st_set 4 (EF.ev (ep_call FM_cleared (ea_cons (ep_name 3 t7 rfl) (ea_cons (ep_name 0 s5 rfl) (ea_cons (ep_name 2 x2 rfl) ea_nil)))))) fun a8 => (bs_last (bs_if (ebp_val (ep_fn (eac_cons (EP.ec (ep_name 4 a8 rfl)) eac_nil))) (fun c9 => (bs_seq (st_set 0 (EF.ev (ep_call FM_basis_with (ea_cons (ep_name 0 s5 rfl) (ea_cons (ep_name 4 a8 rfl) (ea_cons (ep_name 2 x2 rfl) ea_nil)))))) fun a10 => (bs_nil a10 (fun _ m => ⟨Or.inl rfl, m.weak (wk_s (wk_n (wk_s (wk_n (wk_n wk_e)))))⟩)))) fun c9 => (bs_nil s5 (fun _ m => ⟨Or.inl rfl, m.weak (wk_s (wk_n (wk_s (wk_n (wk_n wk_e)))))⟩)))))) fun a1 s5 => (bs_retVS (fun r11 => r11) (EF.ev (ep_name 0 s5 rfl)) (fun _ _ _ q _ => Or.inl ⟨_, rfl, q⟩))) (by dsimp only [ap0, ap1, ap2, ap3, ap4, ap5]; unfold M_widened; with_reducible rfl))
def M_reduced_basis (x0 : D) (x1 : D) : Res D :=
  (lstM []).bind fun v2 => (M_widened v2 x0 x1).bind fun v3 => Res.ok v3
theorem FM_reduced_basis : FM 2 Gf_reduced_basis (ap2 M_reduced_basis) :=
  fm_mk (n := 2) (pad := 0) (fun _ => rfl) (fun ds h => by
    match ds, h with
    | [], _ => exact rfl
    | [_], _ => exact rfl
    | [_, _], h => exact (h rfl).elim
    | _ :: _ :: _ :: _, _ => exact rfl) fun ds h => match ds, h with
    | [x0, x1], _ => (show BS [some (.va x0), some (.va x1)] G_reduced_basis (M_reduced_basis x0 x1) QT from bs_eq (bs_retS (fun r1 => r1) (ep_call FM_widened (ea_cons (EW.ef (ewp_list ea_nil)) (ea_cons (ep_name 0 x0 rfl) (ea_cons (ep_name 1 x1 rfl) ea_nil)))) (fun _ _ _ q _ => Or.inl ⟨_, rfl, q⟩)) (by dsimp only [ap0, ap1, ap2, ap3, ap4, ap5]; unfold M_reduced_basis; with_reducible rfl))
def M_combination (x0 : D) (x1 : D) (x2 : D) : Res D :=
  (M_check_modulus x0).bind fun v15 => (M_is_vector x2 x0).bind fun v17 => (asB v17).bind fun b16 => if (!b16) then Res.bad else (fnM lenD [x2]).bind fun v18 => (M_check_vectors x1 x0 v18).bind fun v19 => (itM x1).bind fun l20 => (zipNM (l20 ++ (x2 :: []))).bind fun ds21 => (listZM ds21).bind fun v22 => (fnM lenD [x1]).bind fun v23 => (M_reduced_basis v22 x0).bind fun v24 => (itM v24).bind fun ds25 => (few ds25 (dcS (fun d26 => ((M_lead d26).bind fun v30 => Res.ok v30).nox.bind fun k27 => (keyM k27).bind fun k28 => ((opM ixD d26 v23).bind fun v31 => Res.ok v31).nox.bind fun v29 => Res.ok (some (k28, v29))) ds25 [])).bind fun l32 => (opM inD2 v23 (.dic l32)).bind fun v34 => (asB v34).bind fun b33 => if b33 then Res.ok .non else (rng1M [v23]).bind fun ds35 => (few ds35 (mapR (fun d36 => (dicOf (.dic l32)).bind fun _ => (get2M (.dic l32) d36 (.int 0)).bind fun v37 => Res.ok v37) ds35)).bind fun l38 => Res.ok (.lst l38)
theorem FM_combination : FM 3 Gf_combination (ap3 M_combination) :=
  fm_mk (n := 3) (pad := 5) (fun _ => rfl) (fun ds h => by
    match ds, h with
    | [], _ => exact rfl
    | [_], _ => exact rfl
    | [_, _], _ => exact rfl
    | [_, _, _], h => exact (h rfl).elim
    | _ :: _ :: _ :: _ :: _, _ => exact rfl) fun ds h => match ds, h with
    | [x0, x1, x2], _ => (show BS [some (.va x0), some (.va x1), some (.va x2), none, none, none, none, none] G_combination (M_combination x0 x1 x2) QT from bs_eq (bs_seq (st_drop (ep_call FM_check_modulus (ea_cons (ep_name 0 x0 rfl) ea_nil))) fun a1 => (bs_guard (ebp_not (ebp_val (ep_call FM_is_vector (ea_cons (ep_name 2 x2 rfl) (ea_cons (ep_name 0 x0 rfl) ea_nil))))) (fun c2 => bs_bad) fun c2 => (bs_seq (st_drop (ep_call FM_check_vectors (ea_cons (ep_name 1 x1 rfl) (ea_cons (ep_name 0 x0 rfl) (ea_cons (ep_fn (eac_cons (EP.ec (ep_name 2 x2 rfl)) eac_nil)) ea_nil))))) fun a3 => (bs_seq (st_set 3 (EF.ev (EW.ef (ewp_listZ (eip_zipN (ea_star (ep_name 1 x1 rfl) (ea_cons (ep_name 2 x2 rfl) ea_nil))))))) fun a4 => (bs_seq (st_set 4 (EF.ev (ep_fn (eac_cons (EP.ec (ep_name 1 x1 rfl)) eac_nil)))) fun a5 => (bs_seq (st_set 5 (EF.ev (EW.ef (ew_dc (eip_seq (ep_call FM_reduced_basis (ea_cons (ep_name 3 a4 rfl) (ea_cons (ep_name 0 x0 rfl) ea_nil)))) rfl fun _ => cb_dc (tg_name 6) (fun t6 => (ep_call FM_lead (ea_cons (ep_name 6 t6 rfl) ea_nil))) (fun t6 => (ep_bin (EP.ec (ep_name 6 t6 rfl)) (EP.ec (ep_name 4 a5 rfl)))) fun _ => (wk_s (wk_s (wk_s (wk_s (wk_s (wk_n (wk_n (wk_n wk_e)))))))))))) fun a7 => (bs_guard (ebp_val (ep_bin (EP.ec (ep_name 4 a5 rfl)) (EP.ec (ep_name 5 a7 rfl)))) (fun c8 => (bs_retS (fun r9 => r9) (ep_c .non) (fun a k r q m => ⟨(fun z => nomatch z), (fun _ _ _ q _ => Or.inl ⟨_, rfl, q⟩) a k r q m⟩))) fun c8 => (bs_retS (fun r14 => r14) (EW.ef (ewp_map (eip_rng1 (ea_cons (ep_name 4 a5 rfl) ea_nil)) rfl fun _ => cb_map (tg_name 7) (fun t11 => (ep_get2 (ep_name 5 a7 rfl) (ep_name 7 t11 rfl) (ep_c (.int 0)))) fun _ => (wk_s (wk_s (wk_s (wk_s (wk_s (wk_s (wk_n (wk_n wk_e)))))))))) (fun _ _ _ q _ => Or.inl ⟨_, rfl, q⟩))))))))) (by dsimp only [ap0, ap1, ap2, ap3, ap4, ap5]; unfold M_combination; with_reducible rfl))
def M__law_draws (x0 : D) : Res D :=
  (asI (.int 63)).bind fun i2 => (slM x0 none (some i2)).bind fun v3 => (newM listD [v3]).bind fun v4 => (lstM [v4, (.int 0), (.int 0), (.int 10045), (.int 0)]).bind fun v5 => Res.ok v5
theorem FW__law_draws : FW 1 Gf__law_draws (ap1 M__law_draws) :=
  fw_mk (n := 1) (pad := 0) (fun _ => rfl) (fun ds h => by
    match ds, h with
    | [], _ => exact rfl
    | [_], h => exact (h rfl).elim
    | _ :: _ :: _, _ => exact rfl) fun ds h => match ds, h with
    | [x0], _ => (show BS [some (.va x0)] G__law_draws (M__law_draws x0) QTW from bs_eq (bs_retW (fun r1 => r1) (ewp_list (ea_cons (EW.ef (ew_fn (eac_cons (EP.ec (ep_slice (EP.ec (ep_name 0 x0 rfl)) eo_none (eo_some (ep_c (.int 63))))) eac_nil))) (ea_cons (ep_c (.int 0)) (ea_cons (ep_c (.int 0)) (ea_cons (ep_c (.int 10045)) (ea_cons (ep_c (.int 0)) ea_nil)))))) fun _ _ i _ => ⟨rfl, i⟩) (by dsimp only [ap0, ap1, ap2, ap3, ap4, ap5]; unfold M__law_draws; with_reducible rfl))
def M__law_pull (x0 : D) (x1 : D) : Res (D × D) :=
  ((opM ixD x0 (.int 4)).bind fun v36 => (opM addD v36 (.int 1)).bind fun v37 => (stM x0 (.int 4) v37).bind fun l38 => ((opM ixD l38 (.int 2)).bind fun v41 => (opM eqD v41 (.int 0)).bind fun v42 => (asB v42).bind fun b40 => (if b40 then (opM ixD l38 (.int 1)).bind fun v44 => (opM ixD l38 (.int 0)).bind fun v45 => (fnM lenD [v45]).bind fun v46 => (opM ltD v44 v46).bind fun v47 => (asB v47).bind fun b43 => Res.ok b43 else Res.ok false).bind fun b48 => if b48 then (opM ixD l38 (.int 0)).bind fun v49 => (opM ixD l38 (.int 1)).bind fun v50 => (opM ixD v49 v50).bind fun v51 => (opM ixD l38 (.int 1)).bind fun v52 => (opM addD v52 (.int 1)).bind fun v53 => (stM l38 (.int 1) v53).bind fun l54 => ((opM powD (.int 10) (.int 18)).bind fun v57 => (opM geD v51 v57).bind fun v58 => (asB v58).bind fun b56 => if b56 then (stM l54 (.int 2) v51).bind fun l59 => Res.ok l59 else Res.ok l54).bind fun s55 => (opM ixD s55 (.int 3)).bind fun v60 => (opM mulD v60 (.int 43019)).bind fun v61 => (fnM intD [v51]).bind fun v62 => (opM modD v62 (.int 2147483269)).bind fun v63 => (opM mulD v63 (.int 51197)).bind fun v64 => (opM addD v61 v64).bind fun v65 => (opM addD v65 (.int 73)).bind fun v66 => (fnM intD [v66]).bind fun v67 => (opM modD v67 (.int 2147483399)).bind fun v68 => (stM s55 (.int 3) v68).bind fun l69 => Res.ok l69 else Res.ok l38).bind fun s39 => (opM ixD s39 (.int 2)).bind fun v71 => (opM gtD v71 (.int 0)).bind fun v72 => (asB v72).bind fun b70 => if b70 then (opM ixD s39 (.int 2)).bind fun v73 => (fnM intD [v73]).bind fun v74 => (opM modD v74 x1).bind fun v75 => (opM ixD s39 (.int 2)).bind fun v76 => (opM fdivD v76 x1).bind fun v77 => (stM s39 (.int 2) v77).bind fun l78 => Res.ok (v75, l78) else (opM ixD s39 (.int 3)).bind fun v79 => (opM powD v79 (.int 3)).bind fun v80 => (opM mulD v79 (.int 37991)).bind fun v81 => (opM addD v80 v81).bind fun v82 => (opM ixD s39 (.int 4)).bind fun v83 => (opM mulD v83 (.int 1299689)).bind fun v84 => (opM addD v82 v84).bind fun v85 => (opM addD v85 (.int 70489)).bind fun v86 => (fnM intD [v86]).bind fun v87 => (opM modD v87 (.int 2147483399)).bind fun v88 => (stM s39 (.int 3) v88).bind fun l89 => (opM ixD l89 (.int 3)).bind fun v90 => (opM fdivD v90 (.int 83)).bind fun v91 => (opM ixD l89 (.int 3)).bind fun v92 => (fnM intD [v92]).bind fun v93 => (opM modD v93 (.int 7919)).bind fun v94 => (opM mulD v94 (.int 67)).bind fun v95 => (opM addD v91 v95).bind fun v96 => (fnM intD [v96]).bind fun v97 => (opM modD v97 x1).bind fun v98 => Res.ok (v98, l89)).nox
theorem FB__law_pull : FB 1 Gf__law_pull (fun b => ap1 (M__law_pull b)) :=
  fb_mk (n := 1) (pad := 3) (fun _ => rfl) (fun b ds h => by
    match ds, h with
    | [], _ => exact rfl
    | [_], h => exact (h rfl).elim
    | _ :: _ :: _, _ => exact rfl) (fun b ds x => by
    match ds with
    | [x1] => exact nox_ne _ x
    | [] => exact fun z => nomatch z
    | _ :: _ :: _ => exact fun z => nomatch z) fun x0 ds h => match ds, h with
    | [x1], _ => (show BS [some (.ow (some 0) x0), some (.va x1), none, none, none] G__law_pull (M__law_pull x0 x1) QTB from bs_eq (BS.nox (bs_seq (st_setIx 0 (EF.ev (ep_bin (EP.ec (ep_bin (ec_own 0 (some 0) x0 rfl) (EP.ec (ep_c (.int 4))))) (EP.ec (ep_c (.int 1))))) (fun _ => rfl) fun u1 => (ep_c (.int 4))) fun a2 => (bs_step (fun s26 => [some (.ow (some 0) s26), some (.va x1), none, none, none]) (bs_if (ebp_and (ebp_val (ep_bin (EP.ec (ep_bin (ec_own 0 (some 0) a2.2 rfl) (EP.ec (ep_c (.int 2))))) (EP.ec (ep_c (.int 0))))) (ebp_val (ep_bin (EP.ec (ep_bin (ec_own 0 (some 0) a2.2 rfl) (EP.ec (ep_c (.int 1))))) (EP.ec (ep_fn (eac_cons (EP.ec (ep_bin (ec_own 0 (some 0) a2.2 rfl) (EP.ec (ep_c (.int 0))))) eac_nil)))))) (fun c3 => (bs_seq (st_set 2 (EF.ev (ep_bin (EP.ec (ep_bin (ec_own 0 (some 0) a2.2 rfl) (EP.ec (ep_c (.int 0))))) (EP.ec (ep_bin (ec_own 0 (some 0) a2.2 rfl) (EP.ec (ep_c (.int 1)))))))) fun a15 => (bs_seq (st_setIx 0 (EF.ev (ep_bin (EP.ec (ep_bin (ec_own 0 (some 0) a2.2 rfl) (EP.ec (ep_c (.int 1))))) (EP.ec (ep_c (.int 1))))) (fun _ => rfl) fun u16 => (ep_c (.int 1))) fun a17 => (bs_step (fun s23 => [some (.ow (some 0) s23), some (.va x1), some (.va a15), none, none]) (bs_if (ebp_val (ep_bin (EP.ec (ep_name 2 a15 rfl)) (EP.ec (ep_bin (EP.ec (ep_c (.int 10))) (EP.ec (ep_c (.int 18))))))) (fun c18 => (bs_seq (st_setIx 0 (EF.ev (ep_name 2 a15 rfl)) (fun _ => rfl) fun u21 => (ep_c (.int 2))) fun a22 => (bs_nil a22.2 (fun _ m => ⟨rfl, m.weak (wk_s (wk_s (wk_s (wk_n (wk_n wk_e)))))⟩)))) fun c18 => (bs_nil a17.2 (fun _ m => ⟨rfl, m.weak (wk_s (wk_s (wk_s (wk_n (wk_n wk_e)))))⟩))) fun s23 => (bs_seq (st_setIx 0 (EF.ev (ep_bin (EP.ec (ep_fn (eac_cons (EP.ec (ep_bin (EP.ec (ep_bin (EP.ec (ep_bin (EP.ec (ep_bin (ec_own 0 (some 0) s23 rfl) (EP.ec (ep_c (.int 3))))) (EP.ec (ep_c (.int 43019))))) (EP.ec (ep_bin (EP.ec (ep_bin (EP.ec (ep_fn (eac_cons (EP.ec (ep_name 2 a15 rfl)) eac_nil))) (EP.ec (ep_c (.int 2147483269))))) (EP.ec (ep_c (.int 51197))))))) (EP.ec (ep_c (.int 73))))) eac_nil))) (EP.ec (ep_c (.int 2147483399))))) (fun _ => rfl) fun u24 => (ep_c (.int 3))) fun a25 => (bs_nil a25.2 (fun _ m => ⟨rfl, m.weak (wk_s (wk_s (wk_n (wk_n (wk_n wk_e)))))⟩))))))) fun c3 => (bs_nil a2.2 (fun _ m => ⟨rfl, m.weak (wk_s (wk_s (wk_n (wk_n (wk_n wk_e)))))⟩))) fun s26 => (bs_guard (ebp_val (ep_bin (EP.ec (ep_bin (ec_own 0 (some 0) s26 rfl) (EP.ec (ep_c (.int 2))))) (EP.ec (ep_c (.int 0))))) (fun c27 => (bs_seq (st_set 3 (EF.ev (ep_bin (EP.ec (ep_fn (eac_cons (EP.ec (ep_bin (ec_own 0 (some 0) s26 rfl) (EP.ec (ep_c (.int 2))))) eac_nil))) (EP.ec (ep_name 1 x1 rfl))))) fun a28 => (bs_seq (st_setIx 0 (EF.ev (ep_bin (EP.ec (ep_bin (ec_own 0 (some 0) s26 rfl) (EP.ec (ep_c (.int 2))))) (EP.ec (ep_name 1 x1 rfl)))) (fun _ => rfl) fun u29 => (ep_c (.int 2))) fun a30 => (bs_retVS (fun r31 => (r31, a30.2)) (EF.ev (ep_name 3 a28 rfl)) (fun a k r q m => ⟨(fun z => nomatch z), (fun _ _ _ q m => ⟨Or.inl ⟨_, rfl, q⟩, m.get rfl⟩) a k r q m⟩))))) fun c27 => (bs_seq (st_set 4 (EF.ev (ep_bin (ec_own 0 (some 0) s26 rfl) (EP.ec (ep_c (.int 3)))))) fun a32 => (bs_seq (st_setIx 0 (EF.ev (ep_bin (EP.ec (ep_fn (eac_cons (EP.ec (ep_bin (EP.ec (ep_bin (EP.ec (ep_bin (EP.ec (ep_bin (EP.ec (ep_name 4 a32 rfl)) (EP.ec (ep_c (.int 3))))) (EP.ec (ep_bin (EP.ec (ep_name 4 a32 rfl)) (EP.ec (ep_c (.int 37991))))))) (EP.ec (ep_bin (EP.ec (ep_bin (ec_own 0 (some 0) s26 rfl) (EP.ec (ep_c (.int 4))))) (EP.ec (ep_c (.int 1299689))))))) (EP.ec (ep_c (.int 70489))))) eac_nil))) (EP.ec (ep_c (.int 2147483399))))) (fun _ => rfl) fun u33 => (ep_c (.int 3))) fun a34 => (bs_retS (fun r35 => (r35, a34.2)) (ep_bin (EP.ec (ep_fn (eac_cons (EP.ec (ep_bin (EP.ec (ep_bin (EP.ec (ep_bin (ec_own 0 (some 0) a34.2 rfl) (EP.ec (ep_c (.int 3))))) (EP.ec (ep_c (.int 83))))) (EP.ec (ep_bin (EP.ec (ep_bin (EP.ec (ep_fn (eac_cons (EP.ec (ep_bin (ec_own 0 (some 0) a34.2 rfl) (EP.ec (ep_c (.int 3))))) eac_nil))) (EP.ec (ep_c (.int 7919))))) (EP.ec (ep_c (.int 67))))))) eac_nil))) (EP.ec (ep_name 1 x1 rfl))) (fun _ _ _ q m => ⟨Or.inl ⟨_, rfl, q⟩, m.get rfl⟩)))))))) (by dsimp only [ap0, ap1, ap2, ap3, ap4, ap5]; unfold M__law_pull; with_reducible rfl))
def M__law_any (x0 : D) (x1 : D) : Res (D × D) :=
  ((fnM lenD [x1]).bind fun v3 => (M__law_pull x0 v3).bind fun t4 => (opM ixD x1 t4.1).bind fun v5 => Res.ok (v5, t4.2)).nox
theorem FB__law_any : FB 1 Gf__law_any (fun b => ap1 (M__law_any b)) :=
  fb_mk (n := 1) (pad := 0) (fun _ => rfl) (fun b ds h => by
    match ds, h with
    | [], _ => exact rfl
    | [_], h => exact (h rfl).elim
    | _ :: _ :: _, _ => exact rfl) (fun b ds x => by
    match ds with
    | [x1] => exact nox_ne _ x
    | [] => exact fun z => nomatch z
    | _ :: _ :: _ => exact fun z => nomatch z) fun x0 ds h => match ds, h with
    | [x1], _ => (show BS [some (.ow (some 0) x0), some (.va x1)] G__law_any (M__law_any x0 x1) QTB from bs_eq (BS.nox (bs_retS (fun r2 => (r2.2.2, r2.2.1.2.2)) (ef_bin (ep_name 1 x1 rfl) fun u1 => (ef_callB FB__law_pull (eab_cons 0 (some 0) x0 rfl (ea_cons (ep_fn (eac_cons (EP.ec (ep_name 1 x1 rfl)) eac_nil)) ea_nil)) (fun _ => rfl))) (fun _ _ _ q m => ⟨Or.inl ⟨_, rfl, q⟩, m.get rfl⟩))) (by dsimp only [ap0, ap1, ap2, ap3, ap4, ap5]; unfold M__law_any; with_reducible rfl))
def Mb__law_like (Mr : D → D → Res D) (x0 : D) (x1 : D) : Res D :=
  (isiM [.dict] x1).bind fun v23 => (asB v23).bind fun b22 => if b22 then (isiM [.dict] x0).bind fun v25 => (asB v25).bind fun b24 => (if (!b24) then Res.ok true else (fnM lenD [x0]).bind fun v27 => (fnM lenD [x1]).bind fun v28 => (opM neD v27 v28).bind fun v29 => (asB v29).bind fun b26 => Res.ok b26).bind fun b30 => if b30 then Res.ok (.bl false) else (itM x1).bind fun ds31 => (few ds31 (mapR (fun d32 => (opM inSD d32 x0).bind fun v34 => (asB v34).bind fun b33 => (if b33 then (opM ixD x0 d32).bind fun v35 => (opM ixD x1 d32).bind fun v36 => (Mr v35 v36).bind fun v37 => Res.ok v37 else Res.ok (.bl false)).bind fun v38 => Res.ok v38) ds31)).bind fun l39 => (fnM allD [(.lst l39)]).bind fun v40 => Res.ok v40 else (isiM [.list, .tuple] x1).bind fun v42 => (asB v42).bind fun b41 => if b41 then (isiM [.list] x0).bind fun v44 => (isiM [.list] x1).bind fun v45 => (opM neD v44 v45).bind fun v46 => (asB v46).bind fun b43 => (if b43 then Res.ok true else (isiM [.tuple] x0).bind fun v48 => (isiM [.tuple] x1).bind fun v49 => (opM neD v48 v49).bind fun v50 => (asB v50).bind fun b47 => Res.ok b47).bind fun b51 => if b51 then Res.ok (.bl false) else (fnM lenD [x0]).bind fun v53 => (fnM lenD [x1]).bind fun v54 => (opM eqD v53 v54).bind fun v55 => (asB v55).bind fun b52 => (if b52 then (zipM2 [x0, x1]).bind fun ds56 => (few ds56 (mapR (fun d57 => un2 d57 fun x58 x59 => (Mr x58 x59).bind fun v60 => Res.ok v60) ds56)).bind fun l61 => (fnM allD [(.lst l61)]).bind fun v62 => Res.ok v62 else Res.ok (.bl false)).bind fun v63 => Res.ok v63 else (opM isND x1 .non).bind fun v65 => (asB v65).bind fun b64 => (if b64 then Res.ok true else (opM isND x0 .non).bind fun v67 => (asB v67).bind fun b66 => Res.ok b66).bind fun b68 => if b68 then (opM isND x1 .non).bind fun v70 => (asB v70).bind fun b69 => (if b69 then (opM isND x0 .non).bind fun v71 => Res.ok v71 else Res.ok (.bl false)).bind fun v72 => Res.ok v72 else (isiM [.bool] x0).bind fun v74 => (isiM [.bool] x1).bind fun v75 => (opM neD v74 v75).bind fun v76 => (asB v76).bind fun b73 => (if b73 then Res.ok true else (isiM [.int] x0).bind fun v78 => (isiM [.int] x1).bind fun v79 => (opM neD v78 v79).bind fun v80 => (asB v80).bind fun b77 => Res.ok b77).bind fun b81 => if b81 then Res.ok (.bl false) else (isiM [.str] x0).bind fun v83 => (isiM [.str] x1).bind fun v84 => (opM eqD v83 v84).bind fun v85 => (asB v85).bind fun b82 => (if b82 then (opM eqD x0 x1).bind fun v86 => Res.ok v86 else Res.ok (.bl false)).bind fun v87 => Res.ok v87
def M__law_like : Nat → D → D → Res D
  | 0 => fun _ _ => .bad
  | d + 1 => Mb__law_like (M__law_like d)
theorem F__law_like : ∀ d : Nat, FM 2 (Gf__law_like d) (ap2 (M__law_like d))
  | 0 => ⟨fun ds h => by
    match ds, h with
    | [_, _], _ => exact True.intro, fun ds h => by
    match ds, h with
    | [], _ => exact rfl
    | [_], _ => exact rfl
    | [_, _], h => exact (h rfl).elim
    | _ :: _ :: _ :: _, _ => exact rfl⟩
  | d + 1 => fm_mk (n := 2) (pad := 3) (fun _ => rfl) (fun ds h => by
    match ds, h with
    | [], _ => exact rfl
    | [_], _ => exact rfl
    | [_, _], h => exact (h rfl).elim
    | _ :: _ :: _ :: _, _ => exact rfl) fun ds h => match ds, h with
    | [x0, x1], _ => (show BS [some (.va x0), some (.va x1), none, none, none] (G__law_like (Gf__law_like d)) (M__law_like (d + 1) x0 x1) QT from bs_eq (bs_guard (ebp_val (ep_isi (EP.ec (ep_name 1 x1 rfl)))) (fun c1 => (bs_guard (ebp_or (ebp_not (ebp_val (ep_isi (EP.ec (ep_name 0 x0 rfl))))) (ebp_val (ep_bin (EP.ec (ep_fn (eac_cons (EP.ec (ep_name 0 x0 rfl)) eac_nil))) (EP.ec (ep_fn (eac_cons (EP.ec (ep_name 1 x1 rfl)) eac_nil)))))) (fun c2 => (bs_retS (fun r3 => r3) (ep_c (.bl false)) (fun a k r q m => ⟨(fun z => nomatch z), (fun a k r q m => ⟨(fun z => nomatch z), (fun _ _ _ q _ => Or.inl ⟨_, rfl, q⟩) a k r q m⟩) a k r q m⟩))) fun c2 => (bs_retS (fun r8 => r8) (ep_fn (eac_cons (EP.ec (EW.ef (ewp_map (eip_seq (ep_name 1 x1 rfl)) rfl fun _ => cb_map (tg_name 2) (fun t5 => (ep_and (ep_bin (EP.ec (ep_name 2 t5 rfl)) (EP.ec (ep_name 0 x0 rfl))) (ep_call (F__law_like d) (ea_cons (ep_bin (EP.ec (ep_name 0 x0 rfl)) (EP.ec (ep_name 2 t5 rfl))) (ea_cons (ep_bin (EP.ec (ep_name 1 x1 rfl)) (EP.ec (ep_name 2 t5 rfl))) ea_nil))))) fun _ => (wk_s (wk_s (wk_n (wk_n (wk_n wk_e)))))))) eac_nil)) (fun a k r q m => ⟨(fun z => nomatch z), (fun _ _ _ q _ => Or.inl ⟨_, rfl, q⟩) a k r q m⟩)))) fun c1 => (bs_guard (ebp_val (ep_isi (EP.ec (ep_name 1 x1 rfl)))) (fun c9 => (bs_guard (ebp_or (ebp_val (ep_bin (EP.ec (ep_isi (EP.ec (ep_name 0 x0 rfl)))) (EP.ec (ep_isi (EP.ec (ep_name 1 x1 rfl)))))) (ebp_val (ep_bin (EP.ec (ep_isi (EP.ec (ep_name 0 x0 rfl)))) (EP.ec (ep_isi (EP.ec (ep_name 1 x1 rfl))))))) (fun c10 => (bs_retS (fun r11 => r11) (ep_c (.bl false)) (fun a k r q m => ⟨(fun z => nomatch z), (fun a k r q m => ⟨(fun z => nomatch z), (fun _ _ _ q _ => Or.inl ⟨_, rfl, q⟩) a k r q m⟩) a k r q m⟩))) fun c10 => (bs_retS (fun r16 => r16) (ep_and (ep_bin (EP.ec (ep_fn (eac_cons (EP.ec (ep_name 0 x0 rfl)) eac_nil))) (EP.ec (ep_fn (eac_cons (EP.ec (ep_name 1 x1 rfl)) eac_nil)))) (ep_fn (eac_cons (EP.ec (EW.ef (ewp_map (eip_zip2 (ea_cons (ep_name 0 x0 rfl) (ea_cons (ep_name 1 x1 rfl) ea_nil))) rfl fun _ => cb_map (tg_tup2 (fun _ => (tg_name 3)) fun _ _ => (tg_name 4)) (fun t13 => (ep_call (F__law_like d) (ea_cons (ep_name 3 t13.1 rfl) (ea_cons (ep_name 4 t13.2 rfl) ea_nil)))) fun _ => (wk_s (wk_s (wk_n (wk_n (wk_n wk_e)))))))) eac_nil))) (fun a k r q m => ⟨(fun z => nomatch z), (fun _ _ _ q _ => Or.inl ⟨_, rfl, q⟩) a k r q m⟩)))) fun c9 => (bs_guard (ebp_or (ebp_val (ep_bin (EP.ec (ep_name 1 x1 rfl)) (EP.ec (ep_c .non)))) (ebp_val (ep_bin (EP.ec (ep_name 0 x0 rfl)) (EP.ec (ep_c .non))))) (fun c17 => (bs_retS (fun r18 => r18) (ep_and (ep_bin (EP.ec (ep_name 1 x1 rfl)) (EP.ec (ep_c .non))) (ep_bin (EP.ec (ep_name 0 x0 rfl)) (EP.ec (ep_c .non)))) (fun a k r q m => ⟨(fun z => nomatch z), (fun _ _ _ q _ => Or.inl ⟨_, rfl, q⟩) a k r q m⟩))) fun c17 => (bs_guard (ebp_or (ebp_val (ep_bin (EP.ec (ep_isi (EP.ec (ep_name 0 x0 rfl)))) (EP.ec (ep_isi (EP.ec (ep_name 1 x1 rfl)))))) (ebp_val (ep_bin (EP.ec (ep_isi (EP.ec (ep_name 0 x0 rfl)))) (EP.ec (ep_isi (EP.ec (ep_name 1 x1 rfl))))))) (fun c19 => (bs_retS (fun r20 => r20) (ep_c (.bl false)) (fun a k r q m => ⟨(fun z => nomatch z), (fun _ _ _ q _ => Or.inl ⟨_, rfl, q⟩) a k r q m⟩))) fun c19 => (bs_retS (fun r21 => r21) (ep_and (ep_bin (EP.ec (ep_isi (EP.ec (ep_name 0 x0 rfl)))) (EP.ec (ep_isi (EP.ec (ep_name 1 x1 rfl))))) (ep_bin (EP.ec (ep_name 0 x0 rfl)) (EP.ec (ep_name 1 x1 rfl)))) (fun _ _ _ q _ => Or.inl ⟨_, rfl, q⟩)))))) (by dsimp only [ap0, ap1, ap2, ap3, ap4, ap5]; show _ = Mb__law_like (M__law_like d) x0 x1; unfold Mb__law_like; with_reducible rfl))
theorem FM__law_like : FM 2 (Gf__law_like 3) (ap2 (M__law_like 3)) := F__law_like 3
def M__law_prime (x0 : D) : Res (D × D) :=
  ((lstM [(.int 10007), (.int 10007), (.int 10009), (.int 65537), (.int 104729), (.int 999983)]).bind fun v2 => (M__law_any x0 v2).bind fun t3 => Res.ok (t3.1, t3.2)).nox
theorem FB__law_prime : FB 0 Gf__law_prime (fun b => ap0 (M__law_prime b)) :=
  fb_mk (n := 0) (pad := 0) (fun _ => rfl) (fun b ds h => by
    match ds, h with
    | [], h => exact (h rfl).elim
    | _ :: _, _ => exact rfl) (fun b ds x => by
    match ds with
    | [] => exact nox_ne _ x
    | _ :: _ => exact fun z => nomatch z) fun x0 ds h => match ds, h with
    | [], _ => (show BS [some (.ow (some 0) x0)] G__law_prime (M__law_prime x0) QTB from bs_eq (BS.nox (bs_retS (fun r1 => (r1.2.1, r1.2.2)) (ef_callB FB__law_any (eab_cons 0 (some 0) x0 rfl (ea_cons (EW.ef (ewp_list (ea_cons (ep_c (.int 10007)) (ea_cons (ep_c (.int 10007)) (ea_cons (ep_c (.int 10009)) (ea_cons (ep_c (.int 65537)) (ea_cons (ep_c (.int 104729)) (ea_cons (ep_c (.int 999983)) ea_nil)))))))) ea_nil)) (fun _ => rfl)) (fun _ _ _ q m => ⟨Or.inl ⟨_, rfl, q⟩, m.get rfl⟩))) (by dsimp only [ap0, ap1, ap2, ap3, ap4, ap5]; unfold M__law_prime; with_reducible rfl))
def M__law_letter (x0 : D) (x1 : D) : Res (D × D) :=
  ((opM subD x1 (.int 1)).bind fun v9 => (M__law_pull x0 (.int 4)).bind fun t10 => (M__law_pull t10.2 x1).bind fun t11 => (lstM [(.int 0), (.int 0), (.int 1), v9, t10.1, t11.1]).bind fun v12 => (M__law_any t11.2 v12).bind fun t13 => Res.ok (t13.1, t13.2)).nox
theorem FB__law_letter : FB 1 Gf__law_letter (fun b => ap1 (M__law_letter b)) :=
  fb_mk (n := 1) (pad := 0) (fun _ => rfl) (fun b ds h => by
    match ds, h with
    | [], _ => exact rfl
    | [_], h => exact (h rfl).elim
    | _ :: _ :: _, _ => exact rfl) (fun b ds x => by
    match ds with
    | [x1] => exact nox_ne _ x
    | [] => exact fun z => nomatch z
    | _ :: _ :: _ => exact fun z => nomatch z) fun x0 ds h => match ds, h with
    | [x1], _ => (show BS [some (.ow (some 0) x0), some (.va x1)] G__law_letter (M__law_letter x0 x1) QTB from bs_eq (BS.nox (bs_retS (fun r8 => (r8.2.1, r8.2.2)) (ef_callB FB__law_any (eab_cons 0 (some 0) x0 rfl (ea_consF (EF.ev (EW.ef (ew_list (ea_consF (EF.ev (ep_c (.int 0))) fun u1 => (ea_consF (EF.ev (ep_c (.int 0))) fun u2 => (ea_consF (EF.ev (ep_c (.int 1))) fun u3 => (ea_consF (EF.ev (ep_bin (EP.ec (ep_name 1 x1 rfl)) (EP.ec (ep_c (.int 1))))) fun u4 => (ea_consF (EF.ev (ef_callB FB__law_pull (eab_cons 0 (some 0) x0 rfl (ea_cons (ep_c (.int 4)) ea_nil)) (fun _ => rfl))) fun u5 => (ea_consF (EF.ev (ef_callB FB__law_pull (eab_cons 0 (some 0) u5.2.2 rfl (ea_cons (ep_name 1 x1 rfl) ea_nil)) (fun _ => rfl))) fun u6 => ea_nil))))))))) fun u7 => ea_nil)) (fun _ => rfl)) (fun _ _ _ q m => ⟨Or.inl ⟨_, rfl, q⟩, m.get rfl⟩))) (by dsimp only [ap0, ap1, ap2, ap3, ap4, ap5]; unfold M__law_letter; with_reducible rfl))
def M__law_vector (x0 : D) (x1 : D) (x2 : D) : Res (D × D) :=
  ((rng1M [x2]).bind fun ds6 => (few ds6 (mapS (fun s8 d7 => (M__law_letter s8 x1).bind fun t9 => Res.ok (t9.1, t9.2)) ds6 x0)).bind fun l10 => Res.ok ((.lst l10.1), l10.2)).nox
theorem FB__law_vector : FB 2 Gf__law_vector (fun b => ap2 (M__law_vector b)) :=
  fb_mk (n := 2) (pad := 1) (fun _ => rfl) (fun b ds h => by
    match ds, h with
    | [], _ => exact rfl
    | [_], _ => exact rfl
    | [_, _], h => exact (h rfl).elim
    | _ :: _ :: _ :: _, _ => exact rfl) (fun b ds x => by
    match ds with
    | [x1, x2] => exact nox_ne _ x
    | [] => exact fun z => nomatch z
    | [_] => exact fun z => nomatch z
    | _ :: _ :: _ :: _ => exact fun z => nomatch z) fun x0 ds h => match ds, h with
    | [x1, x2], _ => (show BS [some (.ow (some 0) x0), some (.va x1), some (.va x2), none] G__law_vector (M__law_vector x0 x1 x2) QTB from bs_eq (BS.nox (bs_retS (fun r5 => ((.lst r5.2.1), r5.2.2)) (EW.ef (ew_mapS (pS := fun a1 s3 => [some (.ow (some 0) s3), some (.va x1), some (.va x2), none]) (s0 := fun a1 => x0) (eip_rng1 (ea_cons (ep_name 2 x2 rfl) ea_nil)) (fun _ => (wk_s (wk_s (wk_s (wk_n wk_e))))) (fun _ _ => rfl) fun a1 s3 _ => cb_mapS (p := fun s3 => [some (.ow (some 0) s3), some (.va x1), some (.va x2), none]) (s := s3) (fun t2 e4 => e4.2.2) (tg_name 3) (fun t2 => (EF.ev (ef_callB FB__law_letter (eab_cons 0 (some 0) s3 rfl (ea_cons (ep_name 1 x1 rfl) ea_nil)) (fun _ => rfl)))) fun _ _ => (wk_s (wk_s (wk_s (wk_n wk_e)))))) (fun _ _ _ q m => ⟨Or.inl ⟨_, rfl, q⟩, m.get rfl⟩))) (by dsimp only [ap0, ap1, ap2, ap3, ap4, ap5]; unfold M__law_vector; with_reducible rfl))
def M__law_sum_of (x0 : D) (x1 : D) (x2 : D) (x3 : D) : Res D :=
  (lstM [(.int 0)]).bind fun v17 => (opM mulD v17 x3).bind fun v18 => (zipM2 [x0, x1]).bind fun ds19 => (foldR (fun s21 d20 => un2 d20 fun x23 x24 => (zipM2 [s21, x24]).bind fun ds25 => (few ds25 (mapR (fun d26 => un2 d26 fun x27 x28 => (opM mulD x23 x28).bind fun v29 => (opM addD x27 v29).bind fun v30 => (fnM intD [v30]).bind fun v31 => (opM modD v31 x2).bind fun v32 => Res.ok v32) ds25)).bind fun l33 => Res.ok (.lst l33)) ds19 v18).bind fun s22 => Res.ok s22
theorem FM__law_sum_of : FM 4 Gf__law_sum_of (ap4 M__law_sum_of) :=
  fm_mk (n := 4) (pad := 5) (fun _ => rfl) (fun ds h => by
    match ds, h with
    | [], _ => exact rfl
    | [_], _ => exact rfl
    | [_, _], _ => exact rfl
    | [_, _, _], _ => exact rfl
    | [_, _, _, _], h => exact (h rfl).elim
    | _ :: _ :: _ :: _ :: _ :: _, _ => exact rfl) fun ds h => match ds, h with
    | [x0, x1, x2, x3], _ => (show BS [some (.va x0), some (.va x1), some (.va x2), some (.va x3), none, none, none, none, none] G__law_sum_of (M__law_sum_of x0 x1 x2 x3) QT from bs_eq (bs_seq (st_set 4 (EF.ev (ep_bin (EP.ec (EW.ef (ewp_list (ea_cons (ep_c (.int 0)) ea_nil)))) (EP.ec (ep_name 3 x3 rfl))))) fun a1 => (bs_for (fun a2 s8 => [none, none, some (.va x2), none, some (.va s8), none, none, none, none]) (fun a2 => a1) (eip_zip2 (ea_cons (ep_name 0 x0 rfl) (ea_cons (ep_name 1 x1 rfl) ea_nil))) (fun _ => (wk_n (wk_n (wk_s (wk_n (wk_s (wk_n (wk_n (wk_n (wk_n wk_e)))))))))) (fun a2 s8 d9 => sim_body (tg_tup2 (fun _ => (tg_name 5)) fun _ _ => (tg_name 6)) fun t10 => (bs_seq (st_set 4 (EF.ev (EW.ef (ewp_map (eip_zip2 (ea_cons (ep_name 4 s8 rfl) (ea_cons (ep_name 6 t10.2 rfl) ea_nil))) rfl fun _ => cb_map (tg_tup2 (fun _ => (tg_name 7)) fun _ _ => (tg_name 8)) (fun t12 => (ep_bin (EP.ec (ep_fn (eac_cons (EP.ec (ep_bin (EP.ec (ep_name 7 t12.1 rfl)) (EP.ec (ep_bin (EP.ec (ep_name 5 t10.1 rfl)) (EP.ec (ep_name 8 t12.2 rfl)))))) eac_nil))) (EP.ec (ep_name 2 x2 rfl)))) fun _ => (wk_n (wk_n (wk_s (wk_n (wk_s (wk_s (wk_s (wk_n (wk_n wk_e))))))))))))) fun a15 => (bs_nil a15 (fun _ m => ⟨Or.inl rfl, m.weak (wk_n (wk_n (wk_s (wk_n (wk_s (wk_n (wk_n (wk_n (wk_n wk_e)))))))))⟩)))) fun a2 s8 => (bs_retVS (fun r16 => r16) (EF.ev (ep_name 4 s8 rfl)) (fun _ _ _ q _ => Or.inl ⟨_, rfl, q⟩)))) (by dsimp only [ap0, ap1, ap2, ap3, ap4, ap5]; unfold M__law_sum_of; with_reducible rfl))
def M__law_rank (x0 : D) (x1 : D) : Res D :=
  (itM x0).bind fun ds78 => (few ds78 (mapR (fun d79 => (newM listD [d79]).bind fun v80 => Res.ok v80) ds78)).bind fun l81 => (tupM [(.lst l81), (.int 0)]).bind fun v82 => un2 v82 fun x83 x84 => (lstM []).bind fun v86 => (opM neD x83 v86).bind fun v87 => (asB v87).bind fun b85 => (if b85 then (opM ixD x83 (.int 0)).bind fun v88 => (fnM lenD [v88]).bind fun v89 => Res.ok v89 else Res.ok (.int 0)).bind fun v90 => (rng1M [v90]).bind fun ds91 => (foldR (fun s93 d92 => (fnM lenD [s93.1]).bind fun v95 => (rng1M [v95]).bind fun ds96 => (few ds96 (filR (fun d97 => (opM ixD s93.1 d97).bind fun v99 => (opM ixD v99 d92).bind fun v100 => (opM neD v100 (.int 0)).bind fun v101 => (asB v101).bind fun b98 => if b98 then Res.ok (some d97) else Res.ok none) ds96)).bind fun l102 => (lstM []).bind fun v104 => (opM neD (.lst l102) v104).bind fun v105 => (asB v105).bind fun b103 => if b103 then (opM ixD (.lst l102) (.int 0)).bind fun v106 => (opM ixD s93.1 v106).bind fun v107 => (opM addD s93.2 (.int 1)).bind fun v108 => (opM ixD v107 d92).bind fun v109 => (lstM []).bind fun v110 => (fnM lenD [s93.1]).bind fun v111 => (rng1M [v111]).bind fun ds112 => (foldR (fun s114 d113 => (opM ixD (.lst l102) (.int 0)).bind fun v117 => (opM neD d113 v117).bind fun v118 => (asB v118).bind fun b116 => if b116 then (opM ixD s93.1 d113).bind fun v119 => (opM ixD s93.1 d113).bind fun v120 => (opM ixD v120 d92).bind fun v121 => (tupM [v119, v121]).bind fun v122 => un2 v122 fun x123 x124 => (lstOf s114).bind fun _ => (opM eqD x124 (.int 0)).bind fun v126 => (asB v126).bind fun b125 => (if b125 then Res.ok x123 else (zipM2 [x123, v107]).bind fun ds127 => (few ds127 (mapR (fun d128 => un2 d128 fun x129 x130 => (opM mulD x129 v109).bind fun v131 => (opM mulD x130 x124).bind fun v132 => (opM subD v131 v132).bind fun v133 => (fnM intD [v133]).bind fun v134 => (opM modD v134 x1).bind fun v135 => Res.ok v135) ds127)).bind fun l136 => Res.ok (.lst l136)).bind fun v137 => (apM s114 v137).bind fun l138 => Res.ok l138 else Res.ok s114) ds112 v110).bind fun s115 => Res.ok (s115, v108) else Res.ok (s93.1, s93.2)) ds91 (x83, x84)).bind fun s94 => Res.ok s94.2
theorem FM__law_rank : FM 2 Gf__law_rank (ap2 M__law_rank) :=
  fm_mk (n := 2) (pad := 13) (fun _ => rfl) (fun ds h => by
    match ds, h with
    | [], _ => exact rfl
    | [_], _ => exact rfl
    | [_, _], h => exact (h rfl).elim
    | _ :: _ :: _ :: _, _ => exact rfl) fun ds h => match ds, h with
    | [x0, x1], _ => (show BS [some (.va x0), some (.va x1), none, none, none, none, none, none, none, none, none, none, none, none, none] G__law_rank (M__law_rank x0 x1) QT from bs_eq (bs_seq (st_asg (EF.ev (ep_tup (ea_cons (EW.ef (ewp_map (eip_seq (ep_name 0 x0 rfl)) rfl fun _ => cb_map (tg_name 12) (fun t2 => (EW.ef (ew_fn (eac_cons (EP.ec (ep_name 12 t2 rfl)) eac_nil)))) fun _ => (wk_s (wk_s (wk_n (wk_n (wk_n (wk_n (wk_n (wk_n (wk_n (wk_n (wk_n (wk_n (wk_n (wk_n (wk_n wk_e))))))))))))))))) (ea_cons (ep_c (.int 0)) ea_nil)))) fun _ => (tg_tup2 (fun _ => (tg_name 2)) fun _ _ => (tg_name 3))) fun a5 => (bs_for (fun a7 s41 => [none, some (.va x1), some (.va s41.1), some (.va s41.2), none, none, none, none, none, none, none, none, none, none, none]) (fun a7 => (a5.2.1, a5.2.2)) (eip_rng1 (ea_cons (ep_if (ebp_val (ep_bin (EP.ec (ep_name 2 a5.2.1 rfl)) (EP.ec (EW.ef (ewp_list ea_nil))))) (ep_fn (eac_cons (EP.ec (ep_bin (EP.ec (ep_name 2 a5.2.1 rfl)) (EP.ec (ep_c (.int 0))))) eac_nil)) (ep_c (.int 0))) ea_nil)) (fun _ => (wk_n (wk_s (wk_s (wk_s (wk_n (wk_n (wk_n (wk_n (wk_n (wk_n (wk_n (wk_n (wk_n (wk_n (wk_n wk_e)))))))))))))))) (fun a7 s41 d42 => sim_body (tg_name 4) fun t43 => (bs_seq (st_set 5 (EF.ev (EW.ef (ewp_fil (eip_rng1 (ea_cons (ep_fn (eac_cons (EP.ec (ep_name 2 s41.1 rfl)) eac_nil)) ea_nil)) rfl fun _ => cb_fil (tg_name 9) (fun t45 => (ebp_val (ep_bin (EP.ec (ep_bin (EP.ec (ep_bin (EP.ec (ep_name 2 s41.1 rfl)) (EP.ec (ep_name 9 t45 rfl)))) (EP.ec (ep_name 4 t43 rfl)))) (EP.ec (ep_c (.int 0)))))) (fun t45 => (ep_name 9 t45 rfl)) fun _ => (wk_n (wk_s (wk_s (wk_s (wk_s (wk_n (wk_n (wk_n (wk_n (wk_n (wk_n (wk_n (wk_n (wk_n (wk_n wk_e))))))))))))))))))) fun a48 => (bs_last (bs_if (ebp_val (ep_bin (EP.ec (ep_name 5 a48 rfl)) (EP.ec (EW.ef (ewp_list ea_nil))))) (fun c49 => (bs_seq (st_parVV 6 3 (EF.ev (ep_bin (EP.ec (ep_name 2 s41.1 rfl)) (EP.ec (ep_bin (EP.ec (ep_name 5 a48 rfl)) (EP.ec (ep_c (.int 0))))))) (fun u50 => (EF.ev (ep_bin (EP.ec (ep_name 3 s41.2 rfl)) (EP.ec (ep_c (.int 1))))))) fun a52 => (bs_seq (st_parVO 7 8 (EF.ev (ep_bin (EP.ec (ep_name 6 a52.1 rfl)) (EP.ec (ep_name 4 t43 rfl)))) (fun u53 => (ewp_list ea_nil))) fun a55 => (bs_for (fun a56 s65 => [none, some (.va x1), some (.va s41.1), some (.va a52.2), some (.va t43), some (.va a48), some (.va a52.1), some (.va a55.1), some (.ow none s65), none, none, none, none, none, none]) (fun a56 => a55.2) (eip_rng1 (ea_cons (ep_fn (eac_cons (EP.ec (ep_name 2 s41.1 rfl)) eac_nil)) ea_nil)) (fun _ => (wk_n (wk_s (wk_s (wk_s (wk_s (wk_s (wk_s (wk_s (wk_s (wk_n (wk_n (wk_n (wk_n (wk_n (wk_n wk_e)))))))))))))))) (fun a56 s65 d66 => sim_body (tg_name 9) fun t67 => (bs_last (bs_if (ebp_val (ep_bin (EP.ec (ep_name 9 t67 rfl)) (EP.ec (ep_bin (EP.ec (ep_name 5 a48 rfl)) (EP.ec (ep_c (.int 0))))))) (fun c68 => (bs_seq (st_asg (EF.ev (ep_tup (ea_cons (ep_bin (EP.ec (ep_name 2 s41.1 rfl)) (EP.ec (ep_name 9 t67 rfl))) (ea_cons (ep_bin (EP.ec (ep_bin (EP.ec (ep_name 2 s41.1 rfl)) (EP.ec (ep_name 9 t67 rfl)))) (EP.ec (ep_name 4 t43 rfl))) ea_nil)))) fun _ => (tg_tup2 (fun _ => (tg_name 10)) fun _ _ => (tg_name 11))) fun a69 => (bs_seq (st_drop (ef_app 8 none s65 rfl (EF.ev (ep_if (ebp_val (ep_bin (EP.ec (ep_name 11 a69.2.2 rfl)) (EP.ec (ep_c (.int 0))))) (ep_name 10 a69.2.1 rfl) (EW.ef (ewp_map (eip_zip2 (ea_cons (ep_name 10 a69.2.1 rfl) (ea_cons (ep_name 6 a52.1 rfl) ea_nil))) rfl fun _ => cb_map (tg_tup2 (fun _ => (tg_name 13)) fun _ _ => (tg_name 14)) (fun t71 => (ep_bin (EP.ec (ep_fn (eac_cons (EP.ec (ep_bin (EP.ec (ep_bin (EP.ec (ep_name 13 t71.1 rfl)) (EP.ec (ep_name 7 a55.1 rfl)))) (EP.ec (ep_bin (EP.ec (ep_name 14 t71.2 rfl)) (EP.ec (ep_name 11 a69.2.2 rfl)))))) eac_nil))) (EP.ec (ep_name 1 x1 rfl)))) fun _ => (wk_n (wk_s (wk_s (wk_s (wk_s (wk_s (wk_s (wk_s (wk_s (wk_s (wk_s (wk_s (wk_n (wk_n (wk_n wk_e))))))))))))))))))) fun _ => rfl)) fun a75 => (bs_nil a75.2 (fun _ m => ⟨Or.inl rfl, m.weak (wk_n (wk_s (wk_s (wk_s (wk_s (wk_s (wk_s (wk_s (wk_s (wk_n (wk_n (wk_n (wk_n (wk_n (wk_n wk_e)))))))))))))))⟩))))) fun c68 => (bs_nil s65 (fun _ m => ⟨Or.inl rfl, m.weak (wk_n (wk_s (wk_s (wk_s (wk_s (wk_s (wk_s (wk_s (wk_s (wk_n (wk_n (wk_n (wk_n (wk_n (wk_n wk_e)))))))))))))))⟩))))) fun a56 s65 => (bs_seq (st_set 2 (ev_own 8 none s65 rfl)) fun a76 => (bs_nil (a76, a52.2) (fun _ m => ⟨Or.inl rfl, m.weak (wk_n (wk_s (wk_s (wk_s (wk_n (wk_n (wk_n (wk_n (wk_n (wk_n (wk_n (wk_n (wk_n (wk_n (wk_n wk_e)))))))))))))))⟩))))))) fun c49 => (bs_nil (s41.1, s41.2) (fun _ m => ⟨Or.inl rfl, m.weak (wk_n (wk_s (wk_s (wk_s (wk_n (wk_n (wk_n (wk_n (wk_n (wk_n (wk_n (wk_n (wk_n (wk_n (wk_n wk_e)))))))))))))))⟩)))))) fun a7 s41 => (bs_retVS (fun r77 => r77) (EF.ev (ep_name 3 s41.2 rfl)) (fun _ _ _ q _ => Or.inl ⟨_, rfl, q⟩)))) (by dsimp only [ap0, ap1, ap2, ap3, ap4, ap5]; unfold M__law_rank; with_reducible rfl))
def M__law_lies (x0 : D) (x1 : D) (x2 : D) : Res D :=
  (newM listD [x1]).bind fun v2 => (lstM [x0]).bind fun v3 => (opM addD v2 v3).bind fun v4 => (M__law_rank v4 x2).bind fun v5 => (M__law_rank x1 x2).bind fun v6 => (opM eqD v5 v6).bind fun v7 => Res.ok v7
theorem FM__law_lies : FM 3 Gf__law_lies (ap3 M__law_lies) :=
  fm_mk (n := 3) (pad := 0) (fun _ => rfl) (fun ds h => by
    match ds, h with
    | [], _ => exact rfl
    | [_], _ => exact rfl
    | [_, _], _ => exact rfl
    | [_, _, _], h => exact (h rfl).elim
    | _ :: _ :: _ :: _ :: _, _ => exact rfl) fun ds h => match ds, h with
    | [x0, x1, x2], _ => (show BS [some (.va x0), some (.va x1), some (.va x2)] G__law_lies (M__law_lies x0 x1 x2) QT from bs_eq (bs_retS (fun r1 => r1) (ep_bin (EP.ec (ep_call FM__law_rank (ea_cons (ep_bin (EP.ec (EW.ef (ew_fn (eac_cons (EP.ec (ep_name 1 x1 rfl)) eac_nil)))) (EP.ec (EW.ef (ewp_list (ea_cons (ep_name 0 x0 rfl) ea_nil))))) (ea_cons (ep_name 2 x2 rfl) ea_nil)))) (EP.ec (ep_call FM__law_rank (ea_cons (ep_name 1 x1 rfl) (ea_cons (ep_name 2 x2 rfl) ea_nil))))) (fun _ _ _ q _ => Or.inl ⟨_, rfl, q⟩)) (by dsimp only [ap0, ap1, ap2, ap3, ap4, ap5]; unfold M__law_lies; with_reducible rfl))
def M_law (x0 : D) : Res D :=
  (M__law_draws x0).bind fun v120 => (rng1M [(.int 5)]).bind fun ds121 => (loopR (fun s123 d122 => (M__law_prime s123).bind fun t125 => (M__law_pull t125.2 (.int 5)).bind fun t126 => (opM addD (.int 1) t126.1).bind fun v127 => (tupM [t125.1, v127]).bind fun v128 => un2 v128 fun x129 x130 => (M__law_pull t126.2 (.int 5)).bind fun t131 => (rng1M [t131.1]).bind fun ds132 => (few ds132 (mapS (fun s134 d133 => (M__law_vector s134 x129 x130).bind fun t135 => Res.ok (t135.1, t135.2)) ds132 t131.2)).bind fun l136 => (M__law_pull l136.2 (.int 2)).bind fun t138 => (asI t138.1).bind fun i137 => (slM (.lst l136.1) none (some i137)).bind fun v139 => (opM addD (.lst l136.1) v139).bind fun v140 => (fnM lenD [v140]).bind fun v141 => (M__law_vector t138.2 x129 v141).bind fun t142 => (M__law_sum_of t142.1 v140 x129 x130).bind fun v143 => (M__law_pull t142.2 (.int 3)).bind fun t145 => (opM gtD t145.1 (.int 0)).bind fun v146 => (asB v146).bind fun b144 => (if b144 then Res.ok (v143, t145.2) else (M__law_vector t145.2 x129 x130).bind fun t148 => Res.ok (t148.1, t148.2)).bind fun v147 => (itM v140).bind fun ds149 => (few ds149 (mapR (fun d150 => (newM listD [d150]).bind fun v151 => Res.ok v151) ds149)).bind fun l152 => (newM listD [v147.1]).bind fun v153 => (M_combination x129 (.lst l152) v147.1).bind fun v154 => (opM neD (.lst l152) v140).bind fun v156 => (asB v156).bind fun b155 => (if b155 then Res.ok true else (opM neD v147.1 v153).bind fun v158 => (asB v158).bind fun b157 => (if b157 then Res.ok true else (opM isND v154 .non).bind fun v160 => (M__law_lies v147.1 v140 x129).bind fun v162 => (asB v162).bind fun b161 => (opM neD v160 (.bl !b161)).bind fun v163 => (asB v163).bind fun b159 => Res.ok b159).bind fun b164 => Res.ok b164).bind fun b165 => if b165 then Res.ok (Ft.rt (.bl false)) else ((opM notND v154 .non).bind fun v168 => (asB v168).bind fun b167 => if b167 then (isiM [.list] v154).bind fun v170 => (asB v170).bind fun b169 => (if (!b169) then Res.ok true else (fnM lenD [v154]).bind fun v172 => (fnM lenD [v140]).bind fun v173 => (opM neD v172 v173).bind fun v174 => (asB v174).bind fun b171 => Res.ok b171).bind fun b175 => if b175 then Res.ok (Ft.rt (Ft.rt (.bl false))) else (itM v154).bind fun ds177 => (few ds177 (mapR (fun d178 => (isiM [.int] d178).bind fun v180 => (asB v180).bind fun b179 => (if b179 then (isiM [.bool] d178).bind fun v183 => (asB v183).bind fun b182 => (asB (.bl !b182)).bind fun b181 => (if b181 then (opM leD (.int 0) d178).bind fun v184 => (asB v184).bind fun b185 => (if b185 then opM ltD d178 x129 else Res.ok (.bl false)).bind fun v186 => Res.ok v186 else Res.ok (.bl false)).bind fun v187 => Res.ok v187 else Res.ok (.bl false)).bind fun v188 => Res.ok v188) ds177)).bind fun l189 => (fnM allD [(.lst l189)]).bind fun v190 => (asB v190).bind fun b176 => if (!b176) then Res.ok (Ft.rt (Ft.rt (.bl false))) else (M__law_sum_of v154 v140 x129 x130).bind fun v192 => (opM neD v192 v147.1).bind fun v193 => (asB v193).bind fun b191 => if b191 then Res.ok (Ft.rt (Ft.rt (.bl false))) else Res.ok (Ft.nx ()) else Res.ok (Ft.nx ())).bind (Ft.go fun s166 => (fnM tupleD [v147.1]).bind fun v195 => (fnM tupleD [(.lst l152)]).bind fun v196 => (permM 3 [2, 1, 0] [v195, v196, x129]).bind fun l197 => (ap3 M_combination l197).bind fun v198 => ((M__law_like 3) v198 v154).bind fun v199 => (asB v199).bind fun b194 => if (!b194) then Res.ok (Ft.rt (.bl false)) else Res.ok (Ft.nx v147.2))) ds121 v120).bind (Ft.go fun s124 => (lstM []).bind fun v200 => (lstM [(.int 0), (.int 0)]).bind fun v201 => (M_combination (.int 10007) v200 v201).bind fun v202 => (lstM []).bind fun v203 => (lstM [(.int 0), (.int 1)]).bind fun v204 => (M_combination (.int 10007) v203 v204).bind fun v205 => (lstM [(.int 2)]).bind fun v206 => (lstM [v206]).bind fun v207 => (lstM [(.int 1)]).bind fun v208 => (M_combination (.int 10007) v207 v208).bind fun v209 => (lstM [v202, v205, v209]).bind fun v210 => (lstM []).bind fun v211 => (lstM [(.int 5004)]).bind fun v212 => (lstM [v211, .non, v212]).bind fun v213 => ((M__law_like 3) v210 v213).bind fun v214 => Res.ok v214)
theorem FM_law : FM 1 Gf_law (ap1 M_law) :=
  fm_mk (n := 1) (pad := 12) (fun _ => rfl) (fun ds h => by
    match ds, h with
    | [], _ => exact rfl
    | [_], h => exact (h rfl).elim
    | _ :: _ :: _, _ => exact rfl) fun ds h => match ds, h with
    | [x0], _ => (show BS [some (.va x0), none, none, none, none, none, none, none, none, none, none, none, none] G_law (M_law x0) QT from bs_eq (bs_seq (st_setO 1 (ew_call FW__law_draws (ea_cons (ep_name 0 x0 rfl) ea_nil))) fun a1 => (bs_loop (fun a2 s59 => [none, some (.ow none s59), none, none, none, none, none, none, none, none, none, none, none]) (fun a2 => a1) (eip_rng1 (ea_cons (ep_c (.int 5)) ea_nil)) (fun _ => (wk_n (wk_s (wk_n (wk_n (wk_n (wk_n (wk_n (wk_n (wk_n (wk_n (wk_n (wk_n (wk_n wk_e)))))))))))))) (fun a2 s59 d60 => sim_body (tg_name 2) fun t61 => (bs_seq (st_asg (EF.ev (ef_tup (ea_consF (EF.ev (ef_callB FB__law_prime (eab_cons 1 none s59 rfl ea_nil) (fun _ => rfl))) fun u63 => (ea_consF (EF.ev (ef_bin (ep_c (.int 1)) fun u62 => (ef_callB FB__law_pull (eab_cons 1 none u63.2.2 rfl (ea_cons (ep_c (.int 5)) ea_nil)) (fun _ => rfl)))) fun u64 => ea_nil)))) fun _ => (tg_tup2 (fun _ => (tg_name 3)) fun _ _ => (tg_name 4))) fun a65 => (bs_seq (st_set 5 (EF.ev (EW.ef (ew_mapS (pS := fun a67 s69 => [none, some (.ow none s69), some (.va t61), some (.va a65.2.1), some (.va a65.2.2), none, none, none, none, none, none, none, none]) (s0 := fun a67 => a67.1.1.2.2) (ei_rng1 (ea_consF (EF.ev (ef_callB FB__law_pull (eab_cons 1 none a65.1.1.2.1.2.1.2.2 rfl (ea_cons (ep_c (.int 5)) ea_nil)) (fun _ => rfl))) fun u66 => ea_nil)) (fun _ => (wk_n (wk_s (wk_s (wk_s (wk_s (wk_n (wk_n (wk_n (wk_n (wk_n (wk_n (wk_n (wk_n wk_e)))))))))))))) (fun _ _ => rfl) fun a67 s69 _ => cb_mapS (p := fun s69 => [none, some (.ow none s69), some (.va t61), some (.va a65.2.1), some (.va a65.2.2), none, none, none, none, none, none, none, none]) (s := s69) (fun t68 e70 => e70.2.2) (tg_name 10) (fun t68 => (EF.ev (ef_callB FB__law_vector (eab_cons 1 none s69 rfl (ea_cons (ep_name 3 a65.2.1 rfl) (ea_cons (ep_name 4 a65.2.2 rfl) ea_nil))) (fun _ => rfl)))) fun _ _ => (wk_n (wk_s (wk_s (wk_s (wk_s (wk_n (wk_n (wk_n (wk_n (wk_n (wk_n (wk_n (wk_n wk_e))))))))))))))))) fun a71 => (bs_seq (st_set 5 (EF.ev (ef_bin (ep_name 5 (.lst a71.2.1) rfl) fun u72 => (ef_sliceTo (ep_name 5 (.lst a71.2.1) rfl) (ef_callB FB__law_pull (eab_cons 1 none a71.2.2 rfl (ea_cons (ep_c (.int 2)) ea_nil)) (fun _ => rfl)))))) fun a73 => (bs_seq (st_set 6 (EF.ev (ef_call FM__law_sum_of (ea_consF (EF.ev (ef_callB FB__law_vector (eab_cons 1 none a73.2.1.1.2.2 rfl (ea_cons (ep_name 3 a65.2.1 rfl) (ea_cons (ep_fn (eac_cons (EP.ec (ep_name 5 a73.2.2 rfl)) eac_nil)) ea_nil))) (fun _ => rfl))) fun u74 => (ea_consF (EF.ev (ep_name 5 a73.2.2 rfl)) fun u75 => (ea_consF (EF.ev (ep_name 3 a65.2.1 rfl)) fun u76 => (ea_consF (EF.ev (ep_name 4 a65.2.2 rfl)) fun u77 => ea_nil))))))) fun a78 => (bs_seq (st_set 6 (EF.ev (ef_ifS (fun s82 => [none, some (.ow none s82), some (.va t61), some (.va a65.2.1), some (.va a65.2.2), some (.va a73.2.2), some (.va a78.2), none, none, none, none, none, none]) (fun u80 u81 => u80.1.1.2.2) (fun u80 u81 => u81.2.2) (eb_val (ef_bin (ef_callB FB__law_pull (eab_cons 1 none a78.1.1.2.2 rfl (ea_cons (ep_c (.int 3)) ea_nil)) (fun _ => rfl)) fun u79 => (ep_c (.int 0)))) (fun u80 => (ep_name 6 a78.2 rfl)) (fun u80 => (ef_callB FB__law_vector (eab_cons 1 none u80.1.1.2.2 rfl (ea_cons (ep_name 3 a65.2.1 rfl) (ea_cons (ep_name 4 a65.2.2 rfl) ea_nil))) (fun _ => rfl))) (fun _ _ => (wk_n (wk_s (wk_s (wk_s (wk_s (wk_s (wk_s (wk_n (wk_n (wk_n (wk_n (wk_n (wk_n wk_e)))))))))))))) fun _ _ => (wk_n (wk_s (wk_s (wk_s (wk_s (wk_s (wk_s (wk_n (wk_n (wk_n (wk_n (wk_n (wk_n wk_e)))))))))))))))) fun a83 => (bs_seq (st_parVV 7 8 (EF.ev (EW.ef (ewp_map (eip_seq (ep_name 5 a73.2.2 rfl)) rfl fun _ => cb_map (tg_name 11) (fun t85 => (EW.ef (ew_fn (eac_cons (EP.ec (ep_name 11 t85 rfl)) eac_nil)))) fun _ => (wk_n (wk_s (wk_s (wk_s (wk_s (wk_s (wk_s (wk_n (wk_n (wk_n (wk_n (wk_n (wk_n wk_e)))))))))))))))) (fun u88 => (EF.ev (EW.ef (ew_fn (eac_cons (EP.ec (ep_name 6 a83.1 rfl)) eac_nil)))))) fun a90 => (bs_seq (st_set 9 (EF.ev (ep_call FM_combination (ea_cons (ep_name 3 a65.2.1 rfl) (ea_cons (ep_name 7 a90.1 rfl) (ea_cons (ep_name 6 a83.1 rfl) ea_nil)))))) fun a91 => (bs_guard (ebp_or (ebp_val (ep_bin (EP.ec (ep_name 7 a90.1 rfl)) (EP.ec (ep_name 5 a73.2.2 rfl)))) (ebp_or (ebp_val (ep_bin (EP.ec (ep_name 6 a83.1 rfl)) (EP.ec (ep_name 8 a90.2 rfl)))) (ebp_val (ep_bin (EP.ec (ep_bin (EP.ec (ep_name 9 a91 rfl)) (EP.ec (ep_c .non)))) (EP.ec (ep_not (ep_call FM__law_lies (ea_cons (ep_name 6 a83.1 rfl) (ea_cons (ep_name 5 a73.2.2 rfl) (ea_cons (ep_name 3 a65.2.1 rfl) ea_nil)))))))))) (fun c92 => (bs_retS (fun r93 => (Ft.rt r93)) (ep_c (.bl false)) (fun a k r q m => ⟨(fun z => nomatch z), (fun a k r q m => ⟨⟨_, rfl⟩, (fun _ _ _ q _ => Or.inl ⟨_, rfl, q⟩) a k r q m⟩) a k r q m⟩))) fun c92 => (bs_stepF (fun s115 => [none, some (.ow none a83.2), none, some (.va a65.2.1), none, none, some (.va a83.1), some (.va a90.1), none, some (.va a91), none, none, none]) (bs_if (ebp_val (ep_bin (EP.ec (ep_name 9 a91 rfl)) (EP.ec (ep_c .non)))) (fun c94 => (bs_guard (ebp_or (ebp_not (ebp_val (ep_isi (EP.ec (ep_name 9 a91 rfl))))) (ebp_val (ep_bin (EP.ec (ep_fn (eac_cons (EP.ec (ep_name 9 a91 rfl)) eac_nil))) (EP.ec (ep_fn (eac_cons (EP.ec (ep_name 5 a73.2.2 rfl)) eac_nil)))))) (fun c105 => (bs_retS (fun r106 => (Ft.rt (Ft.rt r106))) (ep_c (.bl false)) (fun a k r q m => ⟨(fun z => nomatch z), (fun a k r q m => ⟨(fun z => nomatch z), (fun a k r q m => ⟨⟨_, rfl⟩, (fun _ _ _ q _ => Or.inl ⟨_, rfl, q⟩) a k r q m⟩) a k r q m⟩) a k r q m⟩))) fun c105 => (bs_guard (ebp_not (ebp_val (ep_fn (eac_cons (EP.ec (EW.ef (ewp_map (eip_seq (ep_name 9 a91 rfl)) rfl fun _ => cb_map (tg_name 12) (fun t108 => (ep_and (ep_isi (EP.ec (ep_name 12 t108 rfl))) (ep_and (ep_not (ep_isi (EP.ec (ep_name 12 t108 rfl)))) (ep_chain (EP.ec (ep_c (.int 0))) (EP.ec (ep_name 12 t108 rfl)) (EP.ec (ep_name 3 a65.2.1 rfl)))))) fun _ => (wk_n (wk_s (wk_s (wk_s (wk_s (wk_s (wk_s (wk_s (wk_s (wk_s (wk_n (wk_n (wk_n wk_e)))))))))))))))) eac_nil)))) (fun c111 => (bs_retS (fun r112 => (Ft.rt (Ft.rt r112))) (ep_c (.bl false)) (fun a k r q m => ⟨(fun z => nomatch z), (fun a k r q m => ⟨(fun z => nomatch z), (fun a k r q m => ⟨⟨_, rfl⟩, (fun _ _ _ q _ => Or.inl ⟨_, rfl, q⟩) a k r q m⟩) a k r q m⟩) a k r q m⟩))) fun c111 => (bs_last (bs_if (ebp_val (ep_bin (EP.ec (ep_call FM__law_sum_of (ea_cons (ep_name 9 a91 rfl) (ea_cons (ep_name 5 a73.2.2 rfl) (ea_cons (ep_name 3 a65.2.1 rfl) (ea_cons (ep_name 4 a65.2.2 rfl) ea_nil)))))) (EP.ec (ep_name 6 a83.1 rfl)))) (fun c113 => (bs_retS (fun r114 => (Ft.rt (Ft.rt r114))) (ep_c (.bl false)) (fun a k r q m => ⟨(fun z => nomatch z), (fun a k r q m => ⟨⟨_, rfl⟩, (fun _ _ _ q _ => Or.inl ⟨_, rfl, q⟩) a k r q m⟩) a k r q m⟩))) fun c113 => (bs_nil (Ft.nx ()) (fun _ m => ⟨rfl, m.weak (wk_n (wk_s (wk_n (wk_s (wk_n (wk_n (wk_s (wk_s (wk_n (wk_s (wk_n (wk_n (wk_n wk_e)))))))))))))⟩))))))) fun c94 => (bs_nil (Ft.nx ()) (fun _ m => ⟨rfl, m.weak (wk_n (wk_s (wk_n (wk_s (wk_n (wk_n (wk_s (wk_s (wk_n (wk_s (wk_n (wk_n (wk_n wk_e)))))))))))))⟩))) fun s115 => (bs_last (bs_if (ebp_not (ebp_val (ep_call FM__law_like (ea_cons (ep_call FM_combination (ea_perm (ea_cons (ep_fn (eac_cons (EP.ec (ep_name 6 a83.1 rfl)) eac_nil)) (ea_cons (ep_fn (eac_cons (EP.ec (ep_name 7 a90.1 rfl)) eac_nil)) (ea_cons (ep_name 3 a65.2.1 rfl) ea_nil))))) (ea_cons (ep_name 9 a91 rfl) ea_nil))))) (fun c116 => (bs_retS (fun r117 => (Ft.rt r117)) (ep_c (.bl false)) (fun a k r q m => ⟨⟨_, rfl⟩, (fun _ _ _ q _ => Or.inl ⟨_, rfl, q⟩) a k r q m⟩))) fun c116 => (bs_nil (Ft.nx a83.2) (fun _ m => ⟨Or.inl rfl, m.weak (wk_n (wk_s (wk_n (wk_n (wk_n (wk_n (wk_n (wk_n (wk_n (wk_n (wk_n (wk_n (wk_n wk_e)))))))))))))⟩)))))))))))))) fun a2 s59 => (bs_seq (st_set 9 (EF.ev (EW.ef (ewp_list (ea_cons (ep_call FM_combination (ea_cons (ep_c (.int 10007)) (ea_cons (EW.ef (ewp_list ea_nil)) (ea_cons (EW.ef (ewp_list (ea_cons (ep_c (.int 0)) (ea_cons (ep_c (.int 0)) ea_nil)))) ea_nil)))) (ea_cons (ep_call FM_combination (ea_cons (ep_c (.int 10007)) (ea_cons (EW.ef (ewp_list ea_nil)) (ea_cons (EW.ef (ewp_list (ea_cons (ep_c (.int 0)) (ea_cons (ep_c (.int 1)) ea_nil)))) ea_nil)))) (ea_cons (ep_call FM_combination (ea_cons (ep_c (.int 10007)) (ea_cons (EW.ef (ewp_list (ea_cons (EW.ef (ewp_list (ea_cons (ep_c (.int 2)) ea_nil))) ea_nil))) (ea_cons (EW.ef (ewp_list (ea_cons (ep_c (.int 1)) ea_nil))) ea_nil)))) ea_nil))))))) fun a118 => (bs_retS (fun r119 => r119) (ep_call FM__law_like (ea_cons (ep_name 9 a118 rfl) (ea_cons (EW.ef (ewp_list (ea_cons (EW.ef (ewp_list ea_nil)) (ea_cons (ep_c .non) (ea_cons (EW.ef (ewp_list (ea_cons (ep_c (.int 5004)) ea_nil))) ea_nil))))) ea_nil))) (fun _ _ _ q _ => Or.inl ⟨_, rfl, q⟩))))) (by dsimp only [ap0, ap1, ap2, ap3, ap4, ap5]; unfold M_law; with_reducible rfl))
end K09

namespace K09
open PySem PySem.Spec PyProof.Rows L2 DL
/-! ### the numbers drawn from the bag -/
def bag (cs : List Int) (p r s c : Int) : D := .lst [.lst (cs.map .int), .int p, .int r, .int s, .int c]
structure Bag (b : D) : Prop where
  ex : ∃ (cs : List Int) (p r s c : Int), b = bag cs p r s c ∧ 0 ≤ p ∧ 0 ≤ r ∧ 0 ≤ s ∧ s < 2147483399
def seed1 (s x : Int) : Int := (s * 43019 + x % 2147483269 * 51197 + 73) % 2147483399
def seed2 (s c : Int) : Int := (s ^ 3 + s * 37991 + c * 1299689 + 70489) % 2147483399
def last (s m : Int) : Int := (s / 83 + s % 7919 * 67) % m
theorem seed1_in (s x : Int) : 0 ≤ seed1 s x ∧ seed1 s x < 2147483399 := ⟨Int.emod_nonneg _ (by decide), Int.emod_lt_of_pos _ (by decide)⟩
theorem seed2_in (s x : Int) : 0 ≤ seed2 s x ∧ seed2 s x < 2147483399 := ⟨Int.emod_nonneg _ (by decide), Int.emod_lt_of_pos _ (by decide)⟩
theorem last_in (s m : Int) (h : 0 < m) : 0 ≤ last s m ∧ last s m < m := ⟨Int.emod_nonneg _ (by omega), Int.emod_lt_of_pos _ h⟩
theorem cells_at {cs : List Int} {p : Int} (h0 : 0 ≤ p) (h : p < cs.length) : opM ixD (.lst (cs.map .int)) (.int p) = .ok (.int (cs[p.toNat]'(by omega))) := by
  rw [m_ix h0 (by rw [List.length_map]; exact h), List.getElem_map]
theorem e1018 : opM powD (.int 10) (.int 18) = .ok (.int 1000000000000000000) := by rw [m_pow (by decide) (by decide) (by decide) (by decide)]; rfl
theorem pull (b : D) (B : Bag b) (m : Int) (hm : 0 < m) (hm2 : m < 18446744073709551616) : ∃ (x : Int) (b' : D), 0 ≤ x ∧ x < m ∧ Bag b' ∧ M__law_pull b (.int m) = .ok (.int x, b') := by
  obtain ⟨cs, p, r, s, c, rfl, hp, hr, hs1, hs2⟩ := B.ex
  by_cases h0 : r = 0
  · subst h0
    by_cases h1 : p < cs.length
    · have hx := cells_at hp h1
      generalize cs[p.toNat]'(by omega) = x at hx
      by_cases h2 : 1000000000000000000 ≤ x
      · refine ⟨x % m, bag cs (p + 1) (x / m) (seed1 s x) (c + 1), Int.emod_nonneg _ (by omega), Int.emod_lt_of_pos _ hm, ⟨_, _, _, _, _, rfl, by omega, Int.ediv_nonneg (by omega) (by omega), seed1_in s x⟩, ?_⟩
        have h3 : 0 < x := by omega
        unfold M__law_pull bag seed1
        simp (config := { maxSteps := 5000000 }) (disch := first | omega | assumption) only [hx, e1018, h1, h2, h3, r_ok, r_bad, m_add, m_sub, m_mulL, m_mulR, m_mod, m_fdiv, m_pow, m_lt, m_le, m_gt, m_ge, m_eq, m_ne, m_isN, m_notN, m_isB, m_notB, m_neg, m_asB, m_asI, m_len, m_lenT, m_int, m_intB, m_itL, m_itT, m_list, m_listT, m_listP, m_tupleL, m_tupleT, m_lst, m_tup, m_few, m_ap, m_lstOf, m_addL, m_addLO, m_rep1, m_ix0, m_ixT0, m_st0, m_ix1, m_ixT1, m_st1, m_ix2, m_ixT2, m_st2, m_ix3, m_ixT3, m_st3, m_ix4, m_ixT4, m_st4, m_ix5, m_ixT5, m_st5, m_ix, m_ixT, m_st, m_rng1, m_rng2, m_zipL, m_zipT, m_enum, m_enum2, m_enum2T, m_un2, m_un2P, m_un3P, m_un3, m_z2LL, m_z2TT, m_z2LT, m_z2TL, m_truB, m_truN, m_truI, m_truL, m_truT, m_nox, m_go, m_goR, List.length_cons, List.length_nil, List.length_map, List.length_append, List.length_set, decide_eq_true_eq, ↓reduceIte, Bool.false_eq_true, Bool.not_true, Bool.not_false, Bool.not_eq_true', decide_true, decide_false, decide_eq_false_iff_not, Bool.true_eq_false, Int.toNat_zero, Int.toNat_one, Int.reduceToNat, List.getElem_cons_zero, List.getElem_cons_succ, List.set_cons_zero, List.set_cons_succ, isNonB, Int.reducePow, Int.reduceLT, Int.reduceLE, Int.reduceAdd, Int.reduceSub, Int.reduceMul, Int.reduceNeg]
      · refine ⟨last (seed2 (seed1 s x) (c + 1)) m, bag cs (p + 1) 0 (seed2 (seed1 s x) (c + 1)) (c + 1), (last_in _ m hm).1, (last_in _ m hm).2, ⟨_, _, _, _, _, rfl, by omega, by omega, seed2_in _ _⟩, ?_⟩
        have h3 := seed1_in s x
        have h4 : (s * 43019 + x % 2147483269 * 51197 + 73) % 2147483399 = seed1 s x := rfl
        unfold M__law_pull bag seed2 last
        generalize seed1 s x = s1 at *
        have h5 : 0 ≤ s1 := h3.1
        have h6 : s1 < 2147483399 := h3.2
        have h7 := (seed2_in s1 (c + 1)).1
        have h8 := (seed2_in s1 (c + 1)).2
        unfold seed2 at h7 h8
        simp (config := { maxSteps := 5000000 }) (disch := first | omega | assumption) only [hx, e1018, h1, h2, h4, r_ok, r_bad, m_add, m_sub, m_mulL, m_mulR, m_mod, m_fdiv, m_pow, m_lt, m_le, m_gt, m_ge, m_eq, m_ne, m_isN, m_notN, m_isB, m_notB, m_neg, m_asB, m_asI, m_len, m_lenT, m_int, m_intB, m_itL, m_itT, m_list, m_listT, m_listP, m_tupleL, m_tupleT, m_lst, m_tup, m_few, m_ap, m_lstOf, m_addL, m_addLO, m_rep1, m_ix0, m_ixT0, m_st0, m_ix1, m_ixT1, m_st1, m_ix2, m_ixT2, m_st2, m_ix3, m_ixT3, m_st3, m_ix4, m_ixT4, m_st4, m_ix5, m_ixT5, m_st5, m_ix, m_ixT, m_st, m_rng1, m_rng2, m_zipL, m_zipT, m_enum, m_enum2, m_enum2T, m_un2, m_un2P, m_un3P, m_un3, m_z2LL, m_z2TT, m_z2LT, m_z2TL, m_truB, m_truN, m_truI, m_truL, m_truT, m_nox, m_go, m_goR, List.length_cons, List.length_nil, List.length_map, List.length_append, List.length_set, decide_eq_true_eq, ↓reduceIte, Bool.false_eq_true, Bool.not_true, Bool.not_false, Bool.not_eq_true', decide_true, decide_false, decide_eq_false_iff_not, Bool.true_eq_false, Int.toNat_zero, Int.toNat_one, Int.reduceToNat, List.getElem_cons_zero, List.getElem_cons_succ, List.set_cons_zero, List.set_cons_succ, isNonB, Int.reducePow, Int.reduceLT, Int.reduceLE, Int.reduceAdd, Int.reduceSub, Int.reduceMul, Int.reduceNeg]
    · refine ⟨last (seed2 s (c + 1)) m, bag cs p 0 (seed2 s (c + 1)) (c + 1), (last_in _ m hm).1, (last_in _ m hm).2, ⟨_, _, _, _, _, rfl, by omega, by omega, seed2_in _ _⟩, ?_⟩
      unfold M__law_pull bag last seed2
      simp (config := { maxSteps := 5000000 }) (disch := first | omega | assumption) only [h1, r_ok, r_bad, m_add, m_sub, m_mulL, m_mulR, m_mod, m_fdiv, m_pow, m_lt, m_le, m_gt, m_ge, m_eq, m_ne, m_isN, m_notN, m_isB, m_notB, m_neg, m_asB, m_asI, m_len, m_lenT, m_int, m_intB, m_itL, m_itT, m_list, m_listT, m_listP, m_tupleL, m_tupleT, m_lst, m_tup, m_few, m_ap, m_lstOf, m_addL, m_addLO, m_rep1, m_ix0, m_ixT0, m_st0, m_ix1, m_ixT1, m_st1, m_ix2, m_ixT2, m_st2, m_ix3, m_ixT3, m_st3, m_ix4, m_ixT4, m_st4, m_ix5, m_ixT5, m_st5, m_ix, m_ixT, m_st, m_rng1, m_rng2, m_zipL, m_zipT, m_enum, m_enum2, m_enum2T, m_un2, m_un2P, m_un3P, m_un3, m_z2LL, m_z2TT, m_z2LT, m_z2TL, m_truB, m_truN, m_truI, m_truL, m_truT, m_nox, m_go, m_goR, List.length_cons, List.length_nil, List.length_map, List.length_append, List.length_set, decide_eq_true_eq, ↓reduceIte, Bool.false_eq_true, Bool.not_true, Bool.not_false, Bool.not_eq_true', decide_true, decide_false, decide_eq_false_iff_not, Bool.true_eq_false, Int.toNat_zero, Int.toNat_one, Int.reduceToNat, List.getElem_cons_zero, List.getElem_cons_succ, List.set_cons_zero, List.set_cons_succ, isNonB, Int.reducePow, Int.reduceLT, Int.reduceLE, Int.reduceAdd, Int.reduceSub, Int.reduceMul, Int.reduceNeg]
  · refine ⟨r % m, bag cs p (r / m) s (c + 1), Int.emod_nonneg _ (by omega), Int.emod_lt_of_pos _ hm, ⟨_, _, _, _, _, rfl, by omega, Int.ediv_nonneg (by omega) (by omega), hs1, hs2⟩, ?_⟩
    have h3 : 0 < r := by omega
    unfold M__law_pull bag
    simp (config := { maxSteps := 5000000 }) (disch := first | omega | assumption) only [h0, h3, r_ok, r_bad, m_add, m_sub, m_mulL, m_mulR, m_mod, m_fdiv, m_pow, m_lt, m_le, m_gt, m_ge, m_eq, m_ne, m_isN, m_notN, m_isB, m_notB, m_neg, m_asB, m_asI, m_len, m_lenT, m_int, m_intB, m_itL, m_itT, m_list, m_listT, m_listP, m_tupleL, m_tupleT, m_lst, m_tup, m_few, m_ap, m_lstOf, m_addL, m_addLO, m_rep1, m_ix0, m_ixT0, m_st0, m_ix1, m_ixT1, m_st1, m_ix2, m_ixT2, m_st2, m_ix3, m_ixT3, m_st3, m_ix4, m_ixT4, m_st4, m_ix5, m_ixT5, m_st5, m_ix, m_ixT, m_st, m_rng1, m_rng2, m_zipL, m_zipT, m_enum, m_enum2, m_enum2T, m_un2, m_un2P, m_un3P, m_un3, m_z2LL, m_z2TT, m_z2LT, m_z2TL, m_truB, m_truN, m_truI, m_truL, m_truT, m_nox, m_go, m_goR, List.length_cons, List.length_nil, List.length_map, List.length_append, List.length_set, decide_eq_true_eq, ↓reduceIte, Bool.false_eq_true, Bool.not_true, Bool.not_false, Bool.not_eq_true', decide_true, decide_false, decide_eq_false_iff_not, Bool.true_eq_false, Int.toNat_zero, Int.toNat_one, Int.reduceToNat, List.getElem_cons_zero, List.getElem_cons_succ, List.set_cons_zero, List.set_cons_succ, isNonB, Int.reducePow, Int.reduceLT, Int.reduceLE, Int.reduceAdd, Int.reduceSub, Int.reduceMul, Int.reduceNeg]
theorem any_ok (b : D) (B : Bag b) (ds : List D) (h : 0 < ds.length) (h2 : ds.length < 1000) : ∃ (d : D) (b' : D), d ∈ ds ∧ Bag b' ∧ M__law_any b (.lst ds) = .ok (d, b') := by
  obtain ⟨x, b', h3, h4, B', e⟩ := pull b B ds.length (by omega) (by omega)
  refine ⟨ds[x.toNat]'(by omega), b', List.getElem_mem _, B', ?_⟩
  unfold M__law_any
  simp (config := { maxSteps := 5000000 }) (disch := first | omega | assumption) only [e, r_ok, r_bad, m_add, m_sub, m_mulL, m_mulR, m_mod, m_fdiv, m_pow, m_lt, m_le, m_gt, m_ge, m_eq, m_ne, m_isN, m_notN, m_isB, m_notB, m_neg, m_asB, m_asI, m_len, m_lenT, m_int, m_intB, m_itL, m_itT, m_list, m_listT, m_listP, m_tupleL, m_tupleT, m_lst, m_tup, m_few, m_ap, m_lstOf, m_addL, m_addLO, m_rep1, m_ix0, m_ixT0, m_st0, m_ix1, m_ixT1, m_st1, m_ix2, m_ixT2, m_st2, m_ix3, m_ixT3, m_st3, m_ix4, m_ixT4, m_st4, m_ix5, m_ixT5, m_st5, m_ix, m_ixT, m_st, m_rng1, m_rng2, m_zipL, m_zipT, m_enum, m_enum2, m_enum2T, m_un2, m_un2P, m_un3P, m_un3, m_z2LL, m_z2TT, m_z2LT, m_z2TL, m_truB, m_truN, m_truI, m_truL, m_truT, m_nox, m_go, m_goR, List.length_cons, List.length_nil, List.length_map, List.length_append, List.length_set, decide_eq_true_eq, ↓reduceIte, Bool.false_eq_true, Bool.not_true, Bool.not_false, Bool.not_eq_true', decide_true, decide_false, decide_eq_false_iff_not, Bool.true_eq_false, Int.toNat_zero, Int.toNat_one, Int.reduceToNat, List.getElem_cons_zero, List.getElem_cons_succ, List.set_cons_zero, List.set_cons_succ, isNonB, Int.reducePow, Int.reduceLT, Int.reduceLE, Int.reduceAdd, Int.reduceSub, Int.reduceMul, Int.reduceNeg]
theorem draws_ok (ns : List Int) : ∃ b, Bag b ∧ M__law_draws (.scr ns) = .ok b := by
  refine ⟨bag (ns.take 63) 0 0 10045 0, ⟨_, _, _, _, _, rfl, by decide, by decide, by decide, by decide⟩, ?_⟩
  unfold M__law_draws
  have e : slM (.scr ns) none (some 63) = .ok (.lst ((ns.take 63).map .int)) := m_sl_scr ns 63
  simp (config := { maxSteps := 5000000 }) (disch := first | omega | assumption) only [e, r_ok, r_bad, m_add, m_sub, m_mulL, m_mulR, m_mod, m_fdiv, m_pow, m_lt, m_le, m_gt, m_ge, m_eq, m_ne, m_isN, m_notN, m_isB, m_notB, m_neg, m_asB, m_asI, m_len, m_lenT, m_int, m_intB, m_itL, m_itT, m_list, m_listT, m_listP, m_tupleL, m_tupleT, m_lst, m_tup, m_few, m_ap, m_lstOf, m_addL, m_addLO, m_rep1, m_ix0, m_ixT0, m_st0, m_ix1, m_ixT1, m_st1, m_ix2, m_ixT2, m_st2, m_ix3, m_ixT3, m_st3, m_ix4, m_ixT4, m_st4, m_ix5, m_ixT5, m_st5, m_ix, m_ixT, m_st, m_rng1, m_rng2, m_zipL, m_zipT, m_enum, m_enum2, m_enum2T, m_un2, m_un2P, m_un3P, m_un3, m_z2LL, m_z2TT, m_z2LT, m_z2TL, m_truB, m_truN, m_truI, m_truL, m_truT, m_nox, m_go, m_goR, List.length_cons, List.length_nil, List.length_map, List.length_append, List.length_set, decide_eq_true_eq, ↓reduceIte, Bool.false_eq_true, Bool.not_true, Bool.not_false, Bool.not_eq_true', decide_true, decide_false, decide_eq_false_iff_not, Bool.true_eq_false, Int.toNat_zero, Int.toNat_one, Int.reduceToNat, List.getElem_cons_zero, List.getElem_cons_succ, List.set_cons_zero, List.set_cons_succ, isNonB, Int.reducePow, Int.reduceLT, Int.reduceLE, Int.reduceAdd, Int.reduceSub, Int.reduceMul, Int.reduceNeg]
  rfl

end K09

namespace K09
open PySem PySem.Spec PyProof.Rows L2 DL
/-! ### rows: the program's functions and the pure ones -/
theorem ix_row {r : List Int} {j : Nat} (hj : j < r.length) : opM ixD (rowT r) (.int (j : Int)) = .ok (.int (DM.gz r j)) := by
  show opM ixD (.tup (r.map .int)) (.int (j : Int)) = _
  rw [m_ixT (by omega) (by rw [List.length_map]; omega), List.getElem_map]
  have : ((j : Int)).toNat = j := by omega
  simp only [this]
  unfold DM.gz
  rw [List.getD_eq_getElem?_getD, List.getElem?_eq_getElem hj]
  rfl
theorem zip_rows (r h : List Int) : zipM2 [rowT r, rowT h] = .ok ((r.zip h).map fun z => .prs [.int z.1, .int z.2]) := by
  show zipM2 [.tup (r.map .int), .tup (h.map .int)] = _
  rw [m_z2TT, zipD_map]
theorem zip_rowsL (r h : List Int) : zipM2 [.lst (r.map .int), rowT h] = .ok ((r.zip h).map fun z => .prs [.int z.1, .int z.2]) := by
  show zipM2 [.lst (r.map .int), .tup (h.map .int)] = _
  rw [m_z2LT, zipD_map]
theorem tup_row (ns : List Int) : fnM tupleD [.lst (ns.map .int)] = .ok (rowT ns) := m_tupleL _
theorem cleared_at {p : Int} {n j : Nat} {r h : List Int} (hp : 1 < p) (hp2 : p < 1000000) (hr : DM.Row p n r) (hh : DM.Row p n h) (hn : n ≤ 1000) (hj : j < n) : M_cleared_at (rowT r) (.int (j : Int)) (rowT h) (.int p) = .ok (rowT (DM.clearAt p j h r)) := by
  unfold M_cleared_at
  rw [ix_row (by rw [hr.len]; exact hj)]
  simp (config := { maxSteps := 5000000 }) (disch := first | omega | assumption) only [r_ok, r_bad, m_add, m_sub, m_mulL, m_mulR, m_mod, m_fdiv, m_pow, m_lt, m_le, m_gt, m_ge, m_eq, m_ne, m_isN, m_notN, m_isB, m_notB, m_neg, m_asB, m_asI, m_len, m_lenT, m_int, m_intB, m_itL, m_itT, m_list, m_listT, m_listP, m_tupleL, m_tupleT, m_lst, m_tup, m_few, m_ap, m_lstOf, m_addL, m_addLO, m_rep1, m_ix0, m_ixT0, m_st0, m_ix1, m_ixT1, m_st1, m_ix2, m_ixT2, m_st2, m_ix3, m_ixT3, m_st3, m_ix4, m_ixT4, m_st4, m_ix5, m_ixT5, m_st5, m_ix, m_ixT, m_st, m_rng1, m_rng2, m_zipL, m_zipT, m_enum, m_enum2, m_enum2T, m_un2, m_un2P, m_un3P, m_un3, m_z2LL, m_z2TT, m_z2LT, m_z2TL, m_truB, m_truN, m_truI, m_truL, m_truT, m_nox, m_go, m_goR, List.length_cons, List.length_nil, List.length_map, List.length_append, List.length_set, decide_eq_true_eq, ↓reduceIte, Bool.false_eq_true, Bool.not_true, Bool.not_false, Bool.not_eq_true', decide_true, decide_false, decide_eq_false_iff_not, Bool.true_eq_false, Int.toNat_zero, Int.toNat_one, Int.reduceToNat, List.getElem_cons_zero, List.getElem_cons_succ, List.set_cons_zero, List.set_cons_succ, isNonB, Int.reducePow, Int.reduceLT, Int.reduceLE, Int.reduceAdd, Int.reduceSub, Int.reduceMul, Int.reduceNeg]
  by_cases q : DM.gz r j = 0
  · rw [DM.clearAt, if_pos q, q]
    simp (config := { maxSteps := 5000000 }) (disch := first | omega | assumption) only [r_ok, r_bad, m_add, m_sub, m_mulL, m_mulR, m_mod, m_fdiv, m_pow, m_lt, m_le, m_gt, m_ge, m_eq, m_ne, m_isN, m_notN, m_isB, m_notB, m_neg, m_asB, m_asI, m_len, m_lenT, m_int, m_intB, m_itL, m_itT, m_list, m_listT, m_listP, m_tupleL, m_tupleT, m_lst, m_tup, m_few, m_ap, m_lstOf, m_addL, m_addLO, m_rep1, m_ix0, m_ixT0, m_st0, m_ix1, m_ixT1, m_st1, m_ix2, m_ixT2, m_st2, m_ix3, m_ixT3, m_st3, m_ix4, m_ixT4, m_st4, m_ix5, m_ixT5, m_st5, m_ix, m_ixT, m_st, m_rng1, m_rng2, m_zipL, m_zipT, m_enum, m_enum2, m_enum2T, m_un2, m_un2P, m_un3P, m_un3, m_z2LL, m_z2TT, m_z2LT, m_z2TL, m_truB, m_truN, m_truI, m_truL, m_truT, m_nox, m_go, m_goR, List.length_cons, List.length_nil, List.length_map, List.length_append, List.length_set, decide_eq_true_eq, ↓reduceIte, Bool.false_eq_true, Bool.not_true, Bool.not_false, Bool.not_eq_true', decide_true, decide_false, decide_eq_false_iff_not, Bool.true_eq_false, Int.toNat_zero, Int.toNat_one, Int.reduceToNat, List.getElem_cons_zero, List.getElem_cons_succ, List.set_cons_zero, List.set_cons_succ, isNonB, Int.reducePow, Int.reduceLT, Int.reduceLE, Int.reduceAdd, Int.reduceSub, Int.reduceMul, Int.reduceNeg]
  · have lo := hr.lo j
    have hi := hr.hi j
    rw [DM.clearAt, if_neg q]
    have e : (DM.gz r j == 0) = false := by simpa using q
    simp (config := { maxSteps := 5000000 }) (disch := first | omega | assumption) only [e, q, r_ok, r_bad, m_add, m_sub, m_mulL, m_mulR, m_mod, m_fdiv, m_pow, m_lt, m_le, m_gt, m_ge, m_eq, m_ne, m_isN, m_notN, m_isB, m_notB, m_neg, m_asB, m_asI, m_len, m_lenT, m_int, m_intB, m_itL, m_itT, m_list, m_listT, m_listP, m_tupleL, m_tupleT, m_lst, m_tup, m_few, m_ap, m_lstOf, m_addL, m_addLO, m_rep1, m_ix0, m_ixT0, m_st0, m_ix1, m_ixT1, m_st1, m_ix2, m_ixT2, m_st2, m_ix3, m_ixT3, m_st3, m_ix4, m_ixT4, m_st4, m_ix5, m_ixT5, m_st5, m_ix, m_ixT, m_st, m_rng1, m_rng2, m_zipL, m_zipT, m_enum, m_enum2, m_enum2T, m_un2, m_un2P, m_un3P, m_un3, m_z2LL, m_z2TT, m_z2LT, m_z2TL, m_truB, m_truN, m_truI, m_truL, m_truT, m_nox, m_go, m_goR, List.length_cons, List.length_nil, List.length_map, List.length_append, List.length_set, decide_eq_true_eq, ↓reduceIte, Bool.false_eq_true, Bool.not_true, Bool.not_false, Bool.not_eq_true', decide_true, decide_false, decide_eq_false_iff_not, Bool.true_eq_false, Int.toNat_zero, Int.toNat_one, Int.reduceToNat, List.getElem_cons_zero, List.getElem_cons_succ, List.set_cons_zero, List.set_cons_succ, isNonB, Int.reducePow, Int.reduceLT, Int.reduceLE, Int.reduceAdd, Int.reduceSub, Int.reduceMul, Int.reduceNeg]
    rw [zip_rows]
    simp (config := { maxSteps := 5000000 }) (disch := first | omega | assumption) only [r_ok, r_bad, m_add, m_sub, m_mulL, m_mulR, m_mod, m_fdiv, m_pow, m_lt, m_le, m_gt, m_ge, m_eq, m_ne, m_isN, m_notN, m_isB, m_notB, m_neg, m_asB, m_asI, m_len, m_lenT, m_int, m_intB, m_itL, m_itT, m_list, m_listT, m_listP, m_tupleL, m_tupleT, m_lst, m_tup, m_few, m_ap, m_lstOf, m_addL, m_addLO, m_rep1, m_ix0, m_ixT0, m_st0, m_ix1, m_ixT1, m_st1, m_ix2, m_ixT2, m_st2, m_ix3, m_ixT3, m_st3, m_ix4, m_ixT4, m_st4, m_ix5, m_ixT5, m_st5, m_ix, m_ixT, m_st, m_rng1, m_rng2, m_zipL, m_zipT, m_enum, m_enum2, m_enum2T, m_un2, m_un2P, m_un3P, m_un3, m_z2LL, m_z2TT, m_z2LT, m_z2TL, m_truB, m_truN, m_truI, m_truL, m_truT, m_nox, m_go, m_goR, List.length_cons, List.length_nil, List.length_map, List.length_append, List.length_set, decide_eq_true_eq, ↓reduceIte, Bool.false_eq_true, Bool.not_true, Bool.not_false, Bool.not_eq_true', decide_true, decide_false, decide_eq_false_iff_not, Bool.true_eq_false, Int.toNat_zero, Int.toNat_one, Int.reduceToNat, List.getElem_cons_zero, List.getElem_cons_succ, List.set_cons_zero, List.set_cons_succ, isNonB, Int.reducePow, Int.reduceLT, Int.reduceLE, Int.reduceAdd, Int.reduceSub, Int.reduceMul, Int.reduceNeg]
    rw [mapR_ok (e := fun z : Int × Int => D.prs [.int z.1, .int z.2]) (g := fun z => .int ((z.1 - DM.gz r j * z.2) % p)) fun z hz => by
      simp (config := { maxSteps := 5000000 }) (disch := first | omega | assumption) only [r_ok, r_bad, m_add, m_sub, m_mulL, m_mulR, m_mod, m_fdiv, m_pow, m_lt, m_le, m_gt, m_ge, m_eq, m_ne, m_isN, m_notN, m_isB, m_notB, m_neg, m_asB, m_asI, m_len, m_lenT, m_int, m_intB, m_itL, m_itT, m_list, m_listT, m_listP, m_tupleL, m_tupleT, m_lst, m_tup, m_few, m_ap, m_lstOf, m_addL, m_addLO, m_rep1, m_ix0, m_ixT0, m_st0, m_ix1, m_ixT1, m_st1, m_ix2, m_ixT2, m_st2, m_ix3, m_ixT3, m_st3, m_ix4, m_ixT4, m_st4, m_ix5, m_ixT5, m_st5, m_ix, m_ixT, m_st, m_rng1, m_rng2, m_zipL, m_zipT, m_enum, m_enum2, m_enum2T, m_un2, m_un2P, m_un3P, m_un3, m_z2LL, m_z2TT, m_z2LT, m_z2TL, m_truB, m_truN, m_truI, m_truL, m_truT, m_nox, m_go, m_goR, List.length_cons, List.length_nil, List.length_map, List.length_append, List.length_set, decide_eq_true_eq, ↓reduceIte, Bool.false_eq_true, Bool.not_true, Bool.not_false, Bool.not_eq_true', decide_true, decide_false, decide_eq_false_iff_not, Bool.true_eq_false, Int.toNat_zero, Int.toNat_one, Int.reduceToNat, List.getElem_cons_zero, List.getElem_cons_succ, List.set_cons_zero, List.set_cons_succ, isNonB, Int.reducePow, Int.reduceLT, Int.reduceLE, Int.reduceAdd, Int.reduceSub, Int.reduceMul, Int.reduceNeg]]
    have h1 := hr.len
    rw [m_few (by rw [List.length_map, List.length_zip]; omega)]
    simp (config := { maxSteps := 5000000 }) (disch := first | omega | assumption) only [r_ok, r_bad, m_add, m_sub, m_mulL, m_mulR, m_mod, m_fdiv, m_pow, m_lt, m_le, m_gt, m_ge, m_eq, m_ne, m_isN, m_notN, m_isB, m_notB, m_neg, m_asB, m_asI, m_len, m_lenT, m_int, m_intB, m_itL, m_itT, m_list, m_listT, m_listP, m_tupleL, m_tupleT, m_lst, m_tup, m_few, m_ap, m_lstOf, m_addL, m_addLO, m_rep1, m_ix0, m_ixT0, m_st0, m_ix1, m_ixT1, m_st1, m_ix2, m_ixT2, m_st2, m_ix3, m_ixT3, m_st3, m_ix4, m_ixT4, m_st4, m_ix5, m_ixT5, m_st5, m_ix, m_ixT, m_st, m_rng1, m_rng2, m_zipL, m_zipT, m_enum, m_enum2, m_enum2T, m_un2, m_un2P, m_un3P, m_un3, m_z2LL, m_z2TT, m_z2LT, m_z2TL, m_truB, m_truN, m_truI, m_truL, m_truT, m_nox, m_go, m_goR, List.length_cons, List.length_nil, List.length_map, List.length_append, List.length_set, decide_eq_true_eq, ↓reduceIte, Bool.false_eq_true, Bool.not_true, Bool.not_false, Bool.not_eq_true', decide_true, decide_false, decide_eq_false_iff_not, Bool.true_eq_false, Int.toNat_zero, Int.toNat_one, Int.reduceToNat, List.getElem_cons_zero, List.getElem_cons_succ, List.set_cons_zero, List.set_cons_succ, isNonB, Int.reducePow, Int.reduceLT, Int.reduceLE, Int.reduceAdd, Int.reduceSub, Int.reduceMul, Int.reduceNeg]
    unfold rowT
    rw [List.map_map]
    rfl

theorem idx_lead : ∀ {r : List Int} {l : Nat}, DM.Lead r l → idxV (.int 1) (r.map V.int) = some l
  | [], l, h => by
    have := h.one
    simp [DM.gz] at this
  | x :: r, 0, h => by
    have e : x = 1 := h.one
    subst e
    rfl
  | x :: r, l + 1, h => by
    have e : x = 0 := h.zero 0 (by omega)
    subst e
    have ih := idx_lead (r := r) (l := l) ⟨h.one, fun i hi => h.zero (i + 1) (by omega)⟩
    show (idxV (V.int 1) (r.map V.int)).map (· + 1) = _
    rw [ih]
    rfl
theorem flat_ints : ∀ r : List Int, (r.map D.int).all flatD = true
  | [] => rfl
  | _ :: r => by rw [List.map_cons, List.all_cons, flat_ints r]; rfl
theorem lead_ok {r : List Int} {l : Nat} (h : DM.Lead r l) : M_lead (rowT r) = .ok (.int (l : Int)) := by
  unfold M_lead
  show (idxM (rowT r) (.int 1)).bind _ = _
  have e : idxM (rowT r) (.int 1) = .ok (.int (l : Int)) := by
    show (if flatD (.int 1) && (r.map D.int).all flatD then match idxV (toV (.int 1)) ((r.map D.int).map toV) with
      | some j => Res.ok (D.int (j : Nat))
      | none => .bad
      else .bad) = _
    rw [flat_ints, List.map_map, show (toV ∘ D.int) = V.int from rfl, show toV (D.int 1) = V.int 1 from rfl, idx_lead h]
    rfl
  rw [e]
  rfl
/-- numbers below p -/
def Lo (p : Int) (xs : List Int) : Prop := ∀ x ∈ xs, 0 ≤ x ∧ x < p
theorem row_lo {p : Int} {n : Nat} {r : List Int} (h : DM.Row p n r) : Lo p r := fun x hx => by
  obtain ⟨i, hi, rfl⟩ := List.getElem_of_mem hx
  have h1 := h.lo i
  have h2 := h.hi i
  unfold DM.gz at h1 h2
  rw [List.getD_eq_getElem?_getD, List.getElem?_eq_getElem hi] at h1 h2
  exact ⟨h1, h2⟩
theorem product_ok {p : Int} {xs ys : List Int} (hp : 1 < p) (hp2 : p < 1000000) (hl : xs.length ≤ 1000) (hx : Lo p xs) : M_product_of (.lst (xs.map .int)) (rowT ys) (.int p) = .ok (.int (((xs.zip ys).map fun z => z.1 * z.2).sum % p)) := by
  unfold M_product_of
  rw [zip_rowsL]
  simp (config := { maxSteps := 5000000 }) (disch := first | omega | assumption) only [r_ok, r_bad, m_add, m_sub, m_mulL, m_mulR, m_mod, m_fdiv, m_pow, m_lt, m_le, m_gt, m_ge, m_eq, m_ne, m_isN, m_notN, m_isB, m_notB, m_neg, m_asB, m_asI, m_len, m_lenT, m_int, m_intB, m_itL, m_itT, m_list, m_listT, m_listP, m_tupleL, m_tupleT, m_lst, m_tup, m_few, m_ap, m_lstOf, m_addL, m_addLO, m_rep1, m_ix0, m_ixT0, m_st0, m_ix1, m_ixT1, m_st1, m_ix2, m_ixT2, m_st2, m_ix3, m_ixT3, m_st3, m_ix4, m_ixT4, m_st4, m_ix5, m_ixT5, m_st5, m_ix, m_ixT, m_st, m_rng1, m_rng2, m_zipL, m_zipT, m_enum, m_enum2, m_enum2T, m_un2, m_un2P, m_un3P, m_un3, m_z2LL, m_z2TT, m_z2LT, m_z2TL, m_truB, m_truN, m_truI, m_truL, m_truT, m_nox, m_go, m_goR, List.length_cons, List.length_nil, List.length_map, List.length_append, List.length_set, decide_eq_true_eq, ↓reduceIte, Bool.false_eq_true, Bool.not_true, Bool.not_false, Bool.not_eq_true', decide_true, decide_false, decide_eq_false_iff_not, Bool.true_eq_false, Int.toNat_zero, Int.toNat_one, Int.reduceToNat, List.getElem_cons_zero, List.getElem_cons_succ, List.set_cons_zero, List.set_cons_succ, isNonB, Int.reducePow, Int.reduceLT, Int.reduceLE, Int.reduceAdd, Int.reduceSub, Int.reduceMul, Int.reduceNeg]
  rw [mapR_ok (e := fun z : Int × Int => D.prs [.int z.1, .int z.2]) (g := fun z => .int (z.1 * z.2)) fun z hz => by
    have h1 := hx z.1 (List.of_mem_zip hz).1
    simp (config := { maxSteps := 5000000 }) (disch := first | omega | assumption) only [r_ok, r_bad, m_add, m_sub, m_mulL, m_mulR, m_mod, m_fdiv, m_pow, m_lt, m_le, m_gt, m_ge, m_eq, m_ne, m_isN, m_notN, m_isB, m_notB, m_neg, m_asB, m_asI, m_len, m_lenT, m_int, m_intB, m_itL, m_itT, m_list, m_listT, m_listP, m_tupleL, m_tupleT, m_lst, m_tup, m_few, m_ap, m_lstOf, m_addL, m_addLO, m_rep1, m_ix0, m_ixT0, m_st0, m_ix1, m_ixT1, m_st1, m_ix2, m_ixT2, m_st2, m_ix3, m_ixT3, m_st3, m_ix4, m_ixT4, m_st4, m_ix5, m_ixT5, m_st5, m_ix, m_ixT, m_st, m_rng1, m_rng2, m_zipL, m_zipT, m_enum, m_enum2, m_enum2T, m_un2, m_un2P, m_un3P, m_un3, m_z2LL, m_z2TT, m_z2LT, m_z2TL, m_truB, m_truN, m_truI, m_truL, m_truT, m_nox, m_go, m_goR, List.length_cons, List.length_nil, List.length_map, List.length_append, List.length_set, decide_eq_true_eq, ↓reduceIte, Bool.false_eq_true, Bool.not_true, Bool.not_false, Bool.not_eq_true', decide_true, decide_false, decide_eq_false_iff_not, Bool.true_eq_false, Int.toNat_zero, Int.toNat_one, Int.reduceToNat, List.getElem_cons_zero, List.getElem_cons_succ, List.set_cons_zero, List.set_cons_succ, isNonB, Int.reducePow, Int.reduceLT, Int.reduceLE, Int.reduceAdd, Int.reduceSub, Int.reduceMul, Int.reduceNeg]]
  rw [m_few (by rw [List.length_map, List.length_zip]; omega)]
  simp (config := { maxSteps := 5000000 }) (disch := first | omega | assumption) only [r_ok, r_bad, m_add, m_sub, m_mulL, m_mulR, m_mod, m_fdiv, m_pow, m_lt, m_le, m_gt, m_ge, m_eq, m_ne, m_isN, m_notN, m_isB, m_notB, m_neg, m_asB, m_asI, m_len, m_lenT, m_int, m_intB, m_itL, m_itT, m_list, m_listT, m_listP, m_tupleL, m_tupleT, m_lst, m_tup, m_few, m_ap, m_lstOf, m_addL, m_addLO, m_rep1, m_ix0, m_ixT0, m_st0, m_ix1, m_ixT1, m_st1, m_ix2, m_ixT2, m_st2, m_ix3, m_ixT3, m_st3, m_ix4, m_ixT4, m_st4, m_ix5, m_ixT5, m_st5, m_ix, m_ixT, m_st, m_rng1, m_rng2, m_zipL, m_zipT, m_enum, m_enum2, m_enum2T, m_un2, m_un2P, m_un3P, m_un3, m_z2LL, m_z2TT, m_z2LT, m_z2TL, m_truB, m_truN, m_truI, m_truL, m_truT, m_nox, m_go, m_goR, List.length_cons, List.length_nil, List.length_map, List.length_append, List.length_set, decide_eq_true_eq, ↓reduceIte, Bool.false_eq_true, Bool.not_true, Bool.not_false, Bool.not_eq_true', decide_true, decide_false, decide_eq_false_iff_not, Bool.true_eq_false, Int.toNat_zero, Int.toNat_one, Int.reduceToNat, List.getElem_cons_zero, List.getElem_cons_succ, List.set_cons_zero, List.set_cons_succ, isNonB, Int.reducePow, Int.reduceLT, Int.reduceLE, Int.reduceAdd, Int.reduceSub, Int.reduceMul, Int.reduceNeg]
  have e : (xs.zip ys).map (fun z => D.int (z.1 * z.2)) = ((xs.zip ys).map fun z => z.1 * z.2).map .int := by rw [List.map_map]; rfl
  rw [e, m_sum]
  simp (config := { maxSteps := 5000000 }) (disch := first | omega | assumption) only [r_ok, r_bad, m_add, m_sub, m_mulL, m_mulR, m_mod, m_fdiv, m_pow, m_lt, m_le, m_gt, m_ge, m_eq, m_ne, m_isN, m_notN, m_isB, m_notB, m_neg, m_asB, m_asI, m_len, m_lenT, m_int, m_intB, m_itL, m_itT, m_list, m_listT, m_listP, m_tupleL, m_tupleT, m_lst, m_tup, m_few, m_ap, m_lstOf, m_addL, m_addLO, m_rep1, m_ix0, m_ixT0, m_st0, m_ix1, m_ixT1, m_st1, m_ix2, m_ixT2, m_st2, m_ix3, m_ixT3, m_st3, m_ix4, m_ixT4, m_st4, m_ix5, m_ixT5, m_st5, m_ix, m_ixT, m_st, m_rng1, m_rng2, m_zipL, m_zipT, m_enum, m_enum2, m_enum2T, m_un2, m_un2P, m_un3P, m_un3, m_z2LL, m_z2TT, m_z2LT, m_z2TL, m_truB, m_truN, m_truI, m_truL, m_truT, m_nox, m_go, m_goR, List.length_cons, List.length_nil, List.length_map, List.length_append, List.length_set, decide_eq_true_eq, ↓reduceIte, Bool.false_eq_true, Bool.not_true, Bool.not_false, Bool.not_eq_true', decide_true, decide_false, decide_eq_false_iff_not, Bool.true_eq_false, Int.toNat_zero, Int.toNat_one, Int.reduceToNat, List.getElem_cons_zero, List.getElem_cons_succ, List.set_cons_zero, List.set_cons_succ, isNonB, Int.reducePow, Int.reduceLT, Int.reduceLE, Int.reduceAdd, Int.reduceSub, Int.reduceMul, Int.reduceNeg]
theorem sum_ok {p : Int} {n : Nat} {B : List (List Int)} {es : List D} {x1 : D} {xs : List Int} (hp : 1 < p) (hp2 : p < 1000000) (hl : xs.length ≤ 1000) (hx : Lo p xs) (h1 : itM x1 = .ok es) (hB : IsRows es B) (hne : B ≠ []) (hn : ∀ r ∈ B, r.length = n) (hb : B.length ≤ 1000) (hn2 : n ≤ 1000) :
    M_sum_of (.lst (xs.map .int)) x1 (.int p) = .ok (rowT ((List.range n).map fun c => DM.comb B xs c % p)) := by
  unfold M_sum_of
  rw [h1, r_ok, List.append_nil, m_zipN hB hne hn (by omega), r_ok]
  rw [mapR_ok (e := fun c : Nat => rowT (B.map fun r => DM.gz r c)) (g := fun c => .int (DM.comb B xs c % p)) fun c _ => by
    rw [product_ok hp hp2 hl hx, r_ok, comb_sum]]
  rw [m_few (by rw [List.length_map, List.length_range]; omega), r_ok]
  have e : (List.range n).map (fun c => D.int (DM.comb B xs c % p)) = ((List.range n).map fun c => DM.comb B xs c % p).map .int := by rw [List.map_map]; rfl
  rw [e, tup_row, r_ok]
theorem map_not_nil {B : List (List Int)} (h : B ≠ []) : (B.map rowT).isEmpty = false := by
  cases B with
  | nil => exact (h rfl).elim
  | cons => rfl
theorem cleared_ok {p : Int} {n : Nat} {ld : List Int → Nat} {B : List (List Int)} {r : List Int} (hp : 1 < p) (hp2 : p < 1000000) (hn : n ≤ 1000) (hb : B.length ≤ 1000) (hB : ∀ h ∈ B, DM.Row p n h ∧ ld h < n ∧ DM.Lead h (ld h)) (hr : DM.Row p n r) :
    M_cleared (rowT r) (.lst (B.map rowT)) (.int p) = .ok (rowT (if B = [] then r else DM.cleared2 p n ld B r)) := by
  unfold M_cleared
  rw [m_truL, r_ok]
  by_cases q : B = []
  · subst q
    rw [if_pos rfl]
    exact congrArg (fun z => Res.bind z _) (m_tupleT _)
  · rw [if_neg q, map_not_nil q]
    simp (config := { maxSteps := 5000000 }) (disch := first | omega | assumption) only [r_ok, r_bad, m_add, m_sub, m_mulL, m_mulR, m_mod, m_fdiv, m_pow, m_lt, m_le, m_gt, m_ge, m_eq, m_ne, m_isN, m_notN, m_isB, m_notB, m_neg, m_asB, m_asI, m_len, m_lenT, m_int, m_intB, m_itL, m_itT, m_list, m_listT, m_listP, m_tupleL, m_tupleT, m_lst, m_tup, m_few, m_ap, m_lstOf, m_addL, m_addLO, m_rep1, m_ix0, m_ixT0, m_st0, m_ix1, m_ixT1, m_st1, m_ix2, m_ixT2, m_st2, m_ix3, m_ixT3, m_st3, m_ix4, m_ixT4, m_st4, m_ix5, m_ixT5, m_st5, m_ix, m_ixT, m_st, m_rng1, m_rng2, m_zipL, m_zipT, m_enum, m_enum2, m_enum2T, m_un2, m_un2P, m_un3P, m_un3, m_z2LL, m_z2TT, m_z2LT, m_z2TL, m_truB, m_truN, m_truI, m_truL, m_truT, m_nox, m_go, m_goR, List.length_cons, List.length_nil, List.length_map, List.length_append, List.length_set, decide_eq_true_eq, ↓reduceIte, Bool.false_eq_true, Bool.not_true, Bool.not_false, Bool.not_eq_true', decide_true, decide_false, decide_eq_false_iff_not, Bool.true_eq_false, Int.toNat_zero, Int.toNat_one, Int.reduceToNat, List.getElem_cons_zero, List.getElem_cons_succ, List.set_cons_zero, List.set_cons_succ, isNonB, Int.reducePow, Int.reduceLT, Int.reduceLE, Int.reduceAdd, Int.reduceSub, Int.reduceMul, Int.reduceNeg]
    rw [m_few (by rw [List.length_map]; omega), mapR_ok (e := rowT) (g := fun h => .int (DM.gz r (ld h))) fun h hh => by
      obtain ⟨_, h2, h3⟩ := hB h hh
      rw [lead_ok h3, r_ok, ix_row (by rw [hr.len]; exact h2), r_ok], r_ok]
    have e : B.map (fun h => D.int (DM.gz r (ld h))) = (B.map fun h => DM.gz r (ld h)).map .int := by rw [List.map_map]; rfl
    rw [e, sum_ok (n := n) (B := B) (es := B.map rowT) hp hp2 (by rw [List.length_map]; omega) (fun x hx => ?_) rfl (isRows_T B) q (fun h hh => (hB h hh).1.len) hb hn, r_ok]
    · show (zipM2 [rowT r, rowT (DM.takenOf p n ld B r)]).bind _ = _
      rw [zip_rows, r_ok, m_few (by rw [List.length_map, List.length_zip, hr.len]; omega)]
      rw [mapR_ok (e := fun z : Int × Int => D.prs [.int z.1, .int z.2]) (g := fun z => .int ((z.1 - z.2) % p)) fun z hz => by
        simp (config := { maxSteps := 5000000 }) (disch := first | omega | assumption) only [r_ok, r_bad, m_add, m_sub, m_mulL, m_mulR, m_mod, m_fdiv, m_pow, m_lt, m_le, m_gt, m_ge, m_eq, m_ne, m_isN, m_notN, m_isB, m_notB, m_neg, m_asB, m_asI, m_len, m_lenT, m_int, m_intB, m_itL, m_itT, m_list, m_listT, m_listP, m_tupleL, m_tupleT, m_lst, m_tup, m_few, m_ap, m_lstOf, m_addL, m_addLO, m_rep1, m_ix0, m_ixT0, m_st0, m_ix1, m_ixT1, m_st1, m_ix2, m_ixT2, m_st2, m_ix3, m_ixT3, m_st3, m_ix4, m_ixT4, m_st4, m_ix5, m_ixT5, m_st5, m_ix, m_ixT, m_st, m_rng1, m_rng2, m_zipL, m_zipT, m_enum, m_enum2, m_enum2T, m_un2, m_un2P, m_un3P, m_un3, m_z2LL, m_z2TT, m_z2LT, m_z2TL, m_truB, m_truN, m_truI, m_truL, m_truT, m_nox, m_go, m_goR, List.length_cons, List.length_nil, List.length_map, List.length_append, List.length_set, decide_eq_true_eq, ↓reduceIte, Bool.false_eq_true, Bool.not_true, Bool.not_false, Bool.not_eq_true', decide_true, decide_false, decide_eq_false_iff_not, Bool.true_eq_false, Int.toNat_zero, Int.toNat_one, Int.reduceToNat, List.getElem_cons_zero, List.getElem_cons_succ, List.set_cons_zero, List.set_cons_succ, isNonB, Int.reducePow, Int.reduceLT, Int.reduceLE, Int.reduceAdd, Int.reduceSub, Int.reduceMul, Int.reduceNeg]]
      rw [r_ok]
      have e2 : (r.zip (DM.takenOf p n ld B r)).map (fun z => D.int ((z.1 - z.2) % p)) = (DM.cleared2 p n ld B r).map .int := by
        unfold DM.cleared2
        rw [List.map_map]
        rfl
      rw [e2]
      rfl
    · obtain ⟨h, hh, rfl⟩ := List.mem_map.mp hx
      exact ⟨hr.lo _, hr.hi _⟩

/-- a while by what each state's turn is -/
theorem while_ok {σ τ : Type} {t : σ → Res Bool} {f : σ → Res σ} (e : τ → σ) (c : τ → Bool) (g : τ → τ) (P : τ → Prop) (ms : τ → Nat) (ht : ∀ x, P x → t (e x) = .ok (c x)) (hf : ∀ x, P x → c x = true → f (e x) = .ok (e (g x)) ∧ P (g x) ∧ ms (g x) < ms x) : ∀ (n : Nat) (x : τ), P x → ms x < n → ∃ y, whileM t f n (e x) = .ok (e y) ∧ P y ∧ c y = false
  | 0, x, _, h => by omega
  | n + 1, x, hx, h => by
    show ∃ y, ((t (e x)).bind fun b => if b then (f (e x)).bind (whileM t f n) else .ok (e x)) = _ ∧ _
    rw [ht x hx]
    cases q : c x with
    | false => exact ⟨x, rfl, hx, q⟩
    | true =>
      obtain ⟨h1, h2, h3⟩ := hf x hx q
      obtain ⟨y, k1, k2⟩ := while_ok e c g P ms ht hf n (g x) h2 (by omega)
      refine ⟨y, ?_, k2⟩
      show (f (e x)).bind (whileM t f n) = _
      rw [h1]
      exact k1
theorem first_ok {p : Int} {n : Nat} {r : List Int} (hn : n ≤ 1000) (hr : DM.Row p n r) (h : ∃ i, i < n ∧ DM.gz r i ≠ 0) : ∃ a, a < n ∧ DM.First r a ∧ M_first_other_than_zero (rowT r) = .ok (.int ((a : Nat) : Int)) := by
  obtain ⟨i0, hi0, hne⟩ := h
  unfold M_first_other_than_zero
  obtain ⟨y, k1, ⟨k2, k3⟩, k4⟩ := while_ok (t := fun s5 : D => (opM ixD (rowT r) s5).bind fun v9 => (opM eqD v9 (.int 0)).bind fun v10 => (asB v10).bind fun b8 => Res.ok b8) (f := fun s6 => (opM addD s6 (.int 1)).bind fun v11 => Res.ok v11)
    (fun a : Nat => D.int (a : Int)) (fun a => decide (DM.gz r a = 0)) (fun a => a + 1) (fun a => a ≤ i0 ∧ ∀ i, i < a → DM.gz r i = 0) (fun a => i0 - a) (fun a ⟨ha, _⟩ => by
      rw [ix_row (by rw [hr.len]; omega)]
      simp (config := { maxSteps := 5000000 }) (disch := first | omega | assumption) only [r_ok, r_bad, m_add, m_sub, m_mulL, m_mulR, m_mod, m_fdiv, m_pow, m_lt, m_le, m_gt, m_ge, m_eq, m_ne, m_isN, m_notN, m_isB, m_notB, m_neg, m_asB, m_asI, m_len, m_lenT, m_int, m_intB, m_itL, m_itT, m_list, m_listT, m_listP, m_tupleL, m_tupleT, m_lst, m_tup, m_few, m_ap, m_lstOf, m_addL, m_addLO, m_rep1, m_ix0, m_ixT0, m_st0, m_ix1, m_ixT1, m_st1, m_ix2, m_ixT2, m_st2, m_ix3, m_ixT3, m_st3, m_ix4, m_ixT4, m_st4, m_ix5, m_ixT5, m_st5, m_ix, m_ixT, m_st, m_rng1, m_rng2, m_zipL, m_zipT, m_enum, m_enum2, m_enum2T, m_un2, m_un2P, m_un3P, m_un3, m_z2LL, m_z2TT, m_z2LT, m_z2TL, m_truB, m_truN, m_truI, m_truL, m_truT, m_nox, m_go, m_goR, List.length_cons, List.length_nil, List.length_map, List.length_append, List.length_set, decide_eq_true_eq, ↓reduceIte, Bool.false_eq_true, Bool.not_true, Bool.not_false, Bool.not_eq_true', decide_true, decide_false, decide_eq_false_iff_not, Bool.true_eq_false, Int.toNat_zero, Int.toNat_one, Int.reduceToNat, List.getElem_cons_zero, List.getElem_cons_succ, List.set_cons_zero, List.set_cons_succ, isNonB, Int.reducePow, Int.reduceLT, Int.reduceLE, Int.reduceAdd, Int.reduceSub, Int.reduceMul, Int.reduceNeg]) (fun a ⟨ha, hz⟩ hc => by
      have hc : DM.gz r a = 0 := by simpa using hc
      have hlt : a < i0 := by
        rcases Nat.lt_or_ge a i0 with z | z
        · exact z
        · exact absurd (show DM.gz r i0 = 0 by rw [show i0 = a by omega]; exact hc) hne
      refine ⟨by simp (config := { maxSteps := 5000000 }) (disch := first | omega | assumption) only [r_ok, r_bad, m_add, m_sub, m_mulL, m_mulR, m_mod, m_fdiv, m_pow, m_lt, m_le, m_gt, m_ge, m_eq, m_ne, m_isN, m_notN, m_isB, m_notB, m_neg, m_asB, m_asI, m_len, m_lenT, m_int, m_intB, m_itL, m_itT, m_list, m_listT, m_listP, m_tupleL, m_tupleT, m_lst, m_tup, m_few, m_ap, m_lstOf, m_addL, m_addLO, m_rep1, m_ix0, m_ixT0, m_st0, m_ix1, m_ixT1, m_st1, m_ix2, m_ixT2, m_st2, m_ix3, m_ixT3, m_st3, m_ix4, m_ixT4, m_st4, m_ix5, m_ixT5, m_st5, m_ix, m_ixT, m_st, m_rng1, m_rng2, m_zipL, m_zipT, m_enum, m_enum2, m_enum2T, m_un2, m_un2P, m_un3P, m_un3, m_z2LL, m_z2TT, m_z2LT, m_z2TL, m_truB, m_truN, m_truI, m_truL, m_truT, m_nox, m_go, m_goR, List.length_cons, List.length_nil, List.length_map, List.length_append, List.length_set, decide_eq_true_eq, ↓reduceIte, Bool.false_eq_true, Bool.not_true, Bool.not_false, Bool.not_eq_true', decide_true, decide_false, decide_eq_false_iff_not, Bool.true_eq_false, Int.toNat_zero, Int.toNat_one, Int.reduceToNat, List.getElem_cons_zero, List.getElem_cons_succ, List.set_cons_zero, List.set_cons_succ, isNonB, Int.reducePow, Int.reduceLT, Int.reduceLE, Int.reduceAdd, Int.reduceSub, Int.reduceMul, Int.reduceNeg]; rfl, ⟨by omega, fun i hi => ?_⟩, by omega⟩
      by_cases e : i = a
      · rw [e]; exact hc
      · exact hz i (by omega)) fuelK 0 ⟨by omega, fun i hi => by omega⟩ (by rw [fuelK_eq]; omega)
  refine ⟨y, by omega, ⟨by simpa using k4, k3⟩, ?_⟩
  show (whileM _ _ fuelK (D.int ((0 : Nat) : Int))).bind _ = _
  rw [k1]
  rfl

theorem m_tup2 (a b : D) : tupM [a, b] = .ok (.tup [a, b]) := m_tup (by show 2 ≤ 100000; omega)
theorem inverse_ok {p x : Int} (hd : DM.NoDiv p) (hp2 : p < 1000000) (hc : M_check_modulus (.int p) = .ok .non) (h0 : 0 < x) (h1 : x < p) : ∃ i, M_inverse (.int x) (.int p) = .ok (.int i) ∧ 0 ≤ i ∧ i < p ∧ ∃ k, x * i = 1 + p * k := by
  unfold M_inverse
  have hx : x % p = x := Int.emod_eq_of_lt (by omega) h1
  have hp := hd.1
  obtain ⟨y, k1, ⟨k2, k3, k4⟩, k5⟩ := while_ok (t := fun s24 : D × D × D × D => (opM neD s24.2.1 (.int 1)).bind fun v28 => (asB v28).bind fun b27 => Res.ok b27) (f := fun s25 => (opM fdivD s25.1 s25.2.1).bind fun v29 => (opM mulD v29 s25.2.1).bind fun v30 => (opM subD s25.1 v30).bind fun v31 => (opM mulD v29 s25.2.2.2).bind fun v32 => (opM subD s25.2.2.1 v32).bind fun v33 => Res.ok (s25.2.1, v31, s25.2.2.2, v33))
    (fun a : Int × Int × Int × Int => (D.int a.1, D.int a.2.1, D.int a.2.2.1, D.int a.2.2.2)) (fun a => !decide (a.2.1 = 1)) (fun a => (a.2.1, a.1 - a.1 / a.2.1 * a.2.1, a.2.2.2, a.2.2.1 - a.1 / a.2.1 * a.2.2.2)) (fun a => DM.Euc p x a.1 a.2.1 a.2.2.1 a.2.2.2 ∧ a.1 ≤ p ∧ 0 ≤ a.1) (fun a => a.2.1.toNat) (fun a ⟨e, ha, hb⟩ => by
      simp (config := { maxSteps := 5000000 }) (disch := first | omega | assumption) only [r_ok, r_bad, m_add, m_sub, m_mulL, m_mulR, m_mod, m_fdiv, m_pow, m_lt, m_le, m_gt, m_ge, m_eq, m_ne, m_isN, m_notN, m_isB, m_notB, m_neg, m_asB, m_asI, m_len, m_lenT, m_int, m_intB, m_itL, m_itT, m_list, m_listT, m_listP, m_tupleL, m_tupleT, m_lst, m_tup, m_few, m_ap, m_lstOf, m_addL, m_addLO, m_rep1, m_ix0, m_ixT0, m_st0, m_ix1, m_ixT1, m_st1, m_ix2, m_ixT2, m_st2, m_ix3, m_ixT3, m_st3, m_ix4, m_ixT4, m_st4, m_ix5, m_ixT5, m_st5, m_ix, m_ixT, m_st, m_rng1, m_rng2, m_zipL, m_zipT, m_enum, m_enum2, m_enum2T, m_un2, m_un2P, m_un3P, m_un3, m_z2LL, m_z2TT, m_z2LT, m_z2TL, m_truB, m_truN, m_truI, m_truL, m_truT, m_nox, m_go, m_goR, List.length_cons, List.length_nil, List.length_map, List.length_append, List.length_set, decide_eq_true_eq, ↓reduceIte, Bool.false_eq_true, Bool.not_true, Bool.not_false, Bool.not_eq_true', decide_true, decide_false, decide_eq_false_iff_not, Bool.true_eq_false, Int.toNat_zero, Int.toNat_one, Int.reduceToNat, List.getElem_cons_zero, List.getElem_cons_succ, List.set_cons_zero, List.set_cons_succ, isNonB, Int.reducePow, Int.reduceLT, Int.reduceLE, Int.reduceAdd, Int.reduceSub, Int.reduceMul, Int.reduceNeg]) (fun a ⟨e, ha, hb⟩ hc => by
      have hc : a.2.1 ≠ 1 := by simpa using hc
      have t := e.turn hc
      have hpos := e.pos
      have hlt := e.lt
      have q0 : 0 ≤ a.1 / a.2.1 := Int.ediv_nonneg hb (by omega)
      have q1 : a.1 / a.2.1 ≤ a.1 := Int.ediv_le_self _ hb
      have tl := t.lt
      refine ⟨by simp (config := { maxSteps := 5000000 }) (disch := first | omega | assumption) only [r_ok, r_bad, m_add, m_sub, m_mulL, m_mulR, m_mod, m_fdiv, m_pow, m_lt, m_le, m_gt, m_ge, m_eq, m_ne, m_isN, m_notN, m_isB, m_notB, m_neg, m_asB, m_asI, m_len, m_lenT, m_int, m_intB, m_itL, m_itT, m_list, m_listT, m_listP, m_tupleL, m_tupleT, m_lst, m_tup, m_few, m_ap, m_lstOf, m_addL, m_addLO, m_rep1, m_ix0, m_ixT0, m_st0, m_ix1, m_ixT1, m_st1, m_ix2, m_ixT2, m_st2, m_ix3, m_ixT3, m_st3, m_ix4, m_ixT4, m_st4, m_ix5, m_ixT5, m_st5, m_ix, m_ixT, m_st, m_rng1, m_rng2, m_zipL, m_zipT, m_enum, m_enum2, m_enum2T, m_un2, m_un2P, m_un3P, m_un3, m_z2LL, m_z2TT, m_z2LT, m_z2TL, m_truB, m_truN, m_truI, m_truL, m_truT, m_nox, m_go, m_goR, List.length_cons, List.length_nil, List.length_map, List.length_append, List.length_set, decide_eq_true_eq, ↓reduceIte, Bool.false_eq_true, Bool.not_true, Bool.not_false, Bool.not_eq_true', decide_true, decide_false, decide_eq_false_iff_not, Bool.true_eq_false, Int.toNat_zero, Int.toNat_one, Int.reduceToNat, List.getElem_cons_zero, List.getElem_cons_succ, List.set_cons_zero, List.set_cons_succ, isNonB, Int.reducePow, Int.reduceLT, Int.reduceLE, Int.reduceAdd, Int.reduceSub, Int.reduceMul, Int.reduceNeg], ⟨t, by show a.2.1 ≤ p; omega, by show 0 ≤ a.2.1; omega⟩, ?_⟩
      show (a.1 - a.1 / a.2.1 * a.2.1).toNat < a.2.1.toNat
      omega) fuelK (p, x, 0, 1) ⟨DM.Euc.start hd h0 h1, by show p ≤ p; omega, by show 0 ≤ p; omega⟩ (by rw [fuelK_eq]; show x.toNat < 10000000; omega)
  have y1 : y.2.1 = 1 := by simpa using k5
  obtain ⟨a, b, c, d⟩ := y
  have y1 : b = 1 := y1
  subst y1
  obtain ⟨k, hk⟩ := DM.Euc.done k2
  refine ⟨d % p, ?_, Int.emod_nonneg _ (by omega), Int.emod_lt_of_pos _ (by omega), k, hk⟩
  rw [hc]
  have x0 : ¬ x = 0 := by omega
  dsimp only at k1
  simp (config := { maxSteps := 5000000 }) (disch := first | omega | assumption) only [hx, r_ok, r_bad, m_add, m_sub, m_mulL, m_mulR, m_mod, m_fdiv, m_pow, m_lt, m_le, m_gt, m_ge, m_eq, m_ne, m_isN, m_notN, m_isB, m_notB, m_neg, m_asB, m_asI, m_len, m_lenT, m_int, m_intB, m_itL, m_itT, m_list, m_listT, m_listP, m_tupleL, m_tupleT, m_lst, m_tup, m_few, m_ap, m_lstOf, m_addL, m_addLO, m_rep1, m_ix0, m_ixT0, m_st0, m_ix1, m_ixT1, m_st1, m_ix2, m_ixT2, m_st2, m_ix3, m_ixT3, m_st3, m_ix4, m_ixT4, m_st4, m_ix5, m_ixT5, m_st5, m_ix, m_ixT, m_st, m_rng1, m_rng2, m_zipL, m_zipT, m_enum, m_enum2, m_enum2T, m_un2, m_un2P, m_un3P, m_un3, m_z2LL, m_z2TT, m_z2LT, m_z2TL, m_truB, m_truN, m_truI, m_truL, m_truT, m_nox, m_go, m_goR, List.length_cons, List.length_nil, List.length_map, List.length_append, List.length_set, decide_eq_true_eq, ↓reduceIte, Bool.false_eq_true, Bool.not_true, Bool.not_false, Bool.not_eq_true', decide_true, decide_false, decide_eq_false_iff_not, Bool.true_eq_false, Int.toNat_zero, Int.toNat_one, Int.reduceToNat, List.getElem_cons_zero, List.getElem_cons_succ, List.set_cons_zero, List.set_cons_succ, isNonB, Int.reducePow, Int.reduceLT, Int.reduceLE, Int.reduceAdd, Int.reduceSub, Int.reduceMul, Int.reduceNeg]
  rw [if_neg x0]
  simp (config := { maxSteps := 5000000 }) (disch := first | omega | assumption) only [m_tup2, k1, r_ok, r_bad, m_add, m_sub, m_mulL, m_mulR, m_mod, m_fdiv, m_pow, m_lt, m_le, m_gt, m_ge, m_eq, m_ne, m_isN, m_notN, m_isB, m_notB, m_neg, m_asB, m_asI, m_len, m_lenT, m_int, m_intB, m_itL, m_itT, m_list, m_listT, m_listP, m_tupleL, m_tupleT, m_lst, m_tup, m_few, m_ap, m_lstOf, m_addL, m_addLO, m_rep1, m_ix0, m_ixT0, m_st0, m_ix1, m_ixT1, m_st1, m_ix2, m_ixT2, m_st2, m_ix3, m_ixT3, m_st3, m_ix4, m_ixT4, m_st4, m_ix5, m_ixT5, m_st5, m_ix, m_ixT, m_st, m_rng1, m_rng2, m_zipL, m_zipT, m_enum, m_enum2, m_enum2T, m_un2, m_un2P, m_un3P, m_un3, m_z2LL, m_z2TT, m_z2LT, m_z2TL, m_truB, m_truN, m_truI, m_truL, m_truT, m_nox, m_go, m_goR, List.length_cons, List.length_nil, List.length_map, List.length_append, List.length_set, decide_eq_true_eq, ↓reduceIte, Bool.false_eq_true, Bool.not_true, Bool.not_false, Bool.not_eq_true', decide_true, decide_false, decide_eq_false_iff_not, Bool.true_eq_false, Int.toNat_zero, Int.toNat_one, Int.reduceToNat, List.getElem_cons_zero, List.getElem_cons_succ, List.set_cons_zero, List.set_cons_succ, isNonB, Int.reducePow, Int.reduceLT, Int.reduceLE, Int.reduceAdd, Int.reduceSub, Int.reduceMul, Int.reduceNeg]

end K09

namespace K09
open PySem PySem.Spec PyProof.Rows L2 DL
def ldR (r : List Int) : Nat := (idxV (V.int 1) (r.map V.int)).getD 0
theorem ldR_eq {r : List Int} {l : Nat} (h : DM.Lead r l) : ldR r = l := by
  unfold ldR
  rw [idx_lead h]
  rfl
theorem it_row (r : List Int) : itM (rowT r) = .ok (r.map .int) := m_itT _
theorem times_ok {p f : Int} (hp : 1 < p) (hp2 : p < 1000000) (f0 : 0 ≤ f) (f1 : f < p) {n : Nat} {r : List Int} (hr : DM.Row p n r) : mapR (fun d18 => (opM mulD d18 (.int f)).bind fun v19 => (opM modD v19 (.int p)).bind fun v20 => Res.ok v20) (r.map .int) = .ok ((DM.times p f r).map .int) := by
  unfold DM.times
  rw [List.map_map]
  refine mapR_ok (e := D.int) fun x hx => ?_
  simp (config := { maxSteps := 5000000 }) (disch := first | omega | assumption) only [r_ok, r_bad, m_add, m_sub, m_mulL, m_mulR, m_mod, m_fdiv, m_pow, m_lt, m_le, m_gt, m_ge, m_eq, m_ne, m_isN, m_notN, m_isB, m_notB, m_neg, m_asB, m_asI, m_len, m_lenT, m_int, m_intB, m_itL, m_itT, m_list, m_listT, m_listP, m_tupleL, m_tupleT, m_lst, m_tup, m_few, m_ap, m_lstOf, m_addL, m_addLO, m_rep1, m_ix0, m_ixT0, m_st0, m_ix1, m_ixT1, m_st1, m_ix2, m_ixT2, m_st2, m_ix3, m_ixT3, m_st3, m_ix4, m_ixT4, m_st4, m_ix5, m_ixT5, m_st5, m_ix, m_ixT, m_st, m_rng1, m_rng2, m_zipL, m_zipT, m_enum, m_enum2, m_enum2T, m_un2, m_un2P, m_un3P, m_un3, m_z2LL, m_z2TT, m_z2LT, m_z2TL, m_truB, m_truN, m_truI, m_truL, m_truT, m_nox, m_go, m_goR, List.length_cons, List.length_nil, List.length_map, List.length_append, List.length_set, decide_eq_true_eq, ↓reduceIte, Bool.false_eq_true, Bool.not_true, Bool.not_false, Bool.not_eq_true', decide_true, decide_false, decide_eq_false_iff_not, Bool.true_eq_false, Int.toNat_zero, Int.toNat_one, Int.reduceToNat, List.getElem_cons_zero, List.getElem_cons_succ, List.set_cons_zero, List.set_cons_succ, isNonB, Int.reducePow, Int.reduceLT, Int.reduceLE, Int.reduceAdd, Int.reduceSub, Int.reduceMul, Int.reduceNeg]
  rfl
theorem sort_ok {nss : List (List Int)} {n : Nat} (hn : 1 ≤ n) (h : ∀ r ∈ nss, r.length = n) : newM sortRD [.lst (nss.map rowT)] = .ok (.lst ((sortDesc nss).map rowT)) := by
  have sl : sameLen nss = true := by
    cases nss with
    | nil => rfl
    | cons r rs =>
      unfold sameLen
      rw [Bool.and_eq_true, List.all_eq_true]
      have h1 := h r (List.mem_cons_self ..)
      exact ⟨by rw [h1]; exact decide_eq_true hn, fun x hx => by rw [h x hx, h1]; exact beq_self_eq_true n⟩
  have e : sortRD [.lst (nss.map rowT)] = some (.newL ((sortDesc nss).map rowT)) := by
    show (match rowsD (nss.map rowT) with
      | some nss => if sameLen nss then some (Out.newL ((sortDesc nss).map rowT)) else none
      | none => none) = _
    rw [rowsD_of]
    show (if sameLen nss = true then _ else _) = _
    rw [if_pos sl]
  unfold newM
  rw [e]
theorem basis_with_ok {p : Int} {n : Nat} {B : List (List Int)} {rest : List Int} (hd : DM.NoDiv p) (hp2 : p < 1000000) (hc : M_check_modulus (.int p) = .ok .non) (hn : 1 ≤ n) (hn2 : n ≤ 1000) (hB : ∀ r ∈ B, DM.Row p n r) (hl : B.length ≤ 1000) (hr : DM.Row p n rest) (hne : ∃ i, i < n ∧ DM.gz rest i ≠ 0) :
    ∃ a f, a < n ∧ DM.First rest a ∧ DM.gz rest a * f % p = 1 ∧ M_basis_with (.lst (B.map rowT)) (rowT rest) (.int p) = .ok (.lst ((sortDesc (B.map (DM.clearAt p a (DM.times p f rest)) ++ [DM.times p f rest])).map rowT)) := by
  have hp := hd.1
  obtain ⟨a, ha, F, e1⟩ := first_ok hn2 hr hne
  obtain ⟨f, e2, f0, f1, hf⟩ := inverse_ok hd hp2 hc (x := DM.gz rest a) (by have := hr.lo a; have := F.ne; omega) (hr.hi a)
  refine ⟨a, f, ha, F, DM.inv_one hp hf, ?_⟩
  have ht := DM.times_row (f := f) (by omega) hr
  have hb : mapR (fun d24 => (M_cleared_at d24 (.int (a : Int)) (rowT (DM.times p f rest)) (.int p)).bind fun v25 => Res.ok v25) (B.map rowT) = .ok ((B.map (DM.clearAt p a (DM.times p f rest))).map rowT) := by
    rw [List.map_map]
    refine mapR_ok (e := rowT) fun x hx => ?_
    rw [cleared_at hp hp2 (hB x hx) ht hn2 ha]
    rfl
  unfold M_basis_with
  rw [e1, r_ok, ix_row (by rw [hr.len]; exact ha), r_ok, e2, r_ok, it_row, r_ok, m_few (by rw [List.length_map, hr.len]; omega), times_ok hp hp2 f0 f1 hr, r_ok, tup_row, r_ok, m_itL, r_ok, m_few (by rw [List.length_map]; omega), hb, r_ok, m_lst (by show 1 ≤ 100000; omega), r_ok, m_addL (by rw [List.length_map, List.length_map]; show B.length + 1 ≤ 100000; omega), r_ok]
  have e3 : (B.map (DM.clearAt p a (DM.times p f rest))).map rowT ++ [rowT (DM.times p f rest)] = (B.map (DM.clearAt p a (DM.times p f rest)) ++ [DM.times p f rest]).map rowT := by
    rw [List.map_append]
    rfl
  rw [e3, sort_ok hn fun r hr' => ?_, r_ok]
  rcases List.mem_append.mp hr' with z | z
  · obtain ⟨x, hx, e⟩ := List.mem_map.mp z
    rw [← e]
    exact (DM.clear_row (by omega) (hB x hx) ht).len
  · rw [List.mem_singleton.mp z]
    exact ht.len

end K09

namespace K09
open PySem PySem.Spec PyProof.Rows L2 DL
theorem any_row (ns : List Int) : fnM anyD2 [rowT ns] = .ok (.bl (ns.any fun n => n != 0)) := by
  have e : anyD2 [rowT ns] = some (.same (.bl (ns.any fun n => n != 0))) := by
    show (intsD (ns.map .int)).map _ = _
    rw [intsD_of]
    rfl
  unfold fnM
  rw [e]
  rfl
theorem any_gz {n : Nat} {r : List Int} (hl : r.length = n) : (r.any fun x => x != 0) = true ↔ ∃ i, i < n ∧ DM.gz r i ≠ 0 := by
  rw [List.any_eq_true]
  constructor
  · rintro ⟨x, hx, e⟩
    obtain ⟨i, hi, rfl⟩ := List.getElem_of_mem hx
    refine ⟨i, by omega, ?_⟩
    unfold DM.gz
    rw [List.getD_eq_getElem?_getD, List.getElem?_eq_getElem hi]
    simpa using e
  · rintro ⟨i, hi, e⟩
    have hi' : i < r.length := by omega
    refine ⟨r[i], List.getElem_mem hi', ?_⟩
    unfold DM.gz at e
    rw [List.getD_eq_getElem?_getD, List.getElem?_eq_getElem hi'] at e
    simpa using e
theorem gz_out {n : Nat} {r : List Int} (hl : r.length = n) {i : Nat} (h : ¬ i < n) : DM.gz r i = 0 := by
  unfold DM.gz
  rw [List.getD_eq_getElem?_getD, List.getElem?_eq_none (by omega)]
  rfl
/-- a turn of reduced_basis -/
theorem turn_ok {p : Int} {n : Nat} {B : List (List Int)} {r : List Int} (hd : DM.NoDiv p) (hp2 : p < 1000000) (hc : M_check_modulus (.int p) = .ok .non) (hn : 1 ≤ n) (hn2 : n ≤ 1000) (hB : DM.Red p n B) (nd : B.Nodup) (hl : B.length ≤ 1000) (hr : DM.Row p n r) :
    ∃ N, DM.Turn p n B r N ∧ N.Nodup ∧ N.length ≤ B.length + 1 ∧ ((M_cleared (rowT r) (.lst (B.map rowT)) (.int p)).bind fun v18 => (fnM anyD2 [v18]).bind fun v20 => (asB v20).bind fun b19 => if b19 then (M_basis_with (.lst (B.map rowT)) v18 (.int p)).bind fun v21 => Res.ok v21 else Res.ok (.lst (B.map rowT))) = .ok (.lst (N.map rowT)) := by
  have hp := hd.1
  have hL : ∀ h ∈ B, DM.Row p n h ∧ ldR h < n ∧ DM.Lead h (ldR h) := fun h hh => by
    obtain ⟨l, hl', L⟩ := hB.lead h hh
    rw [ldR_eq L]
    exact ⟨hB.row h hh, hl', L⟩
  have e1 := cleared_ok (ld := ldR) (r := r) hp hp2 hn2 hl hL hr
  obtain ⟨h1, h2, u, hu, h4⟩ : DM.Row p n (if B = [] then r else DM.cleared2 p n ldR B r) ∧ (∀ h ∈ B, DM.gz (if B = [] then r else DM.cleared2 p n ldR B r) (ldR h) = 0) ∧ ∃ u, DM.Sp p (DM.InR B) u ∧ ∀ i, ∃ k, DM.gz (if B = [] then r else DM.cleared2 p n ldR B r) i = DM.gz r i + u i + p * k := by
    split
    · rename_i q
      exact ⟨hr, fun h hh => by rw [q] at hh; simp at hh, fun _ => 0, .zero fun _ => ⟨0, by simp⟩, fun i => ⟨0, by simp⟩⟩
    · exact DM.cleared2_spec hp hB nd (fun h hh => (hL h hh).2.2) hr
  rw [e1, r_ok, any_row, r_ok]
  generalize (if B = [] then r else DM.cleared2 p n ldR B r) = rest at *
  have hz : ∀ h ∈ B, ∀ l, DM.Lead h l → DM.gz rest l = 0 := fun h hh l L => by
    have := h2 h hh
    rw [ldR_eq L] at this
    exact this
  cases q : rest.any fun x => x != 0 with
  | false =>
    refine ⟨B, DM.turn_none hB hu h4 fun i => ?_, nd, by omega, ?_⟩
    · by_cases hi : i < n
      · false_or_by_contra
        rename_i z
        have := (any_gz h1.len).mpr ⟨i, hi, z⟩
        rw [q] at this
        cases this
      · exact gz_out h1.len hi
    · simp (config := { maxSteps := 5000000 }) (disch := first | omega | assumption) only [r_ok, r_bad, m_add, m_sub, m_mulL, m_mulR, m_mod, m_fdiv, m_pow, m_lt, m_le, m_gt, m_ge, m_eq, m_ne, m_isN, m_notN, m_isB, m_notB, m_neg, m_asB, m_asI, m_len, m_lenT, m_int, m_intB, m_itL, m_itT, m_list, m_listT, m_listP, m_tupleL, m_tupleT, m_lst, m_tup, m_few, m_ap, m_lstOf, m_addL, m_addLO, m_rep1, m_ix0, m_ixT0, m_st0, m_ix1, m_ixT1, m_st1, m_ix2, m_ixT2, m_st2, m_ix3, m_ixT3, m_st3, m_ix4, m_ixT4, m_st4, m_ix5, m_ixT5, m_st5, m_ix, m_ixT, m_st, m_rng1, m_rng2, m_zipL, m_zipT, m_enum, m_enum2, m_enum2T, m_un2, m_un2P, m_un3P, m_un3, m_z2LL, m_z2TT, m_z2LT, m_z2TL, m_truB, m_truN, m_truI, m_truL, m_truT, m_nox, m_go, m_goR, List.length_cons, List.length_nil, List.length_map, List.length_append, List.length_set, decide_eq_true_eq, ↓reduceIte, Bool.false_eq_true, Bool.not_true, Bool.not_false, Bool.not_eq_true', decide_true, decide_false, decide_eq_false_iff_not, Bool.true_eq_false, Int.toNat_zero, Int.toNat_one, Int.reduceToNat, List.getElem_cons_zero, List.getElem_cons_succ, List.set_cons_zero, List.set_cons_succ, isNonB, Int.reducePow, Int.reduceLT, Int.reduceLE, Int.reduceAdd, Int.reduceSub, Int.reduceMul, Int.reduceNeg]
      first | done | rfl
  | true =>
    obtain ⟨a, f, ha, F, hf, e2⟩ := basis_with_ok hd hp2 hc hn hn2 hB.row hl h1 ((any_gz h1.len).mp q)
    refine ⟨sortDesc (B.map (DM.clearAt p a (DM.times p f rest)) ++ [DM.times p f rest]), DM.turn_some hp hB h1 hz hu h4 F ha hf (fun x => ?_), ?_, ?_, ?_⟩
    · rw [(sortDesc_perm _).mem_iff, List.mem_append, List.mem_singleton, List.mem_map]
      constructor
      · rintro (⟨s, hs, e⟩ | e)
        · exact .inr ⟨s, hs, e.symm⟩
        · exact .inl e
      · rintro (e | ⟨s, hs, e⟩)
        · exact .inr e
        · exact .inl ⟨s, hs, e.symm⟩
    · rw [(sortDesc_perm _).nodup_iff]
      have ht := DM.times_row (f := f) (p := p) (by omega) h1
      exact DM.with_nodup hB nd hz ht.len ⟨by rw [DM.times_at]; exact hf, fun i hi => by rw [DM.times_at, F.zero i hi]; simp⟩ fun i hi => by rw [DM.times_at, hi]; simp
    · rw [(sortDesc_perm _).length_eq]
      simp
    · show (M_basis_with (.lst (B.map rowT)) (rowT rest) (.int p)).bind _ = _
      rw [e2]
      rfl

end K09

namespace K09
open PySem PySem.Spec PyProof.Rows L2 DL
theorem turn_span {p : Int} {n : Nat} {B N M rows : List (List Int)} {r : List Int} (t : DM.Turn p n B r N) (h2 : ∀ v, DM.Sp p (DM.InR M) v ↔ DM.Sp p (fun w => DM.InR N w ∨ DM.InR rows w) v) : ∀ v, DM.Sp p (DM.InR M) v ↔ DM.Sp p (fun w => DM.InR B w ∨ DM.InR (r :: rows) w) v := fun v => by
  rw [h2 v]
  constructor
  · refine DM.Sp.mono fun w hw => ?_
    rcases hw with hw | ⟨s, hs', e⟩
    · refine ((t.span w).mp (DM.Sp.one hw)).mono fun x hx => ?_
      rcases hx with hx | hx
      · exact DM.Sp.one (.inl hx)
      · exact DM.Sp.one (.inr ⟨r, List.mem_cons_self .., hx⟩)
    · exact DM.Sp.one (.inr ⟨s, List.mem_cons_of_mem _ hs', e⟩)
  · refine DM.Sp.mono fun w hw => ?_
    rcases hw with hw | ⟨s, hs', e⟩
    · exact ((t.span w).mpr (DM.Sp.one (.inl hw))).mono fun x hx => DM.Sp.one (.inl hx)
    · rcases List.mem_cons.mp hs' with q | hs'
      · exact ((t.span w).mpr (DM.Sp.one (.inr (by rw [e, q])))).mono fun x hx => DM.Sp.one (.inl hx)
      · exact DM.Sp.one (.inr ⟨s, hs', e⟩)
theorem red_fold {p : Int} {n : Nat} (hd : DM.NoDiv p) (hp2 : p < 1000000) (hc : M_check_modulus (.int p) = .ok .non) (hn : 1 ≤ n) (hn2 : n ≤ 1000) : ∀ (rows B : List (List Int)), DM.Red p n B → B.Nodup → B.length + rows.length ≤ 1000 → (∀ r ∈ rows, DM.Row p n r) →
    ∃ N, foldR (fun s14 d13 => (M_cleared d13 s14 (.int p)).bind fun v18 => (fnM anyD2 [v18]).bind fun v20 => (asB v20).bind fun b19 => if b19 then (M_basis_with s14 v18 (.int p)).bind fun v21 => Res.ok v21 else Res.ok s14) (rows.map rowT) (.lst (B.map rowT)) = .ok (.lst (N.map rowT)) ∧ DM.Red p n N ∧ N.Nodup ∧ N.length ≤ 1000 ∧ ∀ v, DM.Sp p (DM.InR N) v ↔ DM.Sp p (fun w => DM.InR B w ∨ DM.InR rows w) v
  | [], B, hB, nd, hl, _ => ⟨B, rfl, hB, nd, by simpa using hl, fun v => ⟨DM.Sp.mono fun w hw => DM.Sp.one (.inl hw), DM.Sp.mono fun w hw => by
      rcases hw with hw | ⟨r, hr, _⟩
      · exact DM.Sp.one hw
      · simp at hr⟩⟩
  | r :: rows, B, hB, nd, hl, hr => by
    rw [List.length_cons] at hl
    obtain ⟨N, t, nd1, l1, e1⟩ := turn_ok hd hp2 hc hn hn2 hB nd (by omega) (hr r (List.mem_cons_self ..))
    obtain ⟨M, e2, h1, nd2, l2, h2⟩ := red_fold hd hp2 hc hn hn2 rows N t.red nd1 (by omega) fun x hx => hr x (List.mem_cons_of_mem _ hx)
    refine ⟨M, ?_, h1, nd2, l2, turn_span t h2⟩
    exact (congrArg (fun z => Res.bind z _) e1).trans e2
theorem reduced_ok {p : Int} {n : Nat} {rows : List (List Int)} (hd : DM.NoDiv p) (hp2 : p < 1000000) (hc : M_check_modulus (.int p) = .ok .non) (hn : 1 ≤ n) (hn2 : n ≤ 1000) (hl : rows.length ≤ 1000) (hr : ∀ r ∈ rows, DM.Row p n r) :
    ∃ N, M_reduced_basis (.lst (rows.map rowT)) (.int p) = .ok (.lst (N.map rowT)) ∧ DM.Red p n N ∧ N.Nodup ∧ N.length ≤ 1000 ∧ ∀ v, DM.Sp p (DM.InR N) v ↔ DM.Sp p (DM.InR rows) v := by
  obtain ⟨N, e, h1, nd1, l1, h2⟩ := red_fold hd hp2 hc hn hn2 rows [] DM.red_nil List.nodup_nil (by simpa using hl) hr
  refine ⟨N, ?_, h1, nd1, l1, fun v => ?_⟩
  · unfold M_reduced_basis M_widened
    rw [m_lst (by show 0 ≤ 100000; omega), r_ok, m_itL, r_ok]
    exact congrArg (fun z => Res.bind (Res.bind z fun s => Res.ok s) _) e
  · rw [h2 v]
    constructor
    · refine DM.Sp.mono fun w hw => ?_
      rcases hw with ⟨r, hr, _⟩ | hw
      · simp at hr
      · exact DM.Sp.one hw
    · exact DM.Sp.mono fun w hw => DM.Sp.one (.inr hw)

end K09

namespace K09
open PySem PySem.Spec PyProof.Rows L2 DL
/-! ### the moduli of the laws -/
structure Pr (p : Int) : Prop where
  nd : DM.NoDiv p
  lo : 10007 ≤ p
  hi : p ≤ 999983
theorem loop_none {p : Int} (hd : DM.NoDiv p) (h1 : p < 1000000) : ∀ ds : List Int, (∀ d ∈ ds, 2 ≤ d ∧ d * d ≤ p) → loopR (fun (s24 : Unit) d23 => (opM modD (.int p) d23).bind fun v27 => (opM eqD v27 (.int 0)).bind fun v28 => (asB v28).bind fun b26 => if b26 then Res.ok (Ft.rt (D.bl false)) else Res.ok (Ft.nx ())) (ds.map .int) () = .ok (.nx ())
  | [], _ => rfl
  | d :: ds, h => by
    obtain ⟨h2, h3⟩ := h d (List.mem_cons_self ..)
    have hd' := hd.2 d h2 h3
    rw [List.map_cons, loopR_cons _ _ _ _ (s' := ()) (by
      simp (config := { maxSteps := 5000000 }) (disch := first | omega | assumption) only [r_ok, r_bad, m_add, m_sub, m_mulL, m_mulR, m_mod, m_fdiv, m_pow, m_lt, m_le, m_gt, m_ge, m_eq, m_ne, m_isN, m_notN, m_isB, m_notB, m_neg, m_asB, m_asI, m_len, m_lenT, m_int, m_intB, m_itL, m_itT, m_list, m_listT, m_listP, m_tupleL, m_tupleT, m_lst, m_tup, m_few, m_ap, m_lstOf, m_addL, m_addLO, m_rep1, m_ix0, m_ixT0, m_st0, m_ix1, m_ixT1, m_st1, m_ix2, m_ixT2, m_st2, m_ix3, m_ixT3, m_st3, m_ix4, m_ixT4, m_st4, m_ix5, m_ixT5, m_st5, m_ix, m_ixT, m_st, m_rng1, m_rng2, m_zipL, m_zipT, m_enum, m_enum2, m_enum2T, m_un2, m_un2P, m_un3P, m_un3, m_z2LL, m_z2TT, m_z2LT, m_z2TL, m_truB, m_truN, m_truI, m_truL, m_truT, m_nox, m_go, m_goR, List.length_cons, List.length_nil, List.length_map, List.length_append, List.length_set, decide_eq_true_eq, ↓reduceIte, Bool.false_eq_true, Bool.not_true, Bool.not_false, Bool.not_eq_true', decide_true, decide_false, decide_eq_false_iff_not, Bool.true_eq_false, Int.toNat_zero, Int.toNat_one, Int.reduceToNat, List.getElem_cons_zero, List.getElem_cons_succ, List.set_cons_zero, List.set_cons_succ, isNonB, Int.reducePow, Int.reduceLT, Int.reduceLE, Int.reduceAdd, Int.reduceSub, Int.reduceMul, Int.reduceNeg]
      rw [if_neg hd'])]
    exact loop_none hd h1 ds fun e he => h e (List.mem_cons_of_mem _ he)
theorem number_ok (i : Int) : M_is_number (.int i) = .ok (.bl true) := by
  unfold M_is_number
  rfl
theorem modulus_ok {p : Int} (h : Pr p) : M_is_modulus (.int p) = .ok (.bl true) := by
  have h1 := h.lo
  have h2 := h.hi
  unfold M_is_modulus
  rw [number_ok]
  simp (config := { maxSteps := 5000000 }) (disch := first | omega | assumption) only [r_ok, r_bad, m_add, m_sub, m_mulL, m_mulR, m_mod, m_fdiv, m_pow, m_lt, m_le, m_gt, m_ge, m_eq, m_ne, m_isN, m_notN, m_isB, m_notB, m_neg, m_asB, m_asI, m_len, m_lenT, m_int, m_intB, m_itL, m_itT, m_list, m_listT, m_listP, m_tupleL, m_tupleT, m_lst, m_tup, m_few, m_ap, m_lstOf, m_addL, m_addLO, m_rep1, m_ix0, m_ixT0, m_st0, m_ix1, m_ixT1, m_st1, m_ix2, m_ixT2, m_st2, m_ix3, m_ixT3, m_st3, m_ix4, m_ixT4, m_st4, m_ix5, m_ixT5, m_st5, m_ix, m_ixT, m_st, m_rng1, m_rng2, m_zipL, m_zipT, m_enum, m_enum2, m_enum2T, m_un2, m_un2P, m_un3P, m_un3, m_z2LL, m_z2TT, m_z2LT, m_z2TL, m_truB, m_truN, m_truI, m_truL, m_truT, m_nox, m_go, m_goR, List.length_cons, List.length_nil, List.length_map, List.length_append, List.length_set, decide_eq_true_eq, ↓reduceIte, Bool.false_eq_true, Bool.not_true, Bool.not_false, Bool.not_eq_true', decide_true, decide_false, decide_eq_false_iff_not, Bool.true_eq_false, Int.toNat_zero, Int.toNat_one, Int.reduceToNat, List.getElem_cons_zero, List.getElem_cons_succ, List.set_cons_zero, List.set_cons_succ, isNonB, Int.reducePow, Int.reduceLT, Int.reduceLE, Int.reduceAdd, Int.reduceSub, Int.reduceMul, Int.reduceNeg]
  rw [if_neg (by omega), r_ok]
  simp (config := { maxSteps := 5000000 }) (disch := first | omega | assumption) only [r_ok, r_bad, m_add, m_sub, m_mulL, m_mulR, m_mod, m_fdiv, m_pow, m_lt, m_le, m_gt, m_ge, m_eq, m_ne, m_isN, m_notN, m_isB, m_notB, m_neg, m_asB, m_asI, m_len, m_lenT, m_int, m_intB, m_itL, m_itT, m_list, m_listT, m_listP, m_tupleL, m_tupleT, m_lst, m_tup, m_few, m_ap, m_lstOf, m_addL, m_addLO, m_rep1, m_ix0, m_ixT0, m_st0, m_ix1, m_ixT1, m_st1, m_ix2, m_ixT2, m_st2, m_ix3, m_ixT3, m_st3, m_ix4, m_ixT4, m_st4, m_ix5, m_ixT5, m_st5, m_ix, m_ixT, m_st, m_rng1, m_rng2, m_zipL, m_zipT, m_enum, m_enum2, m_enum2T, m_un2, m_un2P, m_un3P, m_un3, m_z2LL, m_z2TT, m_z2LT, m_z2TL, m_truB, m_truN, m_truI, m_truL, m_truT, m_nox, m_go, m_goR, List.length_cons, List.length_nil, List.length_map, List.length_append, List.length_set, decide_eq_true_eq, ↓reduceIte, Bool.false_eq_true, Bool.not_true, Bool.not_false, Bool.not_eq_true', decide_true, decide_false, decide_eq_false_iff_not, Bool.true_eq_false, Int.toNat_zero, Int.toNat_one, Int.reduceToNat, List.getElem_cons_zero, List.getElem_cons_succ, List.set_cons_zero, List.set_cons_succ, isNonB, Int.reducePow, Int.reduceLT, Int.reduceLE, Int.reduceAdd, Int.reduceSub, Int.reduceMul, Int.reduceNeg]
  rw [if_neg (by omega)]
  have hq : fnM isqrtD [.int p] = .ok (.int ((Float64.isqrt p.toNat : Nat) : Int)) := by
    unfold fnM isqrtD
    dsimp only
    rw [if_pos ⟨by omega, by omega⟩]
    rfl
  have hs := (Float64.isqrt_spec p.toNat).1
  rw [hq]
  generalize Float64.isqrt p.toNat = q at hs
  have hqp : q ≤ 1000 := by
    rcases Nat.lt_or_ge 1000 q with z | z
    · have := Nat.mul_le_mul (Nat.le_of_lt z) (Nat.le_of_lt z)
      omega
    · exact z
  simp (config := { maxSteps := 5000000 }) (disch := first | omega | assumption) only [r_ok, r_bad, m_add, m_sub, m_mulL, m_mulR, m_mod, m_fdiv, m_pow, m_lt, m_le, m_gt, m_ge, m_eq, m_ne, m_isN, m_notN, m_isB, m_notB, m_neg, m_asB, m_asI, m_len, m_lenT, m_int, m_intB, m_itL, m_itT, m_list, m_listT, m_listP, m_tupleL, m_tupleT, m_lst, m_tup, m_few, m_ap, m_lstOf, m_addL, m_addLO, m_rep1, m_ix0, m_ixT0, m_st0, m_ix1, m_ixT1, m_st1, m_ix2, m_ixT2, m_st2, m_ix3, m_ixT3, m_st3, m_ix4, m_ixT4, m_st4, m_ix5, m_ixT5, m_st5, m_ix, m_ixT, m_st, m_rng1, m_rng2, m_zipL, m_zipT, m_enum, m_enum2, m_enum2T, m_un2, m_un2P, m_un3P, m_un3, m_z2LL, m_z2TT, m_z2LT, m_z2TL, m_truB, m_truN, m_truI, m_truL, m_truT, m_nox, m_go, m_goR, List.length_cons, List.length_nil, List.length_map, List.length_append, List.length_set, decide_eq_true_eq, ↓reduceIte, Bool.false_eq_true, Bool.not_true, Bool.not_false, Bool.not_eq_true', decide_true, decide_false, decide_eq_false_iff_not, Bool.true_eq_false, Int.toNat_zero, Int.toNat_one, Int.reduceToNat, List.getElem_cons_zero, List.getElem_cons_succ, List.set_cons_zero, List.set_cons_succ, isNonB, Int.reducePow, Int.reduceLT, Int.reduceLE, Int.reduceAdd, Int.reduceSub, Int.reduceMul, Int.reduceNeg]
  have e : rangeD 2 ((q : Int) + 1 - 2).toNat = (((List.range ((q : Int) + 1 - 2).toNat).map fun i : Nat => 2 + (i : Int))).map .int := by rw [rangeD_map, List.map_map]; rfl
  rw [e, loop_none h.nd (by omega) _ fun d hd => by
    obtain ⟨i, hi, rfl⟩ := List.mem_map.mp hd
    have hi := List.mem_range.mp hi
    refine ⟨by omega, ?_⟩
    have h3 : i + 2 ≤ q := by omega
    have h4 := Nat.mul_le_mul h3 h3
    have h5 : (i + 2) * (i + 2) ≤ p.toNat := Nat.le_trans h4 hs
    have h6 : (((i + 2) * (i + 2) : Nat) : Int) ≤ p := by omega
    rw [Int.natCast_mul] at h6
    have h7 : ((i + 2 : Nat) : Int) = 2 + (i : Int) := by omega
    rw [h7] at h6
    exact h6]
  rfl
theorem check_ok {p : Int} (h : Pr p) : M_check_modulus (.int p) = .ok .non := by
  unfold M_check_modulus
  rw [modulus_ok h]
  rfl
theorem pr1 : Pr 10007 := ⟨DM.nd1, by decide, by decide⟩
theorem pr2 : Pr 10009 := ⟨DM.nd2, by decide, by decide⟩
theorem pr3 : Pr 65537 := ⟨DM.nd3, by decide, by decide⟩
theorem pr4 : Pr 104729 := ⟨DM.nd4, by decide, by decide⟩
theorem pr5 : Pr 999983 := ⟨DM.nd5, by decide, by decide⟩
/-! ### vectors that are looked at -/
theorem letter_ok {p x : Int} (h0 : 0 ≤ x) (h1 : x < p) : M_is_letter (.int x) (.int p) = .ok (.bl true) := by
  unfold M_is_letter
  rw [number_ok]
  simp (config := { maxSteps := 5000000 }) (disch := first | omega | assumption) only [r_ok, r_bad, m_add, m_sub, m_mulL, m_mulR, m_mod, m_fdiv, m_pow, m_lt, m_le, m_gt, m_ge, m_eq, m_ne, m_isN, m_notN, m_isB, m_notB, m_neg, m_asB, m_asI, m_len, m_lenT, m_int, m_intB, m_itL, m_itT, m_list, m_listT, m_listP, m_tupleL, m_tupleT, m_lst, m_tup, m_few, m_ap, m_lstOf, m_addL, m_addLO, m_rep1, m_ix0, m_ixT0, m_st0, m_ix1, m_ixT1, m_st1, m_ix2, m_ixT2, m_st2, m_ix3, m_ixT3, m_st3, m_ix4, m_ixT4, m_st4, m_ix5, m_ixT5, m_st5, m_ix, m_ixT, m_st, m_rng1, m_rng2, m_zipL, m_zipT, m_enum, m_enum2, m_enum2T, m_un2, m_un2P, m_un3P, m_un3, m_z2LL, m_z2TT, m_z2LT, m_z2TL, m_truB, m_truN, m_truI, m_truL, m_truT, m_nox, m_go, m_goR, List.length_cons, List.length_nil, List.length_map, List.length_append, List.length_set, decide_eq_true_eq, ↓reduceIte, Bool.false_eq_true, Bool.not_true, Bool.not_false, Bool.not_eq_true', decide_true, decide_false, decide_eq_false_iff_not, Bool.true_eq_false, Int.toNat_zero, Int.toNat_one, Int.reduceToNat, List.getElem_cons_zero, List.getElem_cons_succ, List.set_cons_zero, List.set_cons_succ, isNonB, Int.reducePow, Int.reduceLT, Int.reduceLE, Int.reduceAdd, Int.reduceSub, Int.reduceMul, Int.reduceNeg]
  rw [if_pos h0, r_ok, r_ok, decide_eq_true h1]
theorem all_true {α : Type} (xs : List α) : fnM allD [.lst (xs.map fun _ => .bl true)] = .ok (.bl true) := by
  have e : allD [.lst (xs.map fun _ => D.bl true)] = some (.same (.bl true)) := by
    show (boolsD (xs.map fun _ => D.bl true)).map _ = _
    have : boolsD (xs.map fun _ => D.bl true) = some (xs.map fun _ => true) := by
      induction xs with
      | nil => rfl
      | cons x xs ih =>
        show (boolsD (xs.map fun _ => D.bl true)).map (true :: ·) = _
        rw [ih]
        rfl
    rw [this]
    show some (Out.same (.bl ((xs.map fun _ => true).all id))) = _
    have : (xs.map fun _ => true).all id = true := by simp
    rw [this]
  unfold fnM
  rw [e]
  rfl
/-- a list or a tuple of numbers -/
def VecD (d : D) (r : List Int) : Prop := d = .lst (r.map .int) ∨ d = rowT r
theorem VecD.it {d : D} {r : List Int} (h : VecD d r) : itM d = .ok (r.map .int) := by rcases h with rfl | rfl <;> rfl
theorem VecD.len {d : D} {r : List Int} (h : VecD d r) : fnM lenD [d] = .ok (.int r.length) := by
  rcases h with rfl | rfl
  · rw [m_len, List.length_map]
  · show fnM lenD [.tup (r.map .int)] = _
    rw [m_lenT, List.length_map]
theorem VecD.isi {d : D} {r : List Int} (h : VecD d r) : isiM [.list, .tuple] d = .ok (.bl true) := by rcases h with rfl | rfl <;> rfl
theorem vector_ok {p : Int} {d : D} {r : List Int} (h : VecD d r) (hl : r.length ≤ 1000) (hr : Lo p r) : M_is_vector d (.int p) = .ok (.bl true) := by
  unfold M_is_vector
  rw [h.isi, h.it]
  simp (config := { maxSteps := 5000000 }) (disch := first | omega | assumption) only [r_ok, r_bad, m_add, m_sub, m_mulL, m_mulR, m_mod, m_fdiv, m_pow, m_lt, m_le, m_gt, m_ge, m_eq, m_ne, m_isN, m_notN, m_isB, m_notB, m_neg, m_asB, m_asI, m_len, m_lenT, m_int, m_intB, m_itL, m_itT, m_list, m_listT, m_listP, m_tupleL, m_tupleT, m_lst, m_tup, m_few, m_ap, m_lstOf, m_addL, m_addLO, m_rep1, m_ix0, m_ixT0, m_st0, m_ix1, m_ixT1, m_st1, m_ix2, m_ixT2, m_st2, m_ix3, m_ixT3, m_st3, m_ix4, m_ixT4, m_st4, m_ix5, m_ixT5, m_st5, m_ix, m_ixT, m_st, m_rng1, m_rng2, m_zipL, m_zipT, m_enum, m_enum2, m_enum2T, m_un2, m_un2P, m_un3P, m_un3, m_z2LL, m_z2TT, m_z2LT, m_z2TL, m_truB, m_truN, m_truI, m_truL, m_truT, m_nox, m_go, m_goR, List.length_cons, List.length_nil, List.length_map, List.length_append, List.length_set, decide_eq_true_eq, ↓reduceIte, Bool.false_eq_true, Bool.not_true, Bool.not_false, Bool.not_eq_true', decide_true, decide_false, decide_eq_false_iff_not, Bool.true_eq_false, Int.toNat_zero, Int.toNat_one, Int.reduceToNat, List.getElem_cons_zero, List.getElem_cons_succ, List.set_cons_zero, List.set_cons_succ, isNonB, Int.reducePow, Int.reduceLT, Int.reduceLE, Int.reduceAdd, Int.reduceSub, Int.reduceMul, Int.reduceNeg]
  rw [m_few (by rw [List.length_map]; omega), mapR_ok (e := D.int) (g := fun _ => D.bl true) fun x hx => by
    rw [letter_ok (hr x hx).1 (hr x hx).2, r_ok], r_ok, all_true, r_ok, r_ok]
theorem vector_of_ok {p : Int} {d : D} {r : List Int} {n : Nat} (h : VecD d r) (hl : r.length = n) (hn : n ≤ 1000) (hr : Lo p r) : M_is_vector_of d (.int p) (.int n) = .ok (.bl true) := by
  unfold M_is_vector_of
  rw [vector_ok h (by omega) hr, h.len]
  simp (config := { maxSteps := 5000000 }) (disch := first | omega | assumption) only [r_ok, r_bad, m_add, m_sub, m_mulL, m_mulR, m_mod, m_fdiv, m_pow, m_lt, m_le, m_gt, m_ge, m_eq, m_ne, m_isN, m_notN, m_isB, m_notB, m_neg, m_asB, m_asI, m_len, m_lenT, m_int, m_intB, m_itL, m_itT, m_list, m_listT, m_listP, m_tupleL, m_tupleT, m_lst, m_tup, m_few, m_ap, m_lstOf, m_addL, m_addLO, m_rep1, m_ix0, m_ixT0, m_st0, m_ix1, m_ixT1, m_st1, m_ix2, m_ixT2, m_st2, m_ix3, m_ixT3, m_st3, m_ix4, m_ixT4, m_st4, m_ix5, m_ixT5, m_st5, m_ix, m_ixT, m_st, m_rng1, m_rng2, m_zipL, m_zipT, m_enum, m_enum2, m_enum2T, m_un2, m_un2P, m_un3P, m_un3, m_z2LL, m_z2TT, m_z2LT, m_z2TL, m_truB, m_truN, m_truI, m_truL, m_truT, m_nox, m_go, m_goR, List.length_cons, List.length_nil, List.length_map, List.length_append, List.length_set, decide_eq_true_eq, ↓reduceIte, Bool.false_eq_true, Bool.not_true, Bool.not_false, Bool.not_eq_true', decide_true, decide_false, decide_eq_false_iff_not, Bool.true_eq_false, Int.toNat_zero, Int.toNat_one, Int.reduceToNat, List.getElem_cons_zero, List.getElem_cons_succ, List.set_cons_zero, List.set_cons_succ, isNonB, Int.reducePow, Int.reduceLT, Int.reduceLE, Int.reduceAdd, Int.reduceSub, Int.reduceMul, Int.reduceNeg]
  rw [hl]
  first | done | simp

end K09

namespace K09
open PySem PySem.Spec PyProof.Rows L2 DL
def rowL (r : List Int) : D := .lst (r.map .int)
/-- rows as a list or a tuple of lists -/
def MatD (d : D) (rows : List (List Int)) : Prop := d = .lst (rows.map rowL) ∨ d = .tup (rows.map rowL)
theorem MatD.it {d : D} {rows : List (List Int)} (h : MatD d rows) : itM d = .ok (rows.map rowL) := by rcases h with rfl | rfl <;> rfl
theorem MatD.len {d : D} {rows : List (List Int)} (h : MatD d rows) : fnM lenD [d] = .ok (.int rows.length) := by
  rcases h with rfl | rfl
  · rw [m_len, List.length_map]
  · rw [m_lenT, List.length_map]
theorem check_vectors_ok {p : Int} {n : Nat} {d : D} {rows : List (List Int)} (h : MatD d rows) (hn : n ≤ 1000) (hr : ∀ r ∈ rows, DM.Row p n r) : M_check_vectors d (.int p) (.int n) = .ok .non := by
  unfold M_check_vectors
  have e : enumM2 [d] = .ok (enumD (rows.map rowL)) := by rcases h with rfl | rfl <;> rfl
  rw [e, r_ok]
  obtain ⟨_, e2, _⟩ := foldR_inv (f := fun (s9 : Unit) d8 => un2 d8 fun x11 x12 => (M_is_vector_of x12 (.int p) (.int n)).bind fun v14 => (asB v14).bind fun b13 => if (!b13) then Res.bad else Res.ok ()) (fun _ => True) (ds := enumD (rows.map rowL)) (s := ()) True.intro fun y hy _ _ => by
    obtain ⟨i, hi⟩ := List.mem_iff_getElem?.mp hy
    obtain ⟨x, q1, q2⟩ := enumD_get hi
    obtain ⟨r, hr', rfl⟩ := List.mem_map.mp (List.mem_of_getElem? q1)
    refine ⟨(), ?_, True.intro⟩
    rw [q2, m_un2P, vector_of_ok (d := rowL r) (.inl rfl) (hr r hr').len hn (row_lo (hr r hr')), r_ok, m_asB, r_ok]
    rfl
  rw [e2]
  rfl
/-- leads of rows that are not the same -/
theorem ld_ne {p : Int} {n : Nat} {N : List (List Int)} (h : DM.Red p n N) {r s : List Int} (hr : r ∈ N) (hs : s ∈ N) (e : ldR r = ldR s) : r = s := by
  false_or_by_contra
  rename_i ne
  obtain ⟨l, _, L⟩ := h.lead r hr
  obtain ⟨l', _, L'⟩ := h.lead s hs
  rw [ldR_eq L, ldR_eq L'] at e
  have := h.off r hr l L s hs fun z => ne z.symm
  rw [e, L'.one] at this
  omega
def pairOf (m : Nat) (r : List Int) : Key × D := (.inl (ldR r), .int (DM.gz r m))
theorem putKD_new {kvs : List (Key × D)} {k : Key} {d : D} (h : ∀ kv ∈ kvs, kv.1 ≠ k) : putKD kvs k d = kvs ++ [(k, d)] := by
  unfold putKD
  rw [if_neg]
  intro z
  obtain ⟨kv, h1, h2⟩ := List.any_eq_true.mp z
  exact h kv h1 (by simpa using h2)
theorem dcS_ok {m : Nat} {F : D → Res (Option (Key × D))} : ∀ (N A : List (List Int)), (∀ r ∈ N, F (rowT r) = .ok (some (pairOf m r))) → ((A ++ N).map ldR).Nodup → dcS F (N.map rowT) (A.map (pairOf m)) = .ok ((A ++ N).map (pairOf m))
  | [], A, _, _ => by rw [List.append_nil]; rfl
  | r :: N, A, h, nd => by
    show ((F (rowT r)).nox.bind fun o => dcS F (N.map rowT) (match o with
      | some kv => putKD (A.map (pairOf m)) kv.1 kv.2
      | none => A.map (pairOf m))) = _
    rw [h r (List.mem_cons_self ..)]
    show dcS F (N.map rowT) (putKD (A.map (pairOf m)) (pairOf m r).1 (pairOf m r).2) = _
    rw [putKD_new fun kv hkv => by
      obtain ⟨s, hs, rfl⟩ := List.mem_map.mp hkv
      intro e
      have e : (Sum.inl ((ldR s : Nat) : Int) : Key) = .inl (ldR r : Nat) := e
      injection e with e
      have e : ldR s = ldR r := by omega
      rw [List.map_append, List.nodup_append] at nd
      exact nd.2.2 _ (List.mem_map_of_mem hs) _ (by rw [List.map_cons]; exact List.mem_cons_self ..) e]
    have := dcS_ok N (A ++ [r]) (fun s hs => h s (List.mem_cons_of_mem _ hs)) (by rw [List.append_assoc]; exact nd)
    rw [List.map_append] at this
    rw [List.append_assoc] at this
    exact this
theorem ld_nodup {p : Int} {n : Nat} {N : List (List Int)} (h : DM.Red p n N) (nd : N.Nodup) : (N.map ldR).Nodup := by
  have aux : ∀ {C : List (List Int)}, C.Nodup → (∀ s ∈ C, s ∈ N) → (C.map ldR).Nodup := fun {C} h1 h2 => by
    induction C with
    | nil => simp
    | cons c C ih =>
      rw [List.nodup_cons] at h1
      rw [List.map_cons, List.nodup_cons]
      refine ⟨fun hm => ?_, ih h1.2 fun s hs => h2 s (List.mem_cons_of_mem _ hs)⟩
      obtain ⟨d, hd, e⟩ := List.mem_map.mp hm
      exact h1.1 (ld_ne h (h2 d (List.mem_cons_of_mem _ hd)) (h2 c (List.mem_cons_self ..)) e ▸ hd)
  exact aux nd fun _ h => h
theorem look_ok {m : Nat} (i : Nat) : ∀ N : List (List Int), lookD (N.map (pairOf m)) (.inl (i : Int)) = (N.find? fun r => decide (ldR r = i)).map fun r => D.int (DM.gz r m)
  | [] => rfl
  | r :: N => by
    have ih := look_ok (m := m) i N
    unfold lookD at *
    rw [List.map_cons, List.find?_cons, List.find?_cons]
    by_cases q : ldR r = i
    · have e : decide ((pairOf m r).1 = (.inl (i : Int) : Key)) = true := by
        rw [decide_eq_true_eq]
        show (Sum.inl ((ldR r : Nat) : Int) : Key) = .inl (i : Int)
        rw [q]
      rw [e, decide_eq_true q]
      rfl
    · have e : decide ((pairOf m r).1 = (.inl (i : Int) : Key)) = false := by
        rw [decide_eq_false_iff_not]
        intro z
        have z : (Sum.inl ((ldR r : Nat) : Int) : Key) = .inl (i : Int) := z
        injection z with z
        omega
      rw [e, decide_eq_false q]
      exact ih
def ansAt (m : Nat) (N : List (List Int)) (i : Nat) : Int := ((N.find? fun r => decide (ldR r = i)).map fun r => DM.gz r m).getD 0
theorem ans_lead {p : Int} {n m : Nat} {N : List (List Int)} (h : DM.Red p n N) {r : List Int} (hr : r ∈ N) : ansAt m N (ldR r) = DM.gz r m := by
  unfold ansAt
  cases q : N.find? fun s => decide (ldR s = ldR r) with
  | none =>
    have := List.find?_eq_none.mp q r hr
    simp at this
  | some s =>
    have h1 := List.mem_of_find?_eq_some q
    have h2 := List.find?_some q
    have : ldR s = ldR r := by simpa using h2
    rw [ld_ne h h1 hr this]
    rfl
def ansD : Option (List Int) → D
  | none => .non
  | some xs => .lst (xs.map .int)
theorem combination_ok {p : Int} {n : Nat} {rows : List (List Int)} {t : List Int} (hp : Pr p) (hn : 1 ≤ n) (hn2 : n ≤ 100) (hl : rows.length ≤ 100) (hr : ∀ r ∈ rows, DM.Row p n r) (ht : DM.Row p n t) :
    ∃ o : Option (List Int), (∀ (vs td : D), MatD vs rows → VecD td t → M_combination (.int p) vs td = .ok (ansD o)) ∧ (o = none ↔ ¬ DM.Sp p (DM.InR rows) (DM.gz t)) ∧
      ∀ xs, o = some xs → xs.length = rows.length ∧ Lo p xs ∧ ∀ c, c < n → ∃ k, DM.comb rows xs c = DM.gz t c + p * k := by
  have h1 := hp.lo
  have h2 := hp.hi
  have hrow : ∀ r ∈ rows ++ [t], DM.Row p n r := fun r hr' => by
    rcases List.mem_append.mp hr' with z | z
    · exact hr r z
    · rw [List.mem_singleton.mp z]; exact ht
  have he : ∀ c, (rows ++ [t]).map (fun r => DM.gz r c) = DM.eqn rows t c := fun c => by rw [List.map_append]; rfl
  have heq : ∀ r ∈ (List.range n).map (DM.eqn rows t), DM.Row p (rows.length + 1) r := fun r hr' => by
    obtain ⟨c, _, rfl⟩ := List.mem_map.mp hr'
    have lo : ∀ x ∈ DM.eqn rows t c, 0 ≤ x ∧ x < p := fun x hx => by
      rw [← he] at hx
      obtain ⟨s, hs, rfl⟩ := List.mem_map.mp hx
      exact ⟨(hrow s hs).lo c, (hrow s hs).hi c⟩
    refine ⟨by rw [← he]; simp, fun j => ?_, fun j => ?_⟩
    all_goals
      by_cases hj : j < (DM.eqn rows t c).length
      · have := lo _ (List.getElem_mem hj)
        have e : DM.gz (DM.eqn rows t c) j = (DM.eqn rows t c)[j] := by
          unfold DM.gz
          rw [List.getD_eq_getElem?_getD, List.getElem?_eq_getElem hj]
          rfl
        omega
      · have e : DM.gz (DM.eqn rows t c) j = 0 := by
          unfold DM.gz
          rw [List.getD_eq_getElem?_getD, List.getElem?_eq_none (by omega)]
          rfl
        omega
  obtain ⟨N, e1, hN, nd, hNl, hsp⟩ := reduced_ok hp.nd (by omega) (check_ok hp) (n := rows.length + 1) (rows := (List.range n).map (DM.eqn rows t)) (by omega) (by omega) (by rw [List.length_map, List.length_range]; omega) heq
  have start : ∀ (vs td : D), MatD vs rows → VecD td t → M_combination (.int p) vs td = (if (lookD (N.map (pairOf rows.length)) (.inl ((rows.length : Nat) : Int))).isSome then Res.ok D.non else Res.ok (ansD (some ((List.range rows.length).map (ansAt rows.length N))))) := fun vs td hv htd => by
    unfold M_combination
    rw [check_ok hp, r_ok, vector_ok htd (by rw [ht.len]; omega) (row_lo ht), r_ok]
    simp (config := { maxSteps := 5000000 }) (disch := first | omega | assumption) only [r_ok, r_bad, m_add, m_sub, m_mulL, m_mulR, m_mod, m_fdiv, m_pow, m_lt, m_le, m_gt, m_ge, m_eq, m_ne, m_isN, m_notN, m_isB, m_notB, m_neg, m_asB, m_asI, m_len, m_lenT, m_int, m_intB, m_itL, m_itT, m_list, m_listT, m_listP, m_tupleL, m_tupleT, m_lst, m_tup, m_few, m_ap, m_lstOf, m_addL, m_addLO, m_rep1, m_ix0, m_ixT0, m_st0, m_ix1, m_ixT1, m_st1, m_ix2, m_ixT2, m_st2, m_ix3, m_ixT3, m_st3, m_ix4, m_ixT4, m_st4, m_ix5, m_ixT5, m_st5, m_ix, m_ixT, m_st, m_rng1, m_rng2, m_zipL, m_zipT, m_enum, m_enum2, m_enum2T, m_un2, m_un2P, m_un3P, m_un3, m_z2LL, m_z2TT, m_z2LT, m_z2TL, m_truB, m_truN, m_truI, m_truL, m_truT, m_nox, m_go, m_goR, List.length_cons, List.length_nil, List.length_map, List.length_append, List.length_set, decide_eq_true_eq, ↓reduceIte, Bool.false_eq_true, Bool.not_true, Bool.not_false, Bool.not_eq_true', decide_true, decide_false, decide_eq_false_iff_not, Bool.true_eq_false, Int.toNat_zero, Int.toNat_one, Int.reduceToNat, List.getElem_cons_zero, List.getElem_cons_succ, List.set_cons_zero, List.set_cons_succ, isNonB, Int.reducePow, Int.reduceLT, Int.reduceLE, Int.reduceAdd, Int.reduceSub, Int.reduceMul, Int.reduceNeg]
    rw [htd.len, r_ok, ht.len, check_vectors_ok hv (by omega) hr, r_ok, hv.it, r_ok]
    have ez : zipNM (rows.map rowL ++ (td :: [])) = .ok ((List.range n).map fun c => rowT (DM.eqn rows t c)) := by
      have hR : IsRows (rows.map rowL ++ [td]) (rows ++ [t]) := (isRows_L rows).app (by rcases htd with rfl | rfl <;> rfl)
      rw [m_zipN hR (by simp) (fun r hr' => (hrow r hr').len) (by rw [List.length_append]; simp; omega)]
      congr 1
      apply List.map_congr_left
      intro c _
      rw [he]
    rw [ez, r_ok, m_listZ (by rw [List.length_map, List.length_range]; omega), r_ok, hv.len, r_ok]
    have e2 : (List.range n).map (fun c => rowT (DM.eqn rows t c)) = ((List.range n).map (DM.eqn rows t)).map rowT := by rw [List.map_map]; rfl
    rw [e2, e1, r_ok, m_itL, r_ok, m_few (by rw [List.length_map]; omega)]
    rw [show dcS _ (N.map rowT) [] = _ from dcS_ok (m := rows.length) N [] (fun r hr' => by
      obtain ⟨l, hl', L⟩ := hN.lead r hr'
      rw [lead_ok L, r_ok]
      have e3 : opM ixD (rowT r) (.int ((rows.length : Nat) : Int)) = .ok (.int (DM.gz r rows.length)) := ix_row (by rw [(hN.row r hr').len]; omega)
      rw [e3, r_ok]
      show Res.ok (some ((Sum.inl ((l : Nat) : Int) : Key), D.int (DM.gz r rows.length))) = _
      unfold pairOf
      rw [ldR_eq L]) (ld_nodup hN nd)]
    rw [r_ok, List.nil_append]
    have e4 : opM inD2 (.int ((rows.length : Nat) : Int)) (.dic (N.map (pairOf rows.length))) = .ok (.bl (lookD (N.map (pairOf rows.length)) (.inl ((rows.length : Nat) : Int))).isSome) := rfl
    rw [e4, r_ok, m_asB, r_ok]
    by_cases q : (lookD (N.map (pairOf rows.length)) (.inl ((rows.length : Nat) : Int))).isSome = true
    · rw [if_pos q, if_pos q]
    · rw [if_neg q, if_neg q, m_rng1 (by omega) (by omega), r_ok, m_few (by unfold rangeD; rw [List.length_map, List.length_range]; omega), rangeD_map]
      rw [mapR_ok (e := fun i : Nat => D.int (0 + (i : Int))) (g := fun i => D.int (ansAt rows.length N i)) fun i _ => by
        show ((get2M (.dic (N.map (pairOf rows.length))) (.int (0 + (i : Int))) (.int 0)).bind fun v37 => Res.ok v37) = _
        rw [Int.zero_add]
        show ((Res.ok ((lookD (N.map (pairOf rows.length)) (.inl (i : Int))).getD (.int 0))).bind fun v37 => Res.ok v37) = _
        rw [look_ok, r_ok]
        unfold ansAt
        cases N.find? fun r => decide (ldR r = i) <;> rfl]
      rw [r_ok]
      have : ((rows.length : Nat) : Int).toNat = rows.length := by omega
      rw [this]
      show _ = Res.ok (D.lst (((List.range rows.length).map (ansAt rows.length N)).map .int))
      rw [List.map_map]
      rfl
  have hin : ∀ e ∈ (List.range n).map (DM.eqn rows t), ∃ c, e = DM.eqn rows t c := fun e he => by
    obtain ⟨c, _, rfl⟩ := List.mem_map.mp he
    exact ⟨c, rfl⟩
  have hsp : ∀ v, DM.Sp p (DM.InR N) v ↔ DM.Sp p (DM.InR ((List.range n).map (DM.eqn rows t))) v := hsp
  cases q : N.find? fun r => decide (ldR r = rows.length) with
  | some r =>
    have hm := List.mem_of_find?_eq_some q
    have hl' : ldR r = rows.length := by have := List.find?_some q; simpa using this
    obtain ⟨l, _, L⟩ := hN.lead r hm
    rw [ldR_eq L] at hl'
    refine ⟨none, fun vs td hv htd => ?_, ⟨fun _ => DM.lies_not (by omega) hin hsp hm (hl' ▸ L), fun _ => rfl⟩, fun xs z => nomatch z⟩
    rw [start vs td hv htd, look_ok, q]
    rfl
  | none =>
    have hno : ∀ r ∈ N, ¬ DM.Lead r rows.length := fun r hr' L => by
      have := List.find?_eq_none.mp q r hr'
      rw [ldR_eq L] at this
      simp at this
    have lies := DM.lies_so (n := n) (x := fun i => ansAt rows.length N i) (xs := (List.range rows.length).map (ansAt rows.length N)) hN (fun c hc => List.mem_map_of_mem (List.mem_range.mpr hc)) hsp hno
      (fun r hr' l L => by rw [← ldR_eq L]; exact ans_lead hN hr')
      (fun i hi => by
        show ansAt rows.length N i = 0
        unfold ansAt
        cases q2 : N.find? fun r => decide (ldR r = i) with
        | none => rfl
        | some r =>
          have h3 := List.mem_of_find?_eq_some q2
          have h4 : ldR r = i := by have := List.find?_some q2; simpa using this
          obtain ⟨l, _, L⟩ := hN.lead r h3
          rw [ldR_eq L] at h4
          exact (hi r h3 (h4 ▸ L)).elim)
      (by simp) (fun i hi => by
        rw [List.getD_eq_getElem?_getD, List.getElem?_map, List.getElem?_range hi]
        rfl)
    have lo : ∀ i, 0 ≤ ansAt rows.length N i ∧ ansAt rows.length N i < p := fun i => by
      unfold ansAt
      cases q2 : N.find? fun r => decide (ldR r = i) with
      | none => exact ⟨Int.le_refl _, by show (0 : Int) < p; omega⟩
      | some r =>
        have h3 := hN.row r (List.mem_of_find?_eq_some q2)
        exact ⟨h3.lo _, h3.hi _⟩
    refine ⟨some ((List.range rows.length).map (ansAt rows.length N)), fun vs td hv htd => ?_, ⟨(fun z => nomatch z), fun z => (z ?_).elim⟩, fun xs z => ?_⟩
    · rw [start vs td hv htd, look_ok, q]
      rfl
    · refine DM.Sp.eqv (DM.Sp.of_comb (rows := rows) (xs := (List.range rows.length).map (ansAt rows.length N))) fun j => ?_
      by_cases hj : j < n
      · obtain ⟨k, hk⟩ := lies j hj
        exact ⟨-k, by rw [hk]; grind⟩
      · have z1 : DM.gz t j = 0 := gz_out ht.len hj
        have z3 : ∀ {C : List (List Int)} {xs : List Int}, (∀ s ∈ C, DM.gz s j = 0) → DM.comb C xs j = 0 := fun {C xs} hC => by
          induction C generalizing xs with
          | nil => rfl
          | cons c C ih =>
            cases xs with
            | nil => rfl
            | cons x xs =>
              show x * DM.gz c j + DM.comb C xs j = 0
              rw [hC c (List.mem_cons_self ..), ih fun s hs => hC s (List.mem_cons_of_mem _ hs)]
              simp
        exact ⟨0, by rw [z1, z3 fun s hs => gz_out (hr s hs).len hj]; simp⟩
    · cases z
      refine ⟨by simp, fun x hx => ?_, lies⟩
      obtain ⟨i, _, rfl⟩ := List.mem_map.mp hx
      exact lo i

end K09

namespace K09
open PySem PySem.Spec PyProof.Rows L2 DL
theorem prime_ok (b : D) (B : Bag b) : ∃ p b', Pr p ∧ Bag b' ∧ M__law_prime b = .ok (.int p, b') := by
  obtain ⟨d, b', hd, B', e⟩ := any_ok b B [.int 10007, .int 10007, .int 10009, .int 65537, .int 104729, .int 999983] (by decide) (by decide)
  have : ∃ p, Pr p ∧ d = .int p := by
    simp only [List.mem_cons, List.not_mem_nil, or_false] at hd
    rcases hd with rfl | rfl | rfl | rfl | rfl | rfl
    · exact ⟨_, pr1, rfl⟩
    · exact ⟨_, pr1, rfl⟩
    · exact ⟨_, pr2, rfl⟩
    · exact ⟨_, pr3, rfl⟩
    · exact ⟨_, pr4, rfl⟩
    · exact ⟨_, pr5, rfl⟩
  obtain ⟨p, hp, rfl⟩ := this
  refine ⟨p, b', hp, B', ?_⟩
  unfold M__law_prime
  rw [m_lst (by show 6 ≤ 100000; omega), r_ok, e]
  rfl
theorem letter_drawn {p : Int} (hp : Pr p) (b : D) (B : Bag b) : ∃ x b', 0 ≤ x ∧ x < p ∧ Bag b' ∧ M__law_letter b (.int p) = .ok (.int x, b') := by
  have h1 := hp.lo
  have h2 := hp.hi
  obtain ⟨x1, b1, l1, u1, B1, e1⟩ := pull b B 4 (by omega) (by omega)
  obtain ⟨x2, b2, l2, u2, B2, e2⟩ := pull b1 B1 p (by omega) (by omega)
  obtain ⟨d, b', hd, B', e⟩ := any_ok b2 B2 [.int 0, .int 0, .int 1, .int (p - 1), .int x1, .int x2] (by show 0 < 6; omega) (by show 6 < 1000; omega)
  have : ∃ x, 0 ≤ x ∧ x < p ∧ d = .int x := by
    simp only [List.mem_cons, List.not_mem_nil, or_false] at hd
    rcases hd with rfl | rfl | rfl | rfl | rfl | rfl
    · exact ⟨_, by omega, by omega, rfl⟩
    · exact ⟨_, by omega, by omega, rfl⟩
    · exact ⟨_, by omega, by omega, rfl⟩
    · exact ⟨_, by omega, by omega, rfl⟩
    · exact ⟨_, by omega, by omega, rfl⟩
    · exact ⟨_, by omega, by omega, rfl⟩
  obtain ⟨x, l, u, rfl⟩ := this
  refine ⟨x, b', l, u, B', ?_⟩
  unfold M__law_letter
  rw [m_sub, r_ok, e1, r_ok]
  show ((M__law_pull b1 (.int p)).bind _).nox = _
  rw [e2, r_ok]
  show ((lstM [.int 0, .int 0, .int 1, .int (p - 1), .int x1, .int x2]).bind _).nox = _
  rw [m_lst (by show 6 ≤ 100000; omega), r_ok]
  show ((M__law_any b2 _).bind _).nox = _
  rw [e]
  rfl
theorem row_of_lo {p : Int} {r : List Int} (hp : 0 < p) (h : Lo p r) : DM.Row p r.length r := by
  refine ⟨rfl, fun j => ?_, fun j => ?_⟩
  all_goals
    by_cases hj : j < r.length
    · have := h _ (List.getElem_mem hj)
      have e : DM.gz r j = r[j] := by
        unfold DM.gz
        rw [List.getD_eq_getElem?_getD, List.getElem?_eq_getElem hj]
        rfl
      omega
    · have e : DM.gz r j = 0 := by
        unfold DM.gz
        rw [List.getD_eq_getElem?_getD, List.getElem?_eq_none (by omega)]
        rfl
      omega
theorem ints_of {p : Int} : ∀ ds : List D, (∀ d ∈ ds, ∃ x : Int, d = .int x ∧ 0 ≤ x ∧ x < p) → ∃ r : List Int, ds = r.map .int ∧ Lo p r
  | [], _ => ⟨[], rfl, fun x hx => by simp at hx⟩
  | d :: ds, h => by
    obtain ⟨x, rfl, l, u⟩ := h d (List.mem_cons_self ..)
    obtain ⟨r, rfl, hr⟩ := ints_of ds fun e he => h e (List.mem_cons_of_mem _ he)
    refine ⟨x :: r, rfl, fun y hy => ?_⟩
    rcases List.mem_cons.mp hy with rfl | hy
    · exact ⟨l, u⟩
    · exact hr y hy
theorem vector_drawn {p : Int} (hp : Pr p) (b : D) (B : Bag b) (n : Nat) (hn : n ≤ 1000) : ∃ r b', DM.Row p n r ∧ Bag b' ∧ M__law_vector b (.int p) (.int (n : Int)) = .ok (rowL r, b') := by
  have h1 := hp.lo
  obtain ⟨ds, b', e, l, hP, B'⟩ := mapS_ok (e := fun i : Nat => D.int (0 + (i : Int))) (f := fun s8 d7 => (M__law_letter s8 (.int p)).bind fun t9 => Res.ok (t9.1, t9.2)) Bag (fun d => ∃ x : Int, d = .int x ∧ 0 ≤ x ∧ x < p) (xs := List.range n) (s := b) B fun i _ s hs => by
    obtain ⟨x, b', l, u, B', e⟩ := letter_drawn hp s hs
    exact ⟨.int x, b', by rw [e]; rfl, ⟨x, rfl, l, u⟩, B'⟩
  obtain ⟨r, rfl, hr⟩ := ints_of ds hP
  have hl : r.length = n := by rw [List.length_map, List.length_range] at l; exact l
  refine ⟨r, b', hl ▸ row_of_lo (by omega) hr, B', ?_⟩
  unfold M__law_vector
  rw [m_rng1 (by omega) (by omega), r_ok, m_few (by unfold rangeD; rw [List.length_map, List.length_range]; omega), rangeD_map]
  have : ((n : Nat) : Int).toNat = n := by omega
  rw [this, e]
  rfl
/-- the law's sums -/
theorem add_row {p x : Int} {n : Nat} {tot v : List Int} (hp : Pr p) (h0 : 0 ≤ x) (h1 : x < p) (ht : DM.Row p n tot) (hv : DM.Row p n v) (hn : n ≤ 1000) :
    ((zipM2 [rowL tot, rowL v]).bind fun ds25 => (few ds25 (mapR (fun d26 => un2 d26 fun x27 x28 => (opM mulD (.int x) x28).bind fun v29 => (opM addD x27 v29).bind fun v30 => (fnM DL.intD [v30]).bind fun v31 => (opM modD v31 (.int p)).bind fun v32 => Res.ok v32) ds25)).bind fun l33 => Res.ok (.lst l33)) = .ok (rowL ((tot.zip v).map fun z => (z.1 + x * z.2) % p)) := by
  have h2 := hp.lo
  have h3 := hp.hi
  show ((zipM2 [.lst (tot.map .int), .lst (v.map .int)]).bind _) = _
  rw [m_z2LL, r_ok, zipD_map, m_few (by rw [List.length_map, List.length_zip, ht.len, hv.len]; omega)]
  rw [mapR_ok (e := fun z : Int × Int => D.prs [.int z.1, .int z.2]) (g := fun z => .int ((z.1 + x * z.2) % p)) fun z _ => by
    simp (config := { maxSteps := 5000000 }) (disch := first | omega | assumption) only [r_ok, r_bad, m_add, m_sub, m_mulL, m_mulR, m_mod, m_fdiv, m_pow, m_lt, m_le, m_gt, m_ge, m_eq, m_ne, m_isN, m_notN, m_isB, m_notB, m_neg, m_asB, m_asI, m_len, m_lenT, m_int, m_intB, m_itL, m_itT, m_list, m_listT, m_listP, m_tupleL, m_tupleT, m_lst, m_tup, m_few, m_ap, m_lstOf, m_addL, m_addLO, m_rep1, m_ix0, m_ixT0, m_st0, m_ix1, m_ixT1, m_st1, m_ix2, m_ixT2, m_st2, m_ix3, m_ixT3, m_st3, m_ix4, m_ixT4, m_st4, m_ix5, m_ixT5, m_st5, m_ix, m_ixT, m_st, m_rng1, m_rng2, m_zipL, m_zipT, m_enum, m_enum2, m_enum2T, m_un2, m_un2P, m_un3P, m_un3, m_z2LL, m_z2TT, m_z2LT, m_z2TL, m_truB, m_truN, m_truI, m_truL, m_truT, m_nox, m_go, m_goR, List.length_cons, List.length_nil, List.length_map, List.length_append, List.length_set, decide_eq_true_eq, ↓reduceIte, Bool.false_eq_true, Bool.not_true, Bool.not_false, Bool.not_eq_true', decide_true, decide_false, decide_eq_false_iff_not, Bool.true_eq_false, Int.toNat_zero, Int.toNat_one, Int.reduceToNat, List.getElem_cons_zero, List.getElem_cons_succ, List.set_cons_zero, List.set_cons_succ, isNonB, Int.reducePow, Int.reduceLT, Int.reduceLE, Int.reduceAdd, Int.reduceSub, Int.reduceMul, Int.reduceNeg]]
  rw [r_ok]
  unfold rowL
  rw [List.map_map]
  rfl
theorem add_at {p x : Int} {n : Nat} {tot v : List Int} (hp : 0 < p) (ht : DM.Row p n tot) (hv : DM.Row p n v) : DM.Row p n ((tot.zip v).map fun z => (z.1 + x * z.2) % p) ∧ ∀ j, ∃ k, DM.gz ((tot.zip v).map fun z => (z.1 + x * z.2) % p) j = DM.gz tot j + x * DM.gz v j + p * k := by
  have e : ∀ j, DM.gz ((tot.zip v).map fun z => (z.1 + x * z.2) % p) j = (DM.gz tot j + x * DM.gz v j) % p := fun j => DM.gz_zip ht.len hv.len (fun z => (z.1 + x * z.2) % p) (by simp) j
  refine ⟨⟨by rw [List.length_map, List.length_zip, ht.len, hv.len]; omega, fun j => ?_, fun j => ?_⟩, fun j => ?_⟩
  · rw [e]; exact Int.emod_nonneg _ (by omega)
  · rw [e]; exact Int.emod_lt_of_pos _ hp
  · refine ⟨-((DM.gz tot j + x * DM.gz v j) / p), ?_⟩
    rw [e]
    have := Int.emod_add_mul_ediv (DM.gz tot j + x * DM.gz v j) p
    grind
theorem fold_sum {p : Int} {n : Nat} (hp : Pr p) (hn : n ≤ 1000) : ∀ (rows : List (List Int)) (fs : List Int) (tot : List Int), (∀ r ∈ rows, DM.Row p n r) → Lo p fs → fs.length = rows.length → DM.Row p n tot →
    ∃ out, foldR (fun s21 d20 => un2 d20 fun x23 x24 => (zipM2 [s21, x24]).bind fun ds25 => (few ds25 (mapR (fun d26 => un2 d26 fun x27 x28 => (opM mulD x23 x28).bind fun v29 => (opM addD x27 v29).bind fun v30 => (fnM DL.intD [v30]).bind fun v31 => (opM modD v31 (.int p)).bind fun v32 => Res.ok v32) ds25)).bind fun l33 => Res.ok (.lst l33)) (zipD (fs.map .int) (rows.map rowL)) (rowL tot) = .ok (rowL out) ∧ DM.Row p n out ∧ ∀ j, ∃ k, DM.gz out j = DM.gz tot j + DM.comb rows fs j + p * k
  | [], [], tot, _, _, _, ht => ⟨tot, rfl, ht, fun j => ⟨0, by show _ = DM.gz tot j + 0 + p * 0; simp⟩⟩
  | [], _ :: _, _, _, _, h, _ => by simp at h
  | _ :: _, [], _, _, _, h, _ => by simp at h
  | v :: rows, x :: fs, tot, hr, hf, hl, ht => by
    have h1 := hp.lo
    obtain ⟨l, u⟩ := hf x (List.mem_cons_self ..)
    have hv := hr v (List.mem_cons_self ..)
    obtain ⟨r1, a1⟩ := add_at (x := x) (by omega : 0 < p) ht hv
    obtain ⟨out, e2, r2, a2⟩ := fold_sum hp hn rows fs _ (fun r h => hr r (List.mem_cons_of_mem _ h)) (fun y hy => hf y (List.mem_cons_of_mem _ hy)) (by simpa using hl) r1
    refine ⟨out, ?_, r2, fun j => ?_⟩
    · show (un2 (.prs [.int x, rowL v]) _).bind (fun s => foldR _ (zipD (fs.map .int) (rows.map rowL)) s) = _
      rw [m_un2P, add_row hp l u ht hv hn, r_ok]
      exact e2
    · obtain ⟨k1, q1⟩ := a1 j
      obtain ⟨k2, q2⟩ := a2 j
      refine ⟨k1 + k2, ?_⟩
      show _ = DM.gz tot j + (x * DM.gz v j + DM.comb rows fs j) + p * (k1 + k2)
      rw [q2, q1]
      grind
theorem row_eq {p : Int} {n : Nat} {a b : List Int} (hp : 0 < p) (ha : DM.Row p n a) (hb : DM.Row p n b) (h : ∀ j, j < n → ∃ k, DM.gz a j = DM.gz b j + p * k) : a = b := by
  apply List.ext_getElem (by rw [ha.len, hb.len])
  intro j h1 h2
  obtain ⟨k, hk⟩ := h j (by rw [← ha.len]; exact h1)
  have a0 := ha.lo j
  have a1 := ha.hi j
  have b0 := hb.lo j
  have b1 := hb.hi j
  have k0 : k = 0 := by
    rcases Int.lt_trichotomy k 0 with z | z | z
    · have := Int.mul_le_mul_of_nonneg_left (show k ≤ -1 by omega) (show 0 ≤ p by omega)
      omega
    · exact z
    · have := Int.mul_le_mul_of_nonneg_left (show 1 ≤ k by omega) (show 0 ≤ p by omega)
      omega
  rw [k0] at hk
  unfold DM.gz at hk
  rw [List.getD_eq_getElem?_getD, List.getD_eq_getElem?_getD, List.getElem?_eq_getElem h1, List.getElem?_eq_getElem h2] at hk
  simpa using hk
theorem zero_row {p : Int} {n : Nat} (hp : 0 < p) : DM.Row p n (List.replicate n 0) := by
  have e : ∀ j, DM.gz (List.replicate n 0) j = 0 := fun j => by
    unfold DM.gz
    rw [List.getD_eq_getElem?_getD, List.getElem?_replicate]
    split <;> rfl
  exact ⟨by simp, fun j => by rw [e]; exact Int.le_refl _, fun j => by rw [e]; exact hp⟩
theorem lsum_ok {p : Int} {n : Nat} {rows : List (List Int)} {fs : List Int} (hp : Pr p) (hn : n ≤ 1000) (hr : ∀ r ∈ rows, DM.Row p n r) (hf : Lo p fs) (hl : fs.length = rows.length) :
    ∃ out, M__law_sum_of (.lst (fs.map .int)) (.lst (rows.map rowL)) (.int p) (.int (n : Int)) = .ok (rowL out) ∧ DM.Row p n out ∧ ∀ j, ∃ k, DM.gz out j = DM.comb rows fs j + p * k := by
  have h1 := hp.lo
  obtain ⟨out, e, r, a⟩ := fold_sum hp hn rows fs (List.replicate n 0) hr hf hl (zero_row (by omega))
  refine ⟨out, ?_, r, fun j => ?_⟩
  · unfold M__law_sum_of
    rw [m_lst (by show 1 ≤ 100000; omega), r_ok, m_rep1 (by omega) (by omega), r_ok, m_z2LL, r_ok]
    have e0 : D.lst (List.replicate ((n : Nat) : Int).toNat (.int 0)) = rowL (List.replicate n 0) := by
      have : ((n : Nat) : Int).toNat = n := by omega
      rw [this]
      unfold rowL
      rw [List.map_replicate]
    rw [e0, e]
    rfl
  · obtain ⟨k, hk⟩ := a j
    refine ⟨k, ?_⟩
    have e : DM.gz (List.replicate n 0) j = 0 := by
      unfold DM.gz
      rw [List.getD_eq_getElem?_getD, List.getElem?_replicate]
      split <;> rfl
    rw [hk, e]
    omega

end K09

namespace K09
open PySem PySem.Spec PyProof.Rows L2 DL
/-! ### the law's rank -/
def heads (j : Nat) (rows : List (List Int)) : List Nat := (List.range rows.length).filter fun i => decide (DM.gz (rows.getD i []) j ≠ 0)
def leftOf (rows : List (List Int)) (i0 : Nat) : List (List Int) := ((List.range rows.length).filter fun i => decide (i ≠ i0)).map fun i => rows.getD i []
theorem range_cons (n : Nat) : List.range (n + 1) = 0 :: (List.range n).map (· + 1) := by rw [List.range_succ_eq_map]
theorem heads_cons (j : Nat) (r : List Int) (rs : List (List Int)) : heads j (r :: rs) = (if DM.gz r j ≠ 0 then [0] else []) ++ (heads j rs).map (· + 1) := by
  unfold heads
  rw [List.length_cons, range_cons, List.filter_cons, List.filter_map]
  have e : ((fun i => decide (DM.gz ((r :: rs).getD i []) j ≠ 0)) ∘ fun x => x + 1) = fun i => decide (DM.gz (rs.getD i []) j ≠ 0) := by
    funext i
    simp
  rw [e]
  by_cases h : DM.gz r j = 0
  · simp [h]
  · simp [h]
theorem left_zero (r : List Int) (rs : List (List Int)) : leftOf (r :: rs) 0 = rs := by
  unfold leftOf
  rw [List.length_cons, range_cons, List.filter_cons, List.filter_map]
  have e : ((fun i => decide (i ≠ 0)) ∘ fun x : Nat => x + 1) = fun _ => true := by funext i; simp
  rw [e]
  have f1 : ∀ l : List Nat, l.filter (fun _ => true) = l := fun l => List.filter_eq_self.mpr (by simp)
  simp only [decide_not, decide_true, Bool.not_true, Bool.false_eq_true, ↓reduceIte, f1, List.map_map]
  apply List.ext_getElem
  · simp
  · intro i h1 h2
    simp [List.getElem?_eq_getElem h2]
theorem left_succ (r : List Int) (rs : List (List Int)) (i : Nat) : leftOf (r :: rs) (i + 1) = r :: leftOf rs i := by
  unfold leftOf
  rw [List.length_cons, range_cons, List.filter_cons, List.filter_map]
  have e : ((fun k => decide (k ≠ i + 1)) ∘ fun x : Nat => x + 1) = fun k => decide (k ≠ i) := by funext k; simp
  rw [e]
  have e0 : decide ((0 : Nat) ≠ i + 1) = true := by simp
  rw [if_pos e0, List.map_cons, List.map_map]
  rfl
theorem pick_heads (j : Nat) : ∀ rows : List (List Int), ((heads j rows).head? = none → DM.pick j rows = none) ∧ ∀ i, (heads j rows).head? = some i → DM.pick j rows = some (rows.getD i [], leftOf rows i)
  | [] => ⟨fun _ => rfl, fun i h => by simp [heads] at h⟩
  | r :: rs => by
    have ih := pick_heads j rs
    rw [heads_cons, DM.pick_cons]
    by_cases h : DM.gz r j = 0
    · rw [if_neg (by simpa using h), if_pos h]
      cases q : heads j rs with
      | nil =>
        rw [q] at ih
        rw [ih.1 rfl]
        exact ⟨fun _ => rfl, fun i z => by simp at z⟩
      | cons i is =>
        rw [q] at ih
        rw [ih.2 i rfl]
        refine ⟨fun z => by simp at z, fun k z => ?_⟩
        have z : i + 1 = k := by simpa using z
        subst z
        show some (rs.getD i [], r :: leftOf rs i) = some ((r :: rs).getD (i + 1) [], leftOf (r :: rs) (i + 1))
        rw [left_succ]
        rfl
    · rw [if_pos h, if_neg h]
      refine ⟨fun z => by simp at z, fun k z => ?_⟩
      have z : 0 = k := by simpa using z
      subst z
      show some (r, rs) = some ((r :: rs).getD 0 [], leftOf (r :: rs) 0)
      rw [left_zero]
      rfl
theorem filterMap_ints (P : Nat → Prop) [DecidablePred P] : ∀ is : List Nat, is.filterMap (fun i => if P i then some (D.int (0 + (i : Int))) else none) = ((is.filter fun i => decide (P i)).map fun i : Nat => (0 + (i : Int))).map D.int
  | [] => rfl
  | i :: is => by
    rw [List.filterMap_cons, List.filter_cons, filterMap_ints P is]
    by_cases h : P i
    · simp [h]
    · simp [h]
section
variable {p : Int} {n : Nat} {rows : List (List Int)}
theorem row_get (hr : ∀ r ∈ rows, DM.Row p n r) {i : Nat} (hi : i < rows.length) : DM.Row p n (rows.getD i []) ∧ opM ixD (.lst (rows.map rowL)) (.int (0 + (i : Int))) = .ok (rowL (rows.getD i [])) := by
  have e : rows.getD i [] = rows[i] := by rw [List.getD_eq_getElem?_getD, List.getElem?_eq_getElem hi]; rfl
  rw [e]
  refine ⟨hr _ (List.getElem_mem hi), ?_⟩
  rw [m_ix (by omega) (by rw [List.length_map]; omega), List.getElem_map]
  have : (0 + (i : Int)).toNat = i := by omega
  simp only [this]
theorem ix_rowL {r : List Int} {j : Nat} (hj : j < r.length) : opM ixD (rowL r) (.int (0 + (j : Int))) = .ok (.int (DM.gz r j)) := by
  show opM ixD (.lst (r.map .int)) (.int (0 + (j : Int))) = _
  rw [m_ix (by omega) (by rw [List.length_map]; omega), List.getElem_map]
  have : (0 + (j : Int)).toNat = j := by omega
  simp only [this]
  unfold DM.gz
  rw [List.getD_eq_getElem?_getD, List.getElem?_eq_getElem hj]
  rfl
theorem cut_ok {h r : List Int} {j : Nat} (hp : Pr p) (hh : DM.Row p n h) (hr : DM.Row p n r) (hn : n ≤ 1000) :
    (if decide (DM.gz r j = 0) = true then Res.ok (rowL r) else (zipM2 [rowL r, rowL h]).bind fun ds127 => (few ds127 (mapR (fun d128 => un2 d128 fun x129 x130 => (opM mulD x129 (.int (DM.gz h j))).bind fun v131 => (opM mulD x130 (.int (DM.gz r j))).bind fun v132 => (opM subD v131 v132).bind fun v133 => (fnM DL.intD [v133]).bind fun v134 => (opM modD v134 (.int p)).bind fun v135 => Res.ok v135) ds127)).bind fun l136 => Res.ok (.lst l136)) = .ok (rowL (DM.cutRow p j h r)) := by
  have h1 := hp.lo
  have h2 := hp.hi
  have a0 := hh.lo j
  have a1 := hh.hi j
  have b0 := hr.lo j
  have b1 := hr.hi j
  unfold DM.cutRow
  by_cases q : DM.gz r j = 0
  · rw [if_pos q, if_pos (decide_eq_true q)]
  · rw [if_neg q, if_neg (by simpa using q)]
    show ((zipM2 [.lst (r.map .int), .lst (h.map .int)]).bind _) = _
    rw [m_z2LL, r_ok, zipD_map, m_few (by rw [List.length_map, List.length_zip, hr.len, hh.len]; omega)]
    rw [mapR_ok (e := fun z : Int × Int => D.prs [.int z.1, .int z.2]) (g := fun z => .int ((z.1 * DM.gz h j - z.2 * DM.gz r j) % p)) fun z _ => by
      simp (config := { maxSteps := 5000000 }) (disch := first | omega | assumption) only [r_ok, r_bad, m_add, m_sub, m_mulL, m_mulR, m_mod, m_fdiv, m_pow, m_lt, m_le, m_gt, m_ge, m_eq, m_ne, m_isN, m_notN, m_isB, m_notB, m_neg, m_asB, m_asI, m_len, m_lenT, m_int, m_intB, m_itL, m_itT, m_list, m_listT, m_listP, m_tupleL, m_tupleT, m_lst, m_tup, m_few, m_ap, m_lstOf, m_addL, m_addLO, m_rep1, m_ix0, m_ixT0, m_st0, m_ix1, m_ixT1, m_st1, m_ix2, m_ixT2, m_st2, m_ix3, m_ixT3, m_st3, m_ix4, m_ixT4, m_st4, m_ix5, m_ixT5, m_st5, m_ix, m_ixT, m_st, m_rng1, m_rng2, m_zipL, m_zipT, m_enum, m_enum2, m_enum2T, m_un2, m_un2P, m_un3P, m_un3, m_z2LL, m_z2TT, m_z2LT, m_z2TL, m_truB, m_truN, m_truI, m_truL, m_truT, m_nox, m_go, m_goR, List.length_cons, List.length_nil, List.length_map, List.length_append, List.length_set, decide_eq_true_eq, ↓reduceIte, Bool.false_eq_true, Bool.not_true, Bool.not_false, Bool.not_eq_true', decide_true, decide_false, decide_eq_false_iff_not, Bool.true_eq_false, Int.toNat_zero, Int.toNat_one, Int.reduceToNat, List.getElem_cons_zero, List.getElem_cons_succ, List.set_cons_zero, List.set_cons_succ, isNonB, Int.reducePow, Int.reduceLT, Int.reduceLE, Int.reduceAdd, Int.reduceSub, Int.reduceMul, Int.reduceNeg]]
    rw [r_ok]
    unfold rowL
    rw [List.map_map]
    rfl
def innerF (hx R hd ld pl q : D) (s114 d113 : D) : Res D := (opM ixD hx (.int 0)).bind fun v117 => (opM neD d113 v117).bind fun v118 => (asB v118).bind fun b116 => if b116 then (opM ixD R d113).bind fun v119 => (opM ixD R d113).bind fun v120 => (opM ixD v120 pl).bind fun v121 => (tupM [v119, v121]).bind fun v122 => un2 v122 fun x123 x124 => (lstOf s114).bind fun _ => (opM eqD x124 (.int 0)).bind fun v126 => (asB v126).bind fun b125 => (if b125 then Res.ok x123 else (zipM2 [x123, hd]).bind fun ds127 => (few ds127 (mapR (fun d128 => un2 d128 fun x129 x130 => (opM mulD x129 ld).bind fun v131 => (opM mulD x130 x124).bind fun v132 => (opM subD v131 v132).bind fun v133 => (fnM DL.intD [v133]).bind fun v134 => (opM modD v134 q).bind fun v135 => Res.ok v135) ds127)).bind fun l136 => Res.ok (.lst l136)).bind fun v137 => (apM s114 v137).bind fun l138 => Res.ok l138 else Res.ok s114
def rankF (q : D) (s93 : D × D) (d92 : D) : Res (D × D) := (fnM lenD [s93.1]).bind fun v95 => (rng1M [v95]).bind fun ds96 => (few ds96 (filR (fun d97 => (opM ixD s93.1 d97).bind fun v99 => (opM ixD v99 d92).bind fun v100 => (opM neD v100 (.int 0)).bind fun v101 => (asB v101).bind fun b98 => if b98 then Res.ok (some d97) else Res.ok none) ds96)).bind fun l102 => (lstM []).bind fun v104 => (opM neD (.lst l102) v104).bind fun v105 => (asB v105).bind fun b103 => if b103 then (opM ixD (.lst l102) (.int 0)).bind fun v106 => (opM ixD s93.1 v106).bind fun v107 => (opM addD s93.2 (.int 1)).bind fun v108 => (opM ixD v107 d92).bind fun v109 => (lstM []).bind fun v110 => (fnM lenD [s93.1]).bind fun v111 => (rng1M [v111]).bind fun ds112 => (foldR (innerF (.lst l102) s93.1 v107 v109 d92 q) ds112 v110).bind fun s115 => Res.ok (s115, v108) else Res.ok (s93.1, s93.2)
theorem foldR_cons {σ : Type} (f : σ → D → Res σ) (d : D) (ds : List D) (s : σ) {s' : σ} (h : f s d = .ok s') : foldR f (d :: ds) s = foldR f ds s' := by
  show (f s d).bind _ = _
  rw [h]
  rfl
theorem inner_step {j i0 i : Nat} {hx : D} {h : List Int} {acc : List (List Int)} (hp : Pr p) (hn : n ≤ 1000) (hj : j < n) (hr : ∀ r ∈ rows, DM.Row p n r) (hh : DM.Row p n h) (he : opM ixD hx (.int 0) = .ok (.int (i0 : Int))) (hi : i < rows.length) (ha : acc.length ≤ 1000) :
    innerF hx (.lst (rows.map rowL)) (rowL h) (.int (DM.gz h j)) (.int (0 + (j : Int))) (.int p) (.lst (acc.map rowL)) (.int (0 + (i : Int))) = .ok (.lst ((acc ++ (if i ≠ i0 then [DM.cutRow p j h (rows.getD i [])] else [])).map rowL)) := by
  obtain ⟨r1, e1⟩ := row_get hr hi
  have e2 := ix_rowL (r := rows.getD i []) (j := j) (by rw [r1.len]; exact hj)
  unfold innerF
  rw [he, r_ok, m_ne, r_ok, m_asB, r_ok]
  by_cases q : i = i0
  · subst q
    rw [if_neg (by simp), if_neg (by simp), List.append_nil]
  · rw [if_pos (by simp; omega), if_pos q, e1, r_ok, r_ok, e2, r_ok, m_tup2, r_ok, m_un2, m_lstOf, r_ok, m_eq, r_ok, m_asB, r_ok, cut_ok hp hh r1 hn, r_ok, m_ap (by rw [List.length_map]; omega), r_ok, List.map_append]
    rfl
theorem inner_ok {j i0 : Nat} {hx : D} {h : List Int} (hp : Pr p) (hn : n ≤ 1000) (hj : j < n) (hr : ∀ r ∈ rows, DM.Row p n r) (hh : DM.Row p n h) (he : opM ixD hx (.int 0) = .ok (.int (i0 : Int))) :
    ∀ (is : List Nat) (acc : List (List Int)), (∀ i ∈ is, i < rows.length) → acc.length + is.length ≤ 1000 →
    foldR (innerF hx (.lst (rows.map rowL)) (rowL h) (.int (DM.gz h j)) (.int (0 + (j : Int))) (.int p)) (is.map fun i : Nat => D.int (0 + (i : Int))) (.lst (acc.map rowL)) = .ok (.lst ((acc ++ ((is.filter fun i => decide (i ≠ i0)).map fun i => DM.cutRow p j h (rows.getD i []))).map rowL))
  | [], acc, _, _ => by show Res.ok (D.lst (acc.map rowL)) = _; simp
  | i :: is, acc, hi, hb => by
    rw [List.length_cons] at hb
    rw [List.map_cons, foldR_cons _ _ _ _ (inner_step hp hn hj hr hh he (hi i (List.mem_cons_self ..)) (by omega)), inner_ok hp hn hj hr hh he is _ (fun k hk => hi k (List.mem_cons_of_mem _ hk)) (by rw [List.length_append]; split <;> simp <;> omega), List.append_assoc, List.filter_cons]
    by_cases q : i = i0
    · simp [q]
    · simp [q]
theorem rank_step {j : Nat} {k : Int} (hp : Pr p) (hn : n ≤ 1000) (hj : j < n) (hl : rows.length ≤ 1000) (hr : ∀ r ∈ rows, DM.Row p n r) :
    rankF (.int p) ((.lst (rows.map rowL) : D), (.int k : D)) (.int (0 + (j : Int))) = .ok (match DM.pick j rows with
      | none => (.lst (rows.map rowL), .int k)
      | some (h, rest) => (.lst ((rest.map (DM.cutRow p j h)).map rowL), .int (k + 1))) ∧ match DM.pick j rows with
      | none => True
      | some (h, rest) => rest.length ≤ 1000 ∧ ∀ r ∈ rest.map (DM.cutRow p j h), DM.Row p n r := by
  have h1 := hp.lo
  have e1 : filR (fun d97 => (opM ixD (.lst (rows.map rowL)) d97).bind fun v99 => (opM ixD v99 (.int (0 + (j : Int)))).bind fun v100 => (opM neD v100 (.int 0)).bind fun v101 => (asB v101).bind fun b98 => if b98 then Res.ok (some d97) else Res.ok none) (rangeD 0 ((rows.length : Nat) : Int).toNat) = .ok (((heads j rows).map fun i : Nat => (0 + (i : Int))).map .int) := by
    have : ((rows.length : Nat) : Int).toNat = rows.length := by omega
    rw [this, rangeD_map]
    rw [filR_ok (e := fun i : Nat => D.int (0 + (i : Int))) (g := fun i => if DM.gz (rows.getD i []) j ≠ 0 then some (D.int (0 + (i : Int))) else none) fun i hi => by
      obtain ⟨r1, q1⟩ := row_get hr (List.mem_range.mp hi)
      rw [q1, r_ok, ix_rowL (by rw [r1.len]; exact hj), r_ok, m_ne, r_ok, m_asB, r_ok]
      by_cases z : DM.gz (rows.getD i []) j = 0
      · rw [if_neg (by rw [z]; simp), if_neg fun h => h z]
      · rw [if_pos (by rw [decide_eq_false z]; rfl), if_pos z]]
    rw [filterMap_ints]
    rfl
  have hs := pick_heads j rows
  unfold rankF
  rw [m_len, r_ok, List.length_map, m_rng1 (by omega) (by omega), r_ok, m_few (by unfold rangeD; rw [List.length_map, List.length_range]; omega), e1, r_ok, m_lst (by show 0 ≤ 100000; omega), r_ok]
  have e2 : opM neD (.lst (((heads j rows).map fun i : Nat => (0 + (i : Int))).map .int)) (.lst []) = .ok (.bl !decide ((heads j rows).map (fun i : Nat => (0 + (i : Int))) = [])) := m_neL _ []
  rw [e2, r_ok, m_asB, r_ok]
  cases q : heads j rows with
  | nil =>
    rw [q] at hs
    rw [hs.1 rfl]
    exact ⟨rfl, True.intro⟩
  | cons i0 is =>
    rw [q] at hs
    rw [hs.2 i0 rfl]
    have hi0 : i0 < rows.length := by
      have : i0 ∈ heads j rows := by rw [q]; exact List.mem_cons_self ..
      unfold heads at this
      exact List.mem_range.mp (List.mem_filter.mp this).1
    obtain ⟨rh, eh⟩ := row_get hr hi0
    have e4 : (!decide ((i0 :: is).map (fun i : Nat => (0 + (i : Int))) = [])) = true := by simp
    have e5 : opM ixD (.lst (((i0 :: is).map fun i : Nat => (0 + (i : Int))).map .int)) (.int 0) = .ok (.int (i0 : Int)) := by
      rw [m_ix (by omega) (by simp; try omega)]
      simp
    have eh' : opM ixD (.lst (rows.map rowL)) (.int (i0 : Int)) = .ok (rowL (rows.getD i0 [])) := by rw [← eh]; simp
    have e6 : rangeD 0 ((rows.length : Nat) : Int).toNat = (List.range rows.length).map fun i : Nat => D.int (0 + (i : Int)) := by
      have : ((rows.length : Nat) : Int).toNat = rows.length := by omega
      rw [this, rangeD_map]
    have e7 := inner_ok (p := p) (n := n) (rows := rows) (j := j) (i0 := i0) (hx := .lst (((i0 :: is).map fun i : Nat => (0 + (i : Int))).map .int)) (h := rows.getD i0 []) hp hn hj hr rh e5 (List.range rows.length) [] (fun i hi => List.mem_range.mp hi) (by simp; omega)
    rw [List.map_nil, List.nil_append] at e7
    have e8 : ((List.range rows.length).filter fun i => decide (i ≠ i0)).map (fun i => DM.cutRow p j (rows.getD i0 []) (rows.getD i [])) = (leftOf rows i0).map (DM.cutRow p j (rows.getD i0 [])) := by
      unfold leftOf
      rw [List.map_map]
      rfl
    rw [e8] at e7
    refine ⟨?_, ?_, fun r hr' => ?_⟩
    · rw [e4, if_pos rfl, e5, r_ok, eh', r_ok, m_add, r_ok, ix_rowL (by rw [rh.len]; exact hj), r_ok, r_ok, r_ok, m_rng1 (by omega) (by omega), r_ok, e6]
      exact congrArg (fun z => Res.bind z fun s115 => Res.ok (s115, D.int (k + 1))) e7
    · unfold leftOf
      rw [List.length_map]
      exact Nat.le_trans (List.length_filter_le _ _) (by rw [List.length_range]; exact hl)
    · obtain ⟨s, hs', rfl⟩ := List.mem_map.mp hr'
      unfold leftOf at hs'
      obtain ⟨i, hi, rfl⟩ := List.mem_map.mp hs'
      exact DM.cut_row (by omega) (row_get hr (List.mem_range.mp (List.mem_filter.mp hi).1)).1 rh
theorem rank_fold (hp : Pr p) (hn : n ≤ 1000) : ∀ (js : List Nat) (rows : List (List Int)) (k : Int), (∀ j ∈ js, j < n) → rows.length ≤ 1000 → (∀ r ∈ rows, DM.Row p n r) →
    ∃ x, foldR (rankF (.int p)) (js.map fun j : Nat => D.int (0 + (j : Int))) ((.lst (rows.map rowL) : D), (.int k : D)) = .ok (x, .int (k + DM.elim p js rows))
  | [], rows, k, _, _, _ => ⟨_, by show Res.ok _ = _; rw [show DM.elim p [] rows = 0 from rfl]; simp; rfl⟩
  | j :: js, rows, k, hj, hl, hr => by
    have hjs : ∀ i ∈ js, i < n := fun i hi => hj i (List.mem_cons_of_mem _ hi)
    obtain ⟨e1, e2⟩ := rank_step (k := k) hp hn (hj j (List.mem_cons_self ..)) hl hr
    rw [List.map_cons, foldR_cons _ _ _ _ e1]
    cases q : DM.pick j rows with
    | none =>
      have e3 : DM.elim p (j :: js) rows = DM.elim p js rows := by rw [DM.elim, q]
      rw [e3]
      exact rank_fold hp hn js rows k hjs hl hr
    | some hr0 =>
      obtain ⟨h, rest⟩ := hr0
      rw [q] at e2
      have e3 : DM.elim p (j :: js) rows = 1 + DM.elim p js (rest.map (DM.cutRow p j h)) := by rw [DM.elim, q]
      obtain ⟨x, ex⟩ := rank_fold hp hn js (rest.map (DM.cutRow p j h)) (k + 1) hjs (by rw [List.length_map]; exact e2.1) e2.2
      refine ⟨x, ?_⟩
      rw [e3]
      refine ex.trans ?_
      rw [Int.natCast_add, Int.add_assoc]
      rfl
theorem pyL_ne {d : D} {ds : List D} (z : pyL (d :: ds) = some []) : False := by
  unfold pyL at z
  split at z
  · cases q : pyL ds with
    | none => rw [q] at z; cases z
    | some b => rw [q] at z; cases z
  · cases z
theorem rank_ok (hp : Pr p) (hn : n ≤ 1000) (hl : rows.length ≤ 1000) (hr : ∀ r ∈ rows, DM.Row p n r) : M__law_rank (.lst (rows.map rowL)) (.int p) = .ok (.int (DM.elim p (List.range n) rows)) := by
  unfold M__law_rank
  rw [m_itL, r_ok, m_few (by rw [List.length_map]; omega)]
  rw [mapR_ok (e := rowL) (g := rowL) fun r _ => by
    show ((newM listD [.lst (r.map .int)]).bind _) = _
    rw [m_list, r_ok]
    rfl]
  rw [r_ok, m_tup2, r_ok, m_un2, m_lst (by show 0 ≤ 100000; omega), r_ok]
  have en : opM neD (.lst (rows.map rowL)) (.lst []) = .ok (.bl !decide (rows = [])) := by
    cases rows with
    | nil => exact m_neL [] []
    | cons r rs =>
      have : Pd 2 (.lst ((r :: rs).map rowL)) := fun d hd => by
        obtain ⟨s, _, rfl⟩ := List.mem_map.mp hd
        exact pd_ints s
      obtain ⟨q, h1, h2, h3, h4⟩ := py_of this
      unfold opM neD eqB
      rw [h1]
      have e0 : pyD (.lst []) = some (.list []) := rfl
      rw [e0]
      dsimp only
      have s1 : SeqAt.shaped q = true := by
        unfold SeqAt.shaped
        rw [h2, decide_eq_true (by omega)]
        rfl
      have s2 : SeqAt.shaped (.list []) = true := shaped_ints []
      rw [s1, s2]
      have h1 : ((pyL ((r :: rs).map rowL)).map PyData.list) = some q := h1
      cases z : pyL ((r :: rs).map rowL) with
      | none => rw [z] at h1; cases h1
      | some ps =>
        rw [z] at h1
        cases h1
        cases ps with
        | nil =>
          exfalso
          exact pyL_ne z
        | cons a b =>
          rw [PyData.eqv, PyData.eqvAll]
          simp
          rfl
  rw [en, r_ok, m_asB, r_ok]
  cases rows with
  | nil =>
    have e0 : DM.elim p (List.range n) ([] : List (List Int)) = 0 := by
      have : ∀ js, DM.elim p js ([] : List (List Int)) = 0 := fun js => by
        induction js with
        | nil => rfl
        | cons j js ih => rw [DM.elim]; exact ih
      exact this _
    rw [e0]
    rfl
  | cons r rs =>
    have e1 : (!decide (r :: rs = [])) = true := by simp
    rw [e1, if_pos rfl]
    have e2 : opM ixD (.lst ((r :: rs).map rowL)) (.int 0) = .ok (rowL r) := by
      have := (row_get (i := 0) hr (by simp)).2
      exact this
    have e3 : fnM lenD [rowL r] = .ok (.int (n : Int)) := by
      show fnM lenD [.lst (r.map .int)] = _
      rw [m_len, List.length_map, (hr r (List.mem_cons_self ..)).len]
    rw [e2, r_ok, e3, r_ok, r_ok, m_rng1 (by omega) (by omega), r_ok]
    have e4 : rangeD 0 ((n : Nat) : Int).toNat = (List.range n).map fun j : Nat => D.int (0 + (j : Int)) := by
      have : ((n : Nat) : Int).toNat = n := by omega
      rw [this, rangeD_map]
    rw [e4]
    obtain ⟨x, ex⟩ := rank_fold (p := p) hp hn (List.range n) (r :: rs) 0 (fun j hj => List.mem_range.mp hj) hl hr
    refine (congrArg (fun z => Res.bind z fun s94 => Res.ok s94.2) ex).trans ?_
    show Res.ok (D.int (0 + _)) = _
    rw [Int.zero_add]
theorem lies_ok {t : List Int} (hp : Pr p) (hn : n ≤ 1000) (hl : rows.length ≤ 900) (hr : ∀ r ∈ rows, DM.Row p n r) (ht : DM.Row p n t) : ∃ b : Bool, M__law_lies (rowL t) (.lst (rows.map rowL)) (.int p) = .ok (.bl b) ∧ (b = true ↔ DM.Sp p (DM.InR rows) (DM.gz t)) := by
  have h1 := hp.lo
  have hrow : ∀ r ∈ rows ++ [t], DM.Row p n r := fun r hr' => by
    rcases List.mem_append.mp hr' with z | z
    · exact hr r z
    · rw [List.mem_singleton.mp z]; exact ht
  have e : M__law_lies (rowL t) (.lst (rows.map rowL)) (.int p) = .ok (.bl (decide ((DM.elim p (List.range n) (rows ++ [t]) : Int) = (DM.elim p (List.range n) rows : Int)))) := by
    unfold M__law_lies
    rw [m_list, r_ok, m_lst (by show 1 ≤ 100000; omega), r_ok, m_addL (by rw [List.length_map]; show rows.length + 1 ≤ 100000; omega), r_ok]
    have e0 : rows.map rowL ++ [rowL t] = (rows ++ [t]).map rowL := by rw [List.map_append]; rfl
    rw [e0, rank_ok hp hn (by rw [List.length_append]; simp; omega) hrow, r_ok, rank_ok hp hn (by omega) hr, r_ok, m_eq, r_ok]
  refine ⟨_, e, ?_⟩
  have out : ∀ {r : List Int}, DM.Row p n r → ∀ i, i ∉ List.range n → DM.gz r i = 0 := fun h i hi => gz_out h.len fun z => hi (List.mem_range.mpr z)
  rcases DM.elim_app (p := p) (n := n) (by omega) (DM.inv_of hp.nd) (List.range n) rows t hr ht (fun r hr' => out (hr r hr')) (out ht) with ⟨s, q⟩ | ⟨s, q⟩
  · rw [q]
    simp [s]
  · rw [q]
    refine ⟨fun z => ?_, fun z => (s z).elim⟩
    exfalso
    have z := of_decide_eq_true z
    omega
end

end K09

namespace K09
open PySem PySem.Spec PyProof.Rows L2 DL

def turnL (s123 d122 : D) : Res (Ft D D) := (M__law_prime s123).bind fun t125 => (M__law_pull t125.2 (.int 5)).bind fun t126 => (opM addD (.int 1) t126.1).bind fun v127 => (tupM [t125.1, v127]).bind fun v128 => un2 v128 fun x129 x130 => (M__law_pull t126.2 (.int 5)).bind fun t131 => (rng1M [t131.1]).bind fun ds132 => (few ds132 (mapS (fun s134 d133 => (M__law_vector s134 x129 x130).bind fun t135 => Res.ok (t135.1, t135.2)) ds132 t131.2)).bind fun l136 => (M__law_pull l136.2 (.int 2)).bind fun t138 => (asI t138.1).bind fun i137 => (slM (.lst l136.1) none (some i137)).bind fun v139 => (opM addD (.lst l136.1) v139).bind fun v140 => (fnM lenD [v140]).bind fun v141 => (M__law_vector t138.2 x129 v141).bind fun t142 => (M__law_sum_of t142.1 v140 x129 x130).bind fun v143 => (M__law_pull t142.2 (.int 3)).bind fun t145 => (opM gtD t145.1 (.int 0)).bind fun v146 => (asB v146).bind fun b144 => (if b144 then Res.ok (v143, t145.2) else (M__law_vector t145.2 x129 x130).bind fun t148 => Res.ok (t148.1, t148.2)).bind fun v147 => (itM v140).bind fun ds149 => (few ds149 (mapR (fun d150 => (newM listD [d150]).bind fun v151 => Res.ok v151) ds149)).bind fun l152 => (newM listD [v147.1]).bind fun v153 => (M_combination x129 (.lst l152) v147.1).bind fun v154 => (opM neD (.lst l152) v140).bind fun v156 => (asB v156).bind fun b155 => (if b155 then Res.ok true else (opM neD v147.1 v153).bind fun v158 => (asB v158).bind fun b157 => (if b157 then Res.ok true else (opM isND v154 .non).bind fun v160 => (M__law_lies v147.1 v140 x129).bind fun v162 => (asB v162).bind fun b161 => (opM neD v160 (.bl !b161)).bind fun v163 => (asB v163).bind fun b159 => Res.ok b159).bind fun b164 => Res.ok b164).bind fun b165 => if b165 then Res.ok (Ft.rt (.bl false)) else ((opM notND v154 .non).bind fun v168 => (asB v168).bind fun b167 => if b167 then (isiM [.list] v154).bind fun v170 => (asB v170).bind fun b169 => (if (!b169) then Res.ok true else (fnM lenD [v154]).bind fun v172 => (fnM lenD [v140]).bind fun v173 => (opM neD v172 v173).bind fun v174 => (asB v174).bind fun b171 => Res.ok b171).bind fun b175 => if b175 then Res.ok (Ft.rt (Ft.rt (.bl false))) else (itM v154).bind fun ds177 => (few ds177 (mapR (fun d178 => (isiM [.int] d178).bind fun v180 => (asB v180).bind fun b179 => (if b179 then (isiM [.bool] d178).bind fun v183 => (asB v183).bind fun b182 => (asB (.bl !b182)).bind fun b181 => (if b181 then (opM leD (.int 0) d178).bind fun v184 => (asB v184).bind fun b185 => (if b185 then opM ltD d178 x129 else Res.ok (.bl false)).bind fun v186 => Res.ok v186 else Res.ok (.bl false)).bind fun v187 => Res.ok v187 else Res.ok (.bl false)).bind fun v188 => Res.ok v188) ds177)).bind fun l189 => (fnM allD [(.lst l189)]).bind fun v190 => (asB v190).bind fun b176 => if (!b176) then Res.ok (Ft.rt (Ft.rt (.bl false))) else (M__law_sum_of v154 v140 x129 x130).bind fun v192 => (opM neD v192 v147.1).bind fun v193 => (asB v193).bind fun b191 => if b191 then Res.ok (Ft.rt (Ft.rt (.bl false))) else Res.ok (Ft.nx ()) else Res.ok (Ft.nx ())).bind (Ft.go fun s166 => (fnM tupleD [v147.1]).bind fun v195 => (fnM tupleD [(.lst l152)]).bind fun v196 => (permM 3 [2, 1, 0] [v195, v196, x129]).bind fun l197 => (ap3 M_combination l197).bind fun v198 => ((M__law_like 3) v198 v154).bind fun v199 => (asB v199).bind fun b194 => if (!b194) then Res.ok (Ft.rt (.bl false)) else Res.ok (Ft.nx v147.2))
theorem rows_of {p : Int} {n : Nat} : ∀ ds : List D, (∀ d ∈ ds, ∃ r, d = rowL r ∧ DM.Row p n r) → ∃ rows : List (List Int), ds = rows.map rowL ∧ ∀ r ∈ rows, DM.Row p n r
  | [], _ => ⟨[], rfl, fun x hx => by simp at hx⟩
  | d :: ds, h => by
    obtain ⟨x, rfl, l⟩ := h d (List.mem_cons_self ..)
    obtain ⟨r, rfl, hr⟩ := rows_of ds fun e he => h e (List.mem_cons_of_mem _ he)
    refine ⟨x :: r, rfl, fun y hy => ?_⟩
    rcases List.mem_cons.mp hy with rfl | hy
    · exact l
    · exact hr y hy
/-! like -/
theorem like_int (Mr : D → D → Res D) (i : Int) : Mb__law_like Mr (.int i) (.int i) = .ok (.bl true) := by
  unfold Mb__law_like
  show (opM eqD (.int i) (.int i)).bind _ = _
  rw [m_eq, r_ok, decide_eq_true rfl]
theorem like_non (Mr : D → D → Res D) : Mb__law_like Mr .non .non = .ok (.bl true) := rfl
theorem like_lst (Mr : D → D → Res D) (ds : List D) (hl : ds.length ≤ 100000) (h : ∀ d ∈ ds, Mr d d = .ok (.bl true)) : Mb__law_like Mr (.lst ds) (.lst ds) = .ok (.bl true) := by
  unfold Mb__law_like
  show (Res.bind _ _) = _
  have e : mapR (fun d57 => un2 d57 fun x58 x59 => (Mr x58 x59).bind fun v60 => Res.ok v60) (zipD ds ds) = .ok (ds.map fun _ => .bl true) := by
    have : zipD ds ds = ds.map fun d => D.prs [d, d] := by
      unfold zipD
      clear h hl
      induction ds with
      | nil => rfl
      | cons d ds ih => rw [List.zip_cons_cons, List.map_cons, List.map_cons, ih]
    rw [this]
    refine mapR_ok (e := fun d => D.prs [d, d]) (g := fun _ => D.bl true) fun d hd => ?_
    rw [m_un2P, h d hd]
    rfl
  have e2 : (zipM2 [.lst ds, .lst ds]).bind (fun ds56 => (few ds56 (mapR (fun d57 => un2 d57 fun x58 x59 => (Mr x58 x59).bind fun v60 => Res.ok v60) ds56)).bind fun l61 => (fnM allD [(.lst l61)]).bind fun v62 => Res.ok v62) = .ok (.bl true) := by
    rw [m_z2LL, r_ok, m_few (by unfold zipD; simp; omega), e, r_ok, all_true]
    rfl
  show ((opM eqD (.int ds.length) (.int ds.length)).bind fun v55 => (asB v55).bind fun b52 => (if b52 then (zipM2 [.lst ds, .lst ds]).bind (fun ds56 => (few ds56 (mapR (fun d57 => un2 d57 fun x58 x59 => (Mr x58 x59).bind fun v60 => Res.ok v60) ds56)).bind fun l61 => (fnM allD [(.lst l61)]).bind fun v62 => Res.ok v62) else Res.ok (.bl false)).bind fun v63 => Res.ok v63) = _
  rw [m_eq, r_ok, m_asB, r_ok, decide_eq_true rfl, if_pos rfl, e2]
  rfl
theorem like_ans (o : Option (List Int)) (h : ∀ xs, o = some xs → xs.length ≤ 1000) : M__law_like 3 (ansD o) (ansD o) = .ok (.bl true) := by
  cases o with
  | none => exact like_non _
  | some xs =>
    refine like_lst _ _ (by rw [List.length_map]; have := h xs rfl; omega) fun d hd => ?_
    obtain ⟨i, _, rfl⟩ := List.mem_map.mp hd
    exact like_int _ i
theorem found_ok {p : Int} {xs : List Int} (hx : Lo p xs) : mapR (fun d178 => (isiM [.int] d178).bind fun v180 => (asB v180).bind fun b179 => (if b179 then (isiM [.bool] d178).bind fun v183 => (asB v183).bind fun b182 => (asB (.bl !b182)).bind fun b181 => (if b181 then (opM leD (.int 0) d178).bind fun v184 => (asB v184).bind fun b185 => (if b185 then opM ltD d178 (.int p) else Res.ok (.bl false)).bind fun v186 => Res.ok v186 else Res.ok (.bl false)).bind fun v187 => Res.ok v187 else Res.ok (.bl false)).bind fun v188 => Res.ok v188) (xs.map .int) = .ok (xs.map fun _ => .bl true) := by
  exact mapR_ok (e := D.int) (g := fun _ => D.bl true) fun x h => by
    obtain ⟨l, u⟩ := hx x h
    have i1 : isiM [.int] (.int x) = .ok (.bl true) := rfl
    have i2 : isiM [.bool] (.int x) = .ok (.bl false) := rfl
    rw [i1, r_ok, m_asB, r_ok, if_pos rfl, i2, r_ok, m_asB, r_ok, Bool.not_false, m_asB, r_ok, if_pos rfl, m_le, r_ok, m_asB, r_ok, decide_eq_true l, if_pos rfl, m_lt, decide_eq_true u]
    rfl
theorem turnL_ok (b : D) (B : Bag b) (d : D) : ∃ b', turnL b d = .ok (.nx b') ∧ Bag b' := by
  obtain ⟨p, b1, hp, B1, e1⟩ := prime_ok b B
  have p1 := hp.lo
  have p2 := hp.hi
  obtain ⟨x1, b2, l1, u1, B2, e2⟩ := pull b1 B1 5 (by omega) (by omega)
  obtain ⟨n, rfl⟩ : ∃ n : Nat, x1 = (n : Int) := ⟨x1.toNat, by omega⟩
  obtain ⟨x2, b3, l2, u2, B3, e3⟩ := pull b2 B2 5 (by omega) (by omega)
  obtain ⟨m, rfl⟩ : ∃ m : Nat, x2 = (m : Int) := ⟨x2.toNat, by omega⟩
  have hn : (1 + (n : Int)) = ((n + 1 : Nat) : Int) := by omega
  obtain ⟨ds, b4, e4, dl, dP, B4⟩ := mapS_ok (e := fun i : Nat => D.int (0 + (i : Int))) (f := fun s134 d133 => (M__law_vector s134 (.int p) (.int ((n + 1 : Nat) : Int))).bind fun t135 => Res.ok (t135.1, t135.2)) Bag (fun d => ∃ r, d = rowL r ∧ DM.Row p (n + 1) r) (xs := List.range m) (s := b3) B3 fun i _ s hs => by
    obtain ⟨r, b', hr, B', e⟩ := vector_drawn hp s hs (n + 1) (by omega)
    exact ⟨rowL r, b', by rw [e]; rfl, ⟨r, rfl, hr⟩, B'⟩
  obtain ⟨rows0, rfl, hr0⟩ := rows_of ds dP
  rw [List.length_map, List.length_range] at dl
  obtain ⟨x3, b5, l3, u3, B5, e5⟩ := pull b4 B4 2 (by omega) (by omega)
  obtain ⟨k, rfl⟩ : ∃ k : Nat, x3 = (k : Int) := ⟨x3.toNat, by omega⟩
  have hrows : ∀ r ∈ rows0 ++ rows0.take k, DM.Row p (n + 1) r := fun r hr => by
    rcases List.mem_append.mp hr with z | z
    · exact hr0 r z
    · exact hr0 r (List.mem_of_mem_take z)
  have hlen : (rows0 ++ rows0.take k).length ≤ 10 := by rw [List.length_append, List.length_take]; omega
  have ea : opM addD (.lst (rows0.map rowL)) (.lst ((rows0.take k).map rowL)) = .ok (.lst ((rows0 ++ rows0.take k).map rowL)) := by
    rw [m_addL (by rw [List.length_map, List.length_map, List.length_take]; omega), List.map_append]
  generalize rows0 ++ rows0.take k = rows at *
  obtain ⟨fs, b6, hfs, B6, e6⟩ := vector_drawn hp b5 B5 rows.length (by omega)
  obtain ⟨out, e7, hout, aout⟩ := lsum_ok (n := n + 1) hp (by omega) hrows (row_lo hfs) hfs.len
  obtain ⟨x4, b7, l4, u4, B7, e8⟩ := pull b6 B6 3 (by omega) (by omega)
  obtain ⟨t, b8, ht, B8, e9⟩ : ∃ t b8, DM.Row p (n + 1) t ∧ Bag b8 ∧ (if decide (0 < x4) = true then Res.ok (rowL out, b7) else (M__law_vector b7 (.int p) (.int ((n + 1 : Nat) : Int))).bind fun t148 => Res.ok (t148.1, t148.2)) = .ok (rowL t, b8) := by
    by_cases q : 0 < x4
    · exact ⟨out, b7, hout, B7, by rw [if_pos (decide_eq_true q)]⟩
    · obtain ⟨r, b', hr, B', e⟩ := vector_drawn hp b7 B7 (n + 1) (by omega)
      exact ⟨r, b', hr, B', by rw [if_neg (by simpa using q), e]; rfl⟩
  obtain ⟨o, c1, c2, c3⟩ := combination_ok (n := n + 1) hp (by omega) (by omega) (by omega) hrows ht
  obtain ⟨lb, e10, h10⟩ := lies_ok (n := n + 1) hp (by omega) (by omega) hrows ht
  have hcopy : mapR (fun d150 => (newM listD [d150]).bind fun v151 => Res.ok v151) (rows.map rowL) = .ok (rows.map rowL) := mapR_ok (e := rowL) (g := rowL) fun r _ => by
    show ((newM listD [.lst (r.map .int)]).bind _) = _
    rw [m_list, r_ok]
    rfl
  have hpd : Pd 2 (.lst (rows.map rowL)) := fun d hd => by
    obtain ⟨s, _, rfl⟩ := List.mem_map.mp hd
    exact pd_ints s
  have hcl : newM listD [rowL t] = .ok (rowL t) := m_list _
  have hne1 : opM neD (rowL t) (rowL t) = .ok (.bl false) := m_neR (n := 1) (pd_ints t) (by omega)
  refine ⟨b8, ?_, B8⟩
  unfold turnL
  rw [e1, r_ok]
  dsimp only
  rw [e2, r_ok]
  dsimp only
  rw [m_add, r_ok, hn, m_tup2, r_ok, m_un2, e3, r_ok]
  dsimp only
  rw [m_rng1 (by omega) (by omega), r_ok, m_few (by unfold rangeD; rw [List.length_map, List.length_range]; omega)]
  have e4' : rangeD 0 ((m : Nat) : Int).toNat = (List.range m).map fun i : Nat => D.int (0 + (i : Int)) := by
    have : ((m : Nat) : Int).toNat = m := by omega
    rw [this, rangeD_map]
  rw [e4', e4, r_ok]
  dsimp only
  rw [e5, r_ok]
  dsimp only
  rw [m_asI, r_ok, m_sl_to, r_ok, ea, r_ok, m_len, r_ok, List.length_map, e6, r_ok]
  dsimp only
  have e7' : M__law_sum_of (rowL fs) (.lst (rows.map rowL)) (.int p) (.int ((n + 1 : Nat) : Int)) = .ok (rowL out) := e7
  rw [e7', r_ok, e8, r_ok]
  dsimp only
  rw [m_gt, r_ok, m_asB, r_ok, e9, r_ok]
  dsimp only
  rw [m_itL, r_ok, m_few (by rw [List.length_map]; omega), hcopy, r_ok, hcl, r_ok, c1 _ (rowL t) (.inl rfl) (.inl rfl), r_ok, m_neR hpd (by omega), r_ok, m_asB, r_ok, if_neg (by simp), hne1, r_ok, m_asB, r_ok, if_neg (by simp)]
  rw [m_isN, r_ok, e10, r_ok, m_asB, r_ok]
  have hb : isNonB (ansD o) = !lb := by
    cases o with
    | none =>
      have : ¬ lb = true := fun z => c2.mp rfl (h10.mp z)
      have : lb = false := by simpa using this
      rw [this]; rfl
    | some xs =>
      have : lb = true := by
        false_or_by_contra
        rename_i z
        have := c2.mpr fun y => z (h10.mpr y)
        cases this
      rw [this]; rfl
  have hne2 : opM neD (.bl (isNonB (ansD o))) (.bl !lb) = .ok (.bl false) := by rw [hb]; exact m_neR (n := 0) True.intro (by omega)
  rw [hne2, r_ok, m_asB, r_ok, r_ok, r_ok, if_neg (by simp), m_notN, r_ok, m_asB, r_ok]
  have hlast : (fnM tupleD [rowL t]).bind (fun v195 => (fnM tupleD [(.lst (rows.map rowL))]).bind fun v196 => (permM 3 [2, 1, 0] [v195, v196, (.int p)]).bind fun l197 => (ap3 M_combination l197).bind fun v198 => ((M__law_like 3) v198 (ansD o)).bind fun v199 => (asB v199).bind fun b194 => if (!b194) then Res.ok (Ft.rt (.bl false)) else Res.ok (Ft.nx b8)) = (.ok (.nx b8) : Res (Ft D D)) := by
    have q1 : fnM tupleD [rowL t] = .ok (rowT t) := m_tupleL _
    rw [q1, r_ok, m_tupleL, r_ok]
    show ((M_combination (.int p) (.tup (rows.map rowL)) (rowT t)).bind fun v198 => ((M__law_like 3) v198 (ansD o)).bind fun v199 => (asB v199).bind fun b194 => if (!b194) then Res.ok (Ft.rt (D.bl false)) else Res.ok (Ft.nx b8)) = _
    rw [c1 _ _ (.inr rfl) (.inr rfl), r_ok, like_ans o fun xs hx => by have := (c3 xs hx).1; omega]
    rfl
  cases o with
  | none => exact hlast
  | some xs =>
    obtain ⟨xl, xlo, xs_ok⟩ := c3 xs rfl
    obtain ⟨out2, e11, hout2, aout2⟩ := lsum_ok (n := n + 1) (fs := xs) hp (by omega) hrows xlo xl
    have eo : out2 = t := row_eq (by omega) hout2 ht fun j hj => by
      obtain ⟨k1, q1⟩ := aout2 j
      obtain ⟨k2, q2⟩ := xs_ok j hj
      exact ⟨k2 + k1, by rw [q1, q2]; grind⟩
    subst eo
    have q2 : fnM lenD [ansD (some xs)] = .ok (.int (xs.length : Nat)) := by
      show fnM lenD [.lst (xs.map .int)] = _
      rw [m_len, List.length_map]
    have i0 : (!isNonB (ansD (some xs))) = true := rfl
    have i1 : isiM [.list] (ansD (some xs)) = .ok (.bl true) := rfl
    have i2 : itM (ansD (some xs)) = .ok (xs.map .int) := rfl
    have i3 : M__law_sum_of (ansD (some xs)) (.lst (rows.map rowL)) (.int p) (.int ((n + 1 : Nat) : Int)) = .ok (rowL out2) := e11
    rw [if_pos i0, i1, r_ok, m_asB, r_ok, if_neg (by simp), q2, r_ok, r_ok, m_ne, xl, decide_eq_true rfl, r_ok, m_asB, r_ok, r_ok, if_neg (by simp), i2, r_ok, m_few (by rw [List.length_map]; omega), found_ok xlo, r_ok, all_true, r_ok, m_asB, r_ok, if_neg (by simp), i3, r_ok, hne1, r_ok, m_asB, r_ok, if_neg (by simp), r_ok]
    exact hlast
theorem sp_nil {p : Int} {v : DM.Vec} (h : DM.Sp p (DM.InR []) v) (j : Nat) : ∃ k, v j = p * k := h.at0 (j0 := j) fun r ⟨s, hs, _⟩ => by simp at hs
theorem lo {p a : Int} (h0 : 0 ≤ a) (h1 : a < p) {l : List Int} (hl : Lo p l) : Lo p (a :: l) := fun x hx => by
  rcases List.mem_cons.mp hx with rfl | hx
  · exact ⟨h0, h1⟩
  · exact hl x hx
theorem main (ns : List Int) (hl : ns.length ≤ 63) : M_law (.scr ns) = .ok (.bl true) := by
  obtain ⟨b, B, e1⟩ := draws_ok ns
  obtain ⟨b', e2, _⟩ := loopR_inv (f := turnL) Bag (ds := rangeD 0 5) B fun d _ s hs => turnL_ok s hs d
  have R : ∀ {n : Nat} {r : List Int}, Lo 10007 r → r.length = n → DM.Row 10007 n r := fun {n r} h e => e ▸ row_of_lo (by decide) h
  have nl : Lo 10007 [] := fun x hx => by simp at hx
  obtain ⟨o1, c1, d1, f1⟩ := combination_ok (n := 2) (rows := []) (t := [0, 0]) pr1 (by omega) (by omega) (by simp) (fun r hr => by simp at hr) (R (lo (by decide) (by decide) (lo (by decide) (by decide) nl)) rfl)
  obtain ⟨o2, c2, d2, f2⟩ := combination_ok (n := 2) (rows := []) (t := [0, 1]) pr1 (by omega) (by omega) (by simp) (fun r hr => by simp at hr) (R (lo (by decide) (by decide) (lo (by decide) (by decide) nl)) rfl)
  obtain ⟨o3, c3, d3, f3⟩ := combination_ok (n := 1) (rows := [[2]]) (t := [1]) pr1 (by omega) (by omega) (by simp) (fun r hr => by rw [List.mem_singleton.mp hr]; exact R (lo (by decide) (by decide) nl) rfl) (R (lo (by decide) (by decide) nl) rfl)
  have g1 : ansD o1 = .lst [] := by
    cases o1 with
    | none =>
      refine (d1.mp rfl (.zero fun j => ⟨0, ?_⟩)).elim
      match j with
      | 0 => rfl
      | 1 => rfl
      | j + 2 => rfl
    | some xs =>
      have := (f1 xs rfl).1
      rw [List.length_eq_zero_iff.mp this]
      rfl
  have g2 : ansD o2 = .non := by
    cases o2 with
    | none => rfl
    | some xs =>
      obtain ⟨k, hk⟩ := (f2 xs rfl).2.2 1 (by omega)
      have z : DM.comb [] xs 1 = 0 := by cases xs <;> rfl
      rw [z] at hk
      have : DM.gz [0, 1] 1 = 1 := rfl
      omega
  have g3 : ansD o3 = .lst [.int 5004] := by
    cases o3 with
    | none =>
      refine (d3.mp rfl ?_).elim
      refine DM.Sp.eqv (DM.Sp.mul 5004 (DM.Sp.one ⟨[2], List.mem_singleton.mpr rfl, rfl⟩)) fun j => ?_
      match j with
      | 0 => exact ⟨-1, rfl⟩
      | j + 1 => exact ⟨0, rfl⟩
    | some xs =>
      obtain ⟨h1, h2, h3⟩ := f3 xs rfl
      match xs, h1 with
      | [x], _ =>
        obtain ⟨k, hk⟩ := h3 0 (by omega)
        obtain ⟨l, u⟩ := h2 x (List.mem_singleton.mpr rfl)
        have e : DM.comb [[2]] [x] 0 = x * 2 + 0 := rfl
        have e2 : DM.gz [1] 0 = 1 := rfl
        rw [e, e2] at hk
        have : x = 5004 := by omega
        rw [this]
        rfl
  unfold M_law
  rw [e1, r_ok, m_rng1 (by omega) (by omega), r_ok]
  refine (congrArg (fun z => Res.bind z _) e2).trans ?_
  rw [r_ok, m_go]
  have L0 : lstM [] = .ok (.lst []) := rfl
  have L2 : ∀ a b : D, lstM [a, b] = .ok (.lst [a, b]) := fun a b => m_lst (by show 2 ≤ 100000; omega)
  have L1 : ∀ a : D, lstM [a] = .ok (.lst [a]) := fun a => m_lst (by show 1 ≤ 100000; omega)
  have L3 : ∀ a b c : D, lstM [a, b, c] = .ok (.lst [a, b, c]) := fun a b c => m_lst (by show 3 ≤ 100000; omega)
  have k1 : M_combination (.int 10007) (.lst []) (.lst [.int 0, .int 0]) = .ok (.lst []) := (c1 (.lst []) (.lst [.int 0, .int 0]) (.inl rfl) (.inl rfl)).trans (by rw [g1])
  have k2 : M_combination (.int 10007) (.lst []) (.lst [.int 0, .int 1]) = .ok .non := (c2 (.lst []) (.lst [.int 0, .int 1]) (.inl rfl) (.inl rfl)).trans (by rw [g2])
  have k3 : M_combination (.int 10007) (.lst [.lst [.int 2]]) (.lst [.int 1]) = .ok (.lst [.int 5004]) := (c3 (.lst [.lst [.int 2]]) (.lst [.int 1]) (.inl rfl) (.inl rfl)).trans (by rw [g3])
  rw [L0, r_ok, L2, r_ok, k1, r_ok, r_ok, L2, r_ok, k2, r_ok, L1, r_ok, L1, r_ok, L1, r_ok, k3, r_ok, L3, r_ok, r_ok, L1, r_ok, L3, r_ok]
  have : M__law_like 3 (.lst [.lst [], .non, .lst [.int 5004]]) (.lst [.lst [], .non, .lst [.int 5004]]) = .ok (.bl true) := by
    refine like_lst _ _ (by simp) fun d hd => ?_
    simp only [List.mem_cons, List.not_mem_nil, or_false] at hd
    rcases hd with rfl | rfl | rfl
    · exact like_lst _ _ (by simp) fun d hd => by simp at hd
    · exact like_non _
    · refine like_lst _ _ (by simp) fun d hd => ?_
      rw [List.mem_singleton.mp hd]
      exact like_int _ _
  rw [this]
  rfl

end K09

namespace K09
open PySem PySem.Spec PyProof.Rows L2 DL
theorem all_mk {l : PySem.W.OpenLaw} {w : World} {K : PySem.W.Frag} {h : Heap} {mg : Str → Option Value} {fa f_copied f_is_number f_is_modulus f_check_modulus f_is_letter f_inverse f_is_vector f_is_vector_of f_check_vectors f_product_of f_sum_of f_lead f_first_other_than_zero f_cleared_at f_cleared f_basis_with f_widened f_reduced_basis f_combination f__law_draws f__law_pull f__law_any f__law_like f__law_prime f__law_letter f__law_vector f__law_sum_of f__law_rank f__law_lies f_law : Addr} (X : K.In h) (G : h.Ns mainGlobals mg) (hfa : mg "law" = some (.ref fa))
    {od0 an0 : Option Addr} {sl0 : Array (Option Value)} {oc0 kV0 dc0 pm0 cd0 ct0 : Value} {od1 an1 : Option Addr} {sl1 : Array (Option Value)} {oc1 kV1 dc1 pm1 cd1 ct1 : Value} {od2 an2 : Option Addr} {sl2 : Array (Option Value)} {oc2 kV2 dc2 pm2 cd2 ct2 : Value} {od3 an3 : Option Addr} {sl3 : Array (Option Value)} {oc3 kV3 dc3 pm3 cd3 ct3 : Value} {od4 an4 : Option Addr} {sl4 : Array (Option Value)} {oc4 kV4 dc4 pm4 cd4 ct4 : Value} {od5 an5 : Option Addr} {sl5 : Array (Option Value)} {oc5 kV5 dc5 pm5 cd5 ct5 : Value} {od6 an6 : Option Addr} {sl6 : Array (Option Value)} {oc6 kV6 dc6 pm6 cd6 ct6 : Value} {od7 an7 : Option Addr} {sl7 : Array (Option Value)} {oc7 kV7 dc7 pm7 cd7 ct7 : Value} {od8 an8 : Option Addr} {sl8 : Array (Option Value)} {oc8 kV8 dc8 pm8 cd8 ct8 : Value} {od9 an9 : Option Addr} {sl9 : Array (Option Value)} {oc9 kV9 dc9 pm9 cd9 ct9 : Value} {od10 an10 : Option Addr} {sl10 : Array (Option Value)} {oc10 kV10 dc10 pm10 cd10 ct10 : Value} {od11 an11 : Option Addr} {sl11 : Array (Option Value)} {oc11 kV11 dc11 pm11 cd11 ct11 : Value} {od12 an12 : Option Addr} {sl12 : Array (Option Value)} {oc12 kV12 dc12 pm12 cd12 ct12 : Value} {od13 an13 : Option Addr} {sl13 : Array (Option Value)} {oc13 kV13 dc13 pm13 cd13 ct13 : Value} {od14 an14 : Option Addr} {sl14 : Array (Option Value)} {oc14 kV14 dc14 pm14 cd14 ct14 : Value} {od15 an15 : Option Addr} {sl15 : Array (Option Value)} {oc15 kV15 dc15 pm15 cd15 ct15 : Value} {od16 an16 : Option Addr} {sl16 : Array (Option Value)} {oc16 kV16 dc16 pm16 cd16 ct16 : Value} {od17 an17 : Option Addr} {sl17 : Array (Option Value)} {oc17 kV17 dc17 pm17 cd17 ct17 : Value} {od18 an18 : Option Addr} {sl18 : Array (Option Value)} {oc18 kV18 dc18 pm18 cd18 ct18 : Value} {od19 an19 : Option Addr} {sl19 : Array (Option Value)} {oc19 kV19 dc19 pm19 cd19 ct19 : Value} {od20 an20 : Option Addr} {sl20 : Array (Option Value)} {oc20 kV20 dc20 pm20 cd20 ct20 : Value} {od21 an21 : Option Addr} {sl21 : Array (Option Value)} {oc21 kV21 dc21 pm21 cd21 ct21 : Value} {od22 an22 : Option Addr} {sl22 : Array (Option Value)} {oc22 kV22 dc22 pm22 cd22 ct22 : Value} {od23 an23 : Option Addr} {sl23 : Array (Option Value)} {oc23 kV23 dc23 pm23 cd23 ct23 : Value} {od24 an24 : Option Addr} {sl24 : Array (Option Value)} {oc24 kV24 dc24 pm24 cd24 ct24 : Value} {od25 an25 : Option Addr} {sl25 : Array (Option Value)} {oc25 kV25 dc25 pm25 cd25 ct25 : Value} {od26 an26 : Option Addr} {sl26 : Array (Option Value)} {oc26 kV26 dc26 pm26 cd26 ct26 : Value} {od27 an27 : Option Addr} {sl27 : Array (Option Value)} {oc27 kV27 dc27 pm27 cd27 ct27 : Value} {od28 an28 : Option Addr} {sl28 : Array (Option Value)} {oc28 kV28 dc28 pm28 cd28 ct28 : Value} {od29 an29 : Option Addr} {sl29 : Array (Option Value)} {oc29 kV29 dc29 pm29 cd29 ct29 : Value}
    (a0 : PySem.W.nsIn K mainGlobals "copied" = some (some (.ref f_copied))) (l0 : K.lookup f_copied = some ⟨oc0, od0, .func (PySem.W.fnOf "copied" "copied" (defArgs s_copied) (defBody s_copied) (defScope s_copied) .none kV0 dc0 pm0 an0 cd0 ct0), sl0⟩) (c0 : PySem.W.codeIn K cd0 "copied" = true) (k0 : PySem.W.keepIn K (.ref f_copied) = true)
    (a1 : PySem.W.nsIn K mainGlobals "is_number" = some (some (.ref f_is_number))) (l1 : K.lookup f_is_number = some ⟨oc1, od1, .func (PySem.W.fnOf "is_number" "is_number" (defArgs s_is_number) (defBody s_is_number) (defScope s_is_number) .none kV1 dc1 pm1 an1 cd1 ct1), sl1⟩) (c1 : PySem.W.codeIn K cd1 "is_number" = true) (k1 : PySem.W.keepIn K (.ref f_is_number) = true)
    (a2 : PySem.W.nsIn K mainGlobals "is_modulus" = some (some (.ref f_is_modulus))) (l2 : K.lookup f_is_modulus = some ⟨oc2, od2, .func (PySem.W.fnOf "is_modulus" "is_modulus" (defArgs s_is_modulus) (defBody s_is_modulus) (defScope s_is_modulus) .none kV2 dc2 pm2 an2 cd2 ct2), sl2⟩) (c2 : PySem.W.codeIn K cd2 "is_modulus" = true) (k2 : PySem.W.keepIn K (.ref f_is_modulus) = true)
    (a3 : PySem.W.nsIn K mainGlobals "check_modulus" = some (some (.ref f_check_modulus))) (l3 : K.lookup f_check_modulus = some ⟨oc3, od3, .func (PySem.W.fnOf "check_modulus" "check_modulus" (defArgs s_check_modulus) (defBody s_check_modulus) (defScope s_check_modulus) .none kV3 dc3 pm3 an3 cd3 ct3), sl3⟩) (c3 : PySem.W.codeIn K cd3 "check_modulus" = true) (k3 : PySem.W.keepIn K (.ref f_check_modulus) = true)
    (a4 : PySem.W.nsIn K mainGlobals "is_letter" = some (some (.ref f_is_letter))) (l4 : K.lookup f_is_letter = some ⟨oc4, od4, .func (PySem.W.fnOf "is_letter" "is_letter" (defArgs s_is_letter) (defBody s_is_letter) (defScope s_is_letter) .none kV4 dc4 pm4 an4 cd4 ct4), sl4⟩) (c4 : PySem.W.codeIn K cd4 "is_letter" = true) (k4 : PySem.W.keepIn K (.ref f_is_letter) = true)
    (a5 : PySem.W.nsIn K mainGlobals "inverse" = some (some (.ref f_inverse))) (l5 : K.lookup f_inverse = some ⟨oc5, od5, .func (PySem.W.fnOf "inverse" "inverse" (defArgs s_inverse) (defBody s_inverse) (defScope s_inverse) .none kV5 dc5 pm5 an5 cd5 ct5), sl5⟩) (c5 : PySem.W.codeIn K cd5 "inverse" = true) (k5 : PySem.W.keepIn K (.ref f_inverse) = true)
    (a6 : PySem.W.nsIn K mainGlobals "is_vector" = some (some (.ref f_is_vector))) (l6 : K.lookup f_is_vector = some ⟨oc6, od6, .func (PySem.W.fnOf "is_vector" "is_vector" (defArgs s_is_vector) (defBody s_is_vector) (defScope s_is_vector) .none kV6 dc6 pm6 an6 cd6 ct6), sl6⟩) (c6 : PySem.W.codeIn K cd6 "is_vector" = true) (k6 : PySem.W.keepIn K (.ref f_is_vector) = true)
    (a7 : PySem.W.nsIn K mainGlobals "is_vector_of" = some (some (.ref f_is_vector_of))) (l7 : K.lookup f_is_vector_of = some ⟨oc7, od7, .func (PySem.W.fnOf "is_vector_of" "is_vector_of" (defArgs s_is_vector_of) (defBody s_is_vector_of) (defScope s_is_vector_of) .none kV7 dc7 pm7 an7 cd7 ct7), sl7⟩) (c7 : PySem.W.codeIn K cd7 "is_vector_of" = true) (k7 : PySem.W.keepIn K (.ref f_is_vector_of) = true)
    (a8 : PySem.W.nsIn K mainGlobals "check_vectors" = some (some (.ref f_check_vectors))) (l8 : K.lookup f_check_vectors = some ⟨oc8, od8, .func (PySem.W.fnOf "check_vectors" "check_vectors" (defArgs s_check_vectors) (defBody s_check_vectors) (defScope s_check_vectors) .none kV8 dc8 pm8 an8 cd8 ct8), sl8⟩) (c8 : PySem.W.codeIn K cd8 "check_vectors" = true) (k8 : PySem.W.keepIn K (.ref f_check_vectors) = true)
    (a9 : PySem.W.nsIn K mainGlobals "product_of" = some (some (.ref f_product_of))) (l9 : K.lookup f_product_of = some ⟨oc9, od9, .func (PySem.W.fnOf "product_of" "product_of" (defArgs s_product_of) (defBody s_product_of) (defScope s_product_of) .none kV9 dc9 pm9 an9 cd9 ct9), sl9⟩) (c9 : PySem.W.codeIn K cd9 "product_of" = true) (k9 : PySem.W.keepIn K (.ref f_product_of) = true)
    (a10 : PySem.W.nsIn K mainGlobals "sum_of" = some (some (.ref f_sum_of))) (l10 : K.lookup f_sum_of = some ⟨oc10, od10, .func (PySem.W.fnOf "sum_of" "sum_of" (defArgs s_sum_of) (defBody s_sum_of) (defScope s_sum_of) .none kV10 dc10 pm10 an10 cd10 ct10), sl10⟩) (c10 : PySem.W.codeIn K cd10 "sum_of" = true) (k10 : PySem.W.keepIn K (.ref f_sum_of) = true)
    (a11 : PySem.W.nsIn K mainGlobals "lead" = some (some (.ref f_lead))) (l11 : K.lookup f_lead = some ⟨oc11, od11, .func (PySem.W.fnOf "lead" "lead" (defArgs s_lead) (defBody s_lead) (defScope s_lead) .none kV11 dc11 pm11 an11 cd11 ct11), sl11⟩) (c11 : PySem.W.codeIn K cd11 "lead" = true) (k11 : PySem.W.keepIn K (.ref f_lead) = true)
    (a12 : PySem.W.nsIn K mainGlobals "first_other_than_zero" = some (some (.ref f_first_other_than_zero))) (l12 : K.lookup f_first_other_than_zero = some ⟨oc12, od12, .func (PySem.W.fnOf "first_other_than_zero" "first_other_than_zero" (defArgs s_first_other_than_zero) (defBody s_first_other_than_zero) (defScope s_first_other_than_zero) .none kV12 dc12 pm12 an12 cd12 ct12), sl12⟩) (c12 : PySem.W.codeIn K cd12 "first_other_than_zero" = true) (k12 : PySem.W.keepIn K (.ref f_first_other_than_zero) = true)
    (a13 : PySem.W.nsIn K mainGlobals "cleared_at" = some (some (.ref f_cleared_at))) (l13 : K.lookup f_cleared_at = some ⟨oc13, od13, .func (PySem.W.fnOf "cleared_at" "cleared_at" (defArgs s_cleared_at) (defBody s_cleared_at) (defScope s_cleared_at) .none kV13 dc13 pm13 an13 cd13 ct13), sl13⟩) (c13 : PySem.W.codeIn K cd13 "cleared_at" = true) (k13 : PySem.W.keepIn K (.ref f_cleared_at) = true)
    (a14 : PySem.W.nsIn K mainGlobals "cleared" = some (some (.ref f_cleared))) (l14 : K.lookup f_cleared = some ⟨oc14, od14, .func (PySem.W.fnOf "cleared" "cleared" (defArgs s_cleared) (defBody s_cleared) (defScope s_cleared) .none kV14 dc14 pm14 an14 cd14 ct14), sl14⟩) (c14 : PySem.W.codeIn K cd14 "cleared" = true) (k14 : PySem.W.keepIn K (.ref f_cleared) = true)
    (a15 : PySem.W.nsIn K mainGlobals "basis_with" = some (some (.ref f_basis_with))) (l15 : K.lookup f_basis_with = some ⟨oc15, od15, .func (PySem.W.fnOf "basis_with" "basis_with" (defArgs s_basis_with) (defBody s_basis_with) (defScope s_basis_with) .none kV15 dc15 pm15 an15 cd15 ct15), sl15⟩) (c15 : PySem.W.codeIn K cd15 "basis_with" = true) (k15 : PySem.W.keepIn K (.ref f_basis_with) = true)
    (a16 : PySem.W.nsIn K mainGlobals "widened" = some (some (.ref f_widened))) (l16 : K.lookup f_widened = some ⟨oc16, od16, .func (PySem.W.fnOf "widened" "widened" (defArgs s_widened) (defBody s_widened) (defScope s_widened) .none kV16 dc16 pm16 an16 cd16 ct16), sl16⟩) (c16 : PySem.W.codeIn K cd16 "widened" = true) (k16 : PySem.W.keepIn K (.ref f_widened) = true)
    (a17 : PySem.W.nsIn K mainGlobals "reduced_basis" = some (some (.ref f_reduced_basis))) (l17 : K.lookup f_reduced_basis = some ⟨oc17, od17, .func (PySem.W.fnOf "reduced_basis" "reduced_basis" (defArgs s_reduced_basis) (defBody s_reduced_basis) (defScope s_reduced_basis) .none kV17 dc17 pm17 an17 cd17 ct17), sl17⟩) (c17 : PySem.W.codeIn K cd17 "reduced_basis" = true) (k17 : PySem.W.keepIn K (.ref f_reduced_basis) = true)
    (a18 : PySem.W.nsIn K mainGlobals "combination" = some (some (.ref f_combination))) (l18 : K.lookup f_combination = some ⟨oc18, od18, .func (PySem.W.fnOf "combination" "combination" (defArgs s_combination) (defBody s_combination) (defScope s_combination) .none kV18 dc18 pm18 an18 cd18 ct18), sl18⟩) (c18 : PySem.W.codeIn K cd18 "combination" = true) (k18 : PySem.W.keepIn K (.ref f_combination) = true)
    (a19 : PySem.W.nsIn K mainGlobals "_law_draws" = some (some (.ref f__law_draws))) (l19 : K.lookup f__law_draws = some ⟨oc19, od19, .func (PySem.W.fnOf "_law_draws" "_law_draws" (defArgs s__law_draws) (defBody s__law_draws) (defScope s__law_draws) .none kV19 dc19 pm19 an19 cd19 ct19), sl19⟩) (c19 : PySem.W.codeIn K cd19 "_law_draws" = true) (k19 : PySem.W.keepIn K (.ref f__law_draws) = true)
    (a20 : PySem.W.nsIn K mainGlobals "_law_pull" = some (some (.ref f__law_pull))) (l20 : K.lookup f__law_pull = some ⟨oc20, od20, .func (PySem.W.fnOf "_law_pull" "_law_pull" (defArgs s__law_pull) (defBody s__law_pull) (defScope s__law_pull) .none kV20 dc20 pm20 an20 cd20 ct20), sl20⟩) (c20 : PySem.W.codeIn K cd20 "_law_pull" = true) (k20 : PySem.W.keepIn K (.ref f__law_pull) = true)
    (a21 : PySem.W.nsIn K mainGlobals "_law_any" = some (some (.ref f__law_any))) (l21 : K.lookup f__law_any = some ⟨oc21, od21, .func (PySem.W.fnOf "_law_any" "_law_any" (defArgs s__law_any) (defBody s__law_any) (defScope s__law_any) .none kV21 dc21 pm21 an21 cd21 ct21), sl21⟩) (c21 : PySem.W.codeIn K cd21 "_law_any" = true) (k21 : PySem.W.keepIn K (.ref f__law_any) = true)
    (a22 : PySem.W.nsIn K mainGlobals "_law_like" = some (some (.ref f__law_like))) (l22 : K.lookup f__law_like = some ⟨oc22, od22, .func (PySem.W.fnOf "_law_like" "_law_like" (defArgs s__law_like) (defBody s__law_like) (defScope s__law_like) .none kV22 dc22 pm22 an22 cd22 ct22), sl22⟩) (c22 : PySem.W.codeIn K cd22 "_law_like" = true) (k22 : PySem.W.keepIn K (.ref f__law_like) = true)
    (a23 : PySem.W.nsIn K mainGlobals "_law_prime" = some (some (.ref f__law_prime))) (l23 : K.lookup f__law_prime = some ⟨oc23, od23, .func (PySem.W.fnOf "_law_prime" "_law_prime" (defArgs s__law_prime) (defBody s__law_prime) (defScope s__law_prime) .none kV23 dc23 pm23 an23 cd23 ct23), sl23⟩) (c23 : PySem.W.codeIn K cd23 "_law_prime" = true) (k23 : PySem.W.keepIn K (.ref f__law_prime) = true)
    (a24 : PySem.W.nsIn K mainGlobals "_law_letter" = some (some (.ref f__law_letter))) (l24 : K.lookup f__law_letter = some ⟨oc24, od24, .func (PySem.W.fnOf "_law_letter" "_law_letter" (defArgs s__law_letter) (defBody s__law_letter) (defScope s__law_letter) .none kV24 dc24 pm24 an24 cd24 ct24), sl24⟩) (c24 : PySem.W.codeIn K cd24 "_law_letter" = true) (k24 : PySem.W.keepIn K (.ref f__law_letter) = true)
    (a25 : PySem.W.nsIn K mainGlobals "_law_vector" = some (some (.ref f__law_vector))) (l25 : K.lookup f__law_vector = some ⟨oc25, od25, .func (PySem.W.fnOf "_law_vector" "_law_vector" (defArgs s__law_vector) (defBody s__law_vector) (defScope s__law_vector) .none kV25 dc25 pm25 an25 cd25 ct25), sl25⟩) (c25 : PySem.W.codeIn K cd25 "_law_vector" = true) (k25 : PySem.W.keepIn K (.ref f__law_vector) = true)
    (a26 : PySem.W.nsIn K mainGlobals "_law_sum_of" = some (some (.ref f__law_sum_of))) (l26 : K.lookup f__law_sum_of = some ⟨oc26, od26, .func (PySem.W.fnOf "_law_sum_of" "_law_sum_of" (defArgs s__law_sum_of) (defBody s__law_sum_of) (defScope s__law_sum_of) .none kV26 dc26 pm26 an26 cd26 ct26), sl26⟩) (c26 : PySem.W.codeIn K cd26 "_law_sum_of" = true) (k26 : PySem.W.keepIn K (.ref f__law_sum_of) = true)
    (a27 : PySem.W.nsIn K mainGlobals "_law_rank" = some (some (.ref f__law_rank))) (l27 : K.lookup f__law_rank = some ⟨oc27, od27, .func (PySem.W.fnOf "_law_rank" "_law_rank" (defArgs s__law_rank) (defBody s__law_rank) (defScope s__law_rank) .none kV27 dc27 pm27 an27 cd27 ct27), sl27⟩) (c27 : PySem.W.codeIn K cd27 "_law_rank" = true) (k27 : PySem.W.keepIn K (.ref f__law_rank) = true)
    (a28 : PySem.W.nsIn K mainGlobals "_law_lies" = some (some (.ref f__law_lies))) (l28 : K.lookup f__law_lies = some ⟨oc28, od28, .func (PySem.W.fnOf "_law_lies" "_law_lies" (defArgs s__law_lies) (defBody s__law_lies) (defScope s__law_lies) .none kV28 dc28 pm28 an28 cd28 ct28), sl28⟩) (c28 : PySem.W.codeIn K cd28 "_law_lies" = true) (k28 : PySem.W.keepIn K (.ref f__law_lies) = true)
    (a29 : PySem.W.nsIn K mainGlobals "law" = some (some (.ref f_law))) (l29 : K.lookup f_law = some ⟨oc29, od29, .func (PySem.W.fnOf "law" "law" (defArgs s_law) (defBody s_law) (defScope s_law) .none kV29 dc29 pm29 an29 cd29 ct29), sl29⟩) (c29 : PySem.W.codeIn K cd29 "law" = true) (k29 : PySem.W.keepIn K (.ref f_law) = true)
    (z0 : PySem.W.nsIn K mainGlobals "isqrt" = some (some (.builtin "math.isqrt")))
    {tk1 : Tok} (z1 : PySem.W.nsIn K mainGlobals "GREATEST_MODULUS" = some (some (.int 999983 tk1)))
    {tk2 : Tok} (z2 : PySem.W.nsIn K mainGlobals "LEAST_MODULUS" = some (some (.int 10007 tk2)))
    (z3 : PySem.W.nsIn K mainGlobals "all" = some none)
    (z4 : PySem.W.nsIn K mainGlobals "any" = some none)
    (z5 : PySem.W.nsIn K mainGlobals "bool" = some none)
    (z6 : PySem.W.nsIn K mainGlobals "dict" = some none)
    (z7 : PySem.W.nsIn K mainGlobals "enumerate" = some none)
    (z8 : PySem.W.nsIn K mainGlobals "int" = some none)
    (z9 : PySem.W.nsIn K mainGlobals "isinstance" = some none)
    (z10 : PySem.W.nsIn K mainGlobals "len" = some none)
    (z11 : PySem.W.nsIn K mainGlobals "list" = some none)
    (z12 : PySem.W.nsIn K mainGlobals "range" = some none)
    (z13 : PySem.W.nsIn K mainGlobals "sorted" = some none)
    (z14 : PySem.W.nsIn K mainGlobals "str" = some none)
    (z15 : PySem.W.nsIn K mainGlobals "sum" = some none)
    (z16 : PySem.W.nsIn K mainGlobals "tuple" = some none)
    (z17 : PySem.W.nsIn K mainGlobals "zip" = some none)
    : ∃ fd : FuncData, (∀ (s : Shared) (v : Value), BindsTo s fd ⟨[v], []⟩ [("_law_script", v)]) ∧ ∀ base : Heap, K.In base → base.Ns mainGlobals mg → FnOk l.prog w K mg base (L2.CX l.prog w) 9 fa fd ["_law_script"] (spD K 1 Gf_law) := by
  have e := hfa.symm.trans (PySem.W.mg_of X G a29)
  cases e
  have T : Tx mg := ⟨PySem.W.mg_of X G z0, ⟨_, PySem.W.mg_of X G z1⟩, ⟨_, PySem.W.mg_of X G z2⟩, PySem.W.mg_none_of X G z3, PySem.W.mg_none_of X G z4, PySem.W.mg_none_of X G z5, PySem.W.mg_none_of X G z6, PySem.W.mg_none_of X G z7, PySem.W.mg_none_of X G z8, PySem.W.mg_none_of X G z9, PySem.W.mg_none_of X G z10, PySem.W.mg_none_of X G z11, PySem.W.mg_none_of X G z12, PySem.W.mg_none_of X G z13, PySem.W.mg_none_of X G z14, PySem.W.mg_none_of X G z15, PySem.W.mg_none_of X G z16, PySem.W.mg_none_of X G z17⟩
  refine ⟨PySem.W.fnOf "law" "law" (defArgs s_law) (defBody s_law) (defScope s_law) .none kV29 dc29 pm29 an29 cd29 ct29, fun s v => .of_eq rfl, fun base _ _ => ?_⟩
  have D_copied : FnD l.prog w K mg base "copied" 4 1 (Gf_copied 3) := dn_copied T  (fun_mk (st := s_copied) l0 c0 k0) (PySem.W.mg_of X G a0)
  have D_is_number : FnD l.prog w K mg base "is_number" 1 1 Gf_is_number := dn_is_number T  (fun_mk (st := s_is_number) l1 c1 k1) (PySem.W.mg_of X G a1)
  have D_is_modulus : FnD l.prog w K mg base "is_modulus" 2 1 Gf_is_modulus := dn_is_modulus T D_is_number (fun_mk (st := s_is_modulus) l2 c2 k2) (PySem.W.mg_of X G a2)
  have D_check_modulus : FnD l.prog w K mg base "check_modulus" 3 1 Gf_check_modulus := dn_check_modulus T D_is_modulus (fun_mk (st := s_check_modulus) l3 c3 k3) (PySem.W.mg_of X G a3)
  have D_is_letter : FnD l.prog w K mg base "is_letter" 2 2 Gf_is_letter := dn_is_letter T D_is_number (fun_mk (st := s_is_letter) l4 c4 k4) (PySem.W.mg_of X G a4)
  have D_inverse : FnD l.prog w K mg base "inverse" 4 2 Gf_inverse := dn_inverse T D_check_modulus (fun_mk (st := s_inverse) l5 c5 k5) (PySem.W.mg_of X G a5)
  have D_is_vector : FnD l.prog w K mg base "is_vector" 3 2 Gf_is_vector := dn_is_vector T D_is_letter (fun_mk (st := s_is_vector) l6 c6 k6) (PySem.W.mg_of X G a6)
  have D_is_vector_of : FnD l.prog w K mg base "is_vector_of" 4 3 Gf_is_vector_of := dn_is_vector_of T D_is_vector (fun_mk (st := s_is_vector_of) l7 c7 k7) (PySem.W.mg_of X G a7)
  have D_check_vectors : FnD l.prog w K mg base "check_vectors" 5 3 Gf_check_vectors := dn_check_vectors T D_is_vector_of (fun_mk (st := s_check_vectors) l8 c8 k8) (PySem.W.mg_of X G a8)
  have D_product_of : FnD l.prog w K mg base "product_of" 1 3 Gf_product_of := dn_product_of T  (fun_mk (st := s_product_of) l9 c9 k9) (PySem.W.mg_of X G a9)
  have D_sum_of : FnD l.prog w K mg base "sum_of" 2 3 Gf_sum_of := dn_sum_of T D_product_of (fun_mk (st := s_sum_of) l10 c10 k10) (PySem.W.mg_of X G a10)
  have D_lead : FnD l.prog w K mg base "lead" 1 1 Gf_lead := dn_lead T  (fun_mk (st := s_lead) l11 c11 k11) (PySem.W.mg_of X G a11)
  have D_first_other_than_zero : FnD l.prog w K mg base "first_other_than_zero" 1 1 Gf_first_other_than_zero := dn_first_other_than_zero T  (fun_mk (st := s_first_other_than_zero) l12 c12 k12) (PySem.W.mg_of X G a12)
  have D_cleared_at : FnD l.prog w K mg base "cleared_at" 1 4 Gf_cleared_at := dn_cleared_at T  (fun_mk (st := s_cleared_at) l13 c13 k13) (PySem.W.mg_of X G a13)
  have D_cleared : FnD l.prog w K mg base "cleared" 3 3 Gf_cleared := dn_cleared T D_sum_of D_lead (fun_mk (st := s_cleared) l14 c14 k14) (PySem.W.mg_of X G a14)
  have D_basis_with : FnD l.prog w K mg base "basis_with" 5 3 Gf_basis_with := dn_basis_with T D_first_other_than_zero D_inverse D_cleared_at (fun_mk (st := s_basis_with) l15 c15 k15) (PySem.W.mg_of X G a15)
  have D_widened : FnD l.prog w K mg base "widened" 6 3 Gf_widened := dn_widened T D_cleared D_basis_with (fun_mk (st := s_widened) l16 c16 k16) (PySem.W.mg_of X G a16)
  have D_reduced_basis : FnD l.prog w K mg base "reduced_basis" 7 2 Gf_reduced_basis := dn_reduced_basis T D_widened (fun_mk (st := s_reduced_basis) l17 c17 k17) (PySem.W.mg_of X G a17)
  have D_combination : FnD l.prog w K mg base "combination" 8 3 Gf_combination := dn_combination T D_check_modulus D_is_vector D_check_vectors D_reduced_basis D_lead (fun_mk (st := s_combination) l18 c18 k18) (PySem.W.mg_of X G a18)
  have K_combination_210 : FnKP l.prog w K mg base "combination" ["modulus", "vectors", "target"] ["target", "vectors", "modulus"] [2, 1, 0] 8 3 Gf_combination := kn_K_combination_210 T D_check_modulus D_is_vector D_check_vectors D_reduced_basis D_lead (fun_mk (st := s_combination) l18 c18 k18) (PySem.W.mg_of X G a18)
  have D__law_draws : FnD l.prog w K mg base "_law_draws" 1 1 Gf__law_draws := dn__law_draws T  (fun_mk (st := s__law_draws) l19 c19 k19) (PySem.W.mg_of X G a19)
  have D__law_pull : FnD l.prog w K mg base "_law_pull" 1 2 Gf__law_pull := dn__law_pull T  (fun_mk (st := s__law_pull) l20 c20 k20) (PySem.W.mg_of X G a20)
  have D__law_any : FnD l.prog w K mg base "_law_any" 2 2 Gf__law_any := dn__law_any T D__law_pull (fun_mk (st := s__law_any) l21 c21 k21) (PySem.W.mg_of X G a21)
  have D__law_like : FnD l.prog w K mg base "_law_like" 4 2 (Gf__law_like 3) := dn__law_like T  (fun_mk (st := s__law_like) l22 c22 k22) (PySem.W.mg_of X G a22)
  have D__law_prime : FnD l.prog w K mg base "_law_prime" 3 1 Gf__law_prime := dn__law_prime T D__law_any (fun_mk (st := s__law_prime) l23 c23 k23) (PySem.W.mg_of X G a23)
  have D__law_letter : FnD l.prog w K mg base "_law_letter" 3 2 Gf__law_letter := dn__law_letter T D__law_any D__law_pull (fun_mk (st := s__law_letter) l24 c24 k24) (PySem.W.mg_of X G a24)
  have D__law_vector : FnD l.prog w K mg base "_law_vector" 4 3 Gf__law_vector := dn__law_vector T D__law_letter (fun_mk (st := s__law_vector) l25 c25 k25) (PySem.W.mg_of X G a25)
  have D__law_sum_of : FnD l.prog w K mg base "_law_sum_of" 1 4 Gf__law_sum_of := dn__law_sum_of T  (fun_mk (st := s__law_sum_of) l26 c26 k26) (PySem.W.mg_of X G a26)
  have D__law_rank : FnD l.prog w K mg base "_law_rank" 1 2 Gf__law_rank := dn__law_rank T  (fun_mk (st := s__law_rank) l27 c27 k27) (PySem.W.mg_of X G a27)
  have D__law_lies : FnD l.prog w K mg base "_law_lies" 2 3 Gf__law_lies := dn__law_lies T D__law_rank (fun_mk (st := s__law_lies) l28 c28 k28) (PySem.W.mg_of X G a28)
  exact ok_law T D__law_draws D__law_prime D__law_pull D__law_vector D__law_sum_of D_combination D__law_lies D__law_like K_combination_210 (fun_mk (st := s_law) l29 c29 k29)
theorem walk {l : PySem.W.OpenLaw} {q : Program} {loose : List Str} {XP : (Str → Option Value) → Heap → Prop} {YP : World → Heap → Prop} {d : DefRec} {K : Params → PySem.W.Frag} (hn : l.most = some 63) (hdf : d.params.defaults = [])
    (hY : ∀ (w : World) (h : Heap), YP w h → (K w.params).In h)
    (F : ∀ (w : World) (mg : Str → Option Value) (fa : Addr) (h : Heap), (K w.params).In h → h.Ns mainGlobals mg → mg d.name = some (.ref fa) →
      ∃ fd : FuncData, (∀ (s : Shared) (u : Value), BindsTo s fd ⟨[u], []⟩ [("_law_script", u)]) ∧ ∀ base : Heap, (K w.params).In base → base.Ns mainGlobals mg → FnOk l.prog w (K w.params) mg base (L2.CX l.prog w) 9 fa fd ["_law_script"] (spD (K w.params) 1 Gf_law)) :
    PySem.W.WalkO q loose XP YP l.row.toRowW d [] (fun f vs => PySem.call f vs) :=
  L2.walk_of (n := 63) (k := 9) (x := "_law_script") (CX := fun w => L2.CX l.prog w) (sp := fun w => spD (K w.params) 1 Gf_law) hn (by decide) hdf ⟨rfl, by decide, by decide⟩ hY F (fun w H a ns hl _ hS => law_true (law_plain FM_law (main ns hl)) hS) noCX
end K09
open PySem PySem.W PyProof.Rows
set_option maxRecDepth 100000 in
set_option maxHeartbeats 0 in
theorem PySem.Challenge.cw_mendworth_k09_whole_combinations_holds : PySem.Challenge.rw_mendworth_k09_whole_combinations.Holds := by
  w_on; o_law; k_head; (case hw => w_witness2)
  k_fill
  refine K09.walk (l := PySem.Challenge.rw_mendworth_k09_whole_combinations) rfl rfl (fun w h Y => PySem.W.kIn_of Y) ?F
  case F =>
    intro w mg fa h KX G hmg
    refine' K09.all_mk KX G hmg ?a0 ?l0 ?c0 ?k0 ?a1 ?l1 ?c1 ?k1 ?a2 ?l2 ?c2 ?k2 ?a3 ?l3 ?c3 ?k3 ?a4 ?l4 ?c4 ?k4 ?a5 ?l5 ?c5 ?k5 ?a6 ?l6 ?c6 ?k6 ?a7 ?l7 ?c7 ?k7 ?a8 ?l8 ?c8 ?k8 ?a9 ?l9 ?c9 ?k9 ?a10 ?l10 ?c10 ?k10 ?a11 ?l11 ?c11 ?k11 ?a12 ?l12 ?c12 ?k12 ?a13 ?l13 ?c13 ?k13 ?a14 ?l14 ?c14 ?k14 ?a15 ?l15 ?c15 ?k15 ?a16 ?l16 ?c16 ?k16 ?a17 ?l17 ?c17 ?k17 ?a18 ?l18 ?c18 ?k18 ?a19 ?l19 ?c19 ?k19 ?a20 ?l20 ?c20 ?k20 ?a21 ?l21 ?c21 ?k21 ?a22 ?l22 ?c22 ?k22 ?a23 ?l23 ?c23 ?k23 ?a24 ?l24 ?c24 ?k24 ?a25 ?l25 ?c25 ?k25 ?a26 ?l26 ?c26 ?k26 ?a27 ?l27 ?c27 ?k27 ?a28 ?l28 ?c28 ?k28 ?a29 ?l29 ?c29 ?k29 ?z0 ?z1 ?z2 ?z3 ?z4 ?z5 ?z6 ?z7 ?z8 ?z9 ?z10 ?z11 ?z12 ?z13 ?z14 ?z15 ?z16 ?z17
    (case a0 => k_is)
    (case l0 => k_is)
    (case c0 => k_is)
    (case k0 => k_is)
    (case a1 => k_is)
    (case l1 => k_is)
    (case c1 => k_is)
    (case k1 => k_is)
    (case a2 => k_is)
    (case l2 => k_is)
    (case c2 => k_is)
    (case k2 => k_is)
    (case a3 => k_is)
    (case l3 => k_is)
    (case c3 => k_is)
    (case k3 => k_is)
    (case a4 => k_is)
    (case l4 => k_is)
    (case c4 => k_is)
    (case k4 => k_is)
    (case a5 => k_is)
    (case l5 => k_is)
    (case c5 => k_is)
    (case k5 => k_is)
    (case a6 => k_is)
    (case l6 => k_is)
    (case c6 => k_is)
    (case k6 => k_is)
    (case a7 => k_is)
    (case l7 => k_is)
    (case c7 => k_is)
    (case k7 => k_is)
    (case a8 => k_is)
    (case l8 => k_is)
    (case c8 => k_is)
    (case k8 => k_is)
    (case a9 => k_is)
    (case l9 => k_is)
    (case c9 => k_is)
    (case k9 => k_is)
    (case a10 => k_is)
    (case l10 => k_is)
    (case c10 => k_is)
    (case k10 => k_is)
    (case a11 => k_is)
    (case l11 => k_is)
    (case c11 => k_is)
    (case k11 => k_is)
    (case a12 => k_is)
    (case l12 => k_is)
    (case c12 => k_is)
    (case k12 => k_is)
    (case a13 => k_is)
    (case l13 => k_is)
    (case c13 => k_is)
    (case k13 => k_is)
    (case a14 => k_is)
    (case l14 => k_is)
    (case c14 => k_is)
    (case k14 => k_is)
    (case a15 => k_is)
    (case l15 => k_is)
    (case c15 => k_is)
    (case k15 => k_is)
    (case a16 => k_is)
    (case l16 => k_is)
    (case c16 => k_is)
    (case k16 => k_is)
    (case a17 => k_is)
    (case l17 => k_is)
    (case c17 => k_is)
    (case k17 => k_is)
    (case a18 => k_is)
    (case l18 => k_is)
    (case c18 => k_is)
    (case k18 => k_is)
    (case a19 => k_is)
    (case l19 => k_is)
    (case c19 => k_is)
    (case k19 => k_is)
    (case a20 => k_is)
    (case l20 => k_is)
    (case c20 => k_is)
    (case k20 => k_is)
    (case a21 => k_is)
    (case l21 => k_is)
    (case c21 => k_is)
    (case k21 => k_is)
    (case a22 => k_is)
    (case l22 => k_is)
    (case c22 => k_is)
    (case k22 => k_is)
    (case a23 => k_is)
    (case l23 => k_is)
    (case c23 => k_is)
    (case k23 => k_is)
    (case a24 => k_is)
    (case l24 => k_is)
    (case c24 => k_is)
    (case k24 => k_is)
    (case a25 => k_is)
    (case l25 => k_is)
    (case c25 => k_is)
    (case k25 => k_is)
    (case a26 => k_is)
    (case l26 => k_is)
    (case c26 => k_is)
    (case k26 => k_is)
    (case a27 => k_is)
    (case l27 => k_is)
    (case c27 => k_is)
    (case k27 => k_is)
    (case a28 => k_is)
    (case l28 => k_is)
    (case c28 => k_is)
    (case k28 => k_is)
    (case a29 => k_is)
    (case l29 => k_is)
    (case c29 => k_is)
    (case k29 => k_is)
    (case z0 => k_is)
    (case z1 => k_is)
    (case z2 => k_is)
    (case z3 => k_is)
    (case z4 => k_is)
    (case z5 => k_is)
    (case z6 => k_is)
    (case z7 => k_is)
    (case z8 => k_is)
    (case z9 => k_is)
    (case z10 => k_is)
    (case z11 => k_is)
    (case z12 => k_is)
    (case z13 => k_is)
    (case z14 => k_is)
    (case z15 => k_is)
    (case z16 => k_is)
    (case z17 => k_is)
