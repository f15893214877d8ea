import PyProof.Rows.All
import Wide.All
import OpenK.AllK
import Wide.FinOn
import HandS.ForMost
import HandS.Exc
import HandS.WordsExc
import HandS.Walk
import HandS.Wide
import HandS.Style
import HandS.TupAny
import HandS.Zip
import HandS.IsInst
import HandS.Gcd
import HandS.Property
import HandS.Defaults
import PySem.Challenge.RW_mendworth_k02_moduli_and_letters
set_option Elab.async false
set_option linter.all false
set_option maxRecDepth 100000
set_option maxHeartbeats 4000000
namespace DL
open PySem PySem.Spec PyProof.Rows L2

/-! ### data -/
inductive D where
  | non | bl (b : Bool) | int (i : Int) | str (s : Str)
  | lst (ds : List D) | tup (ds : List D) | ins (C : Addr) (fs : List (Str × D)) | dic (kvs : List (Key × D)) | scr (ns : List Int)

abbrev Hs := Hp

mutual
def Rp (K : PySem.W.Frag) (H : Hp) : D → V → Prop
  | .non, v => v = .non
  | .bl b, v => v = .bl b
  | .int i, v => v = .int i
  | .str s, v => v = .str s
  | .lst ds, v => ∃ a xs, v = .ref a ∧ H a = some (.lst xs) ∧ RpL K H ds xs
  | .tup ds, v => ∃ a xs, v = .ref a ∧ SqT K H a xs ∧ RpL K H ds xs
  | .ins C fs, v => ∃ a dx vs, v = .ref a ∧ H a = some (.ins C dx vs) ∧ RpF K H fs vs
  | .dic kvs, v => ∃ a vs, v = .ref a ∧ H a = some (.dK vs) ∧ RpD K H kvs vs
  | .scr ns, v => ∃ a, v = .ref a ∧ SqL K H a (ns.map V.int)
def RpL (K : PySem.W.Frag) (H : Hp) : List D → List V → Prop
  | [], xs => xs = []
  | d :: ds, xs => ∃ y ys, xs = y :: ys ∧ Rp K H d y ∧ RpL K H ds ys
def RpF (K : PySem.W.Frag) (H : Hp) : List (Str × D) → List (Str × V) → Prop
  | [], xs => xs = []
  | (f, d) :: ds, xs => ∃ y ys, xs = (f, y) :: ys ∧ Rp K H d y ∧ RpF K H ds ys
def RpD (K : PySem.W.Frag) (H : Hp) : List (Key × D) → List (Key × V) → Prop
  | [], xs => xs = []
  | (k, d) :: ds, xs => ∃ y ys, xs = (k, y) :: ys ∧ Rp K H d y ∧ RpD K H ds ys
end

theorem SqT.mono {K : PySem.W.Frag} {H H' : Hp} (e : Same H H') {a : Addr} {xs : List V} (h : SqT K H a xs) : SqT K H' a xs := by
  rcases h with (h | ⟨o, h⟩) | h
  · exact .inl (.inl (e _ _ h))
  · exact .inl (.inr ⟨o, e _ _ h⟩)
  · exact .inr h

mutual
theorem Rp.mono {K : PySem.W.Frag} {H H' : Hp} (e : Same H H') : ∀ {d : D} {v : V}, Rp K H d v → Rp K H' d v
  | .non, _, h => h
  | .bl _, _, h => h
  | .int _, _, h => h
  | .str _, _, h => h
  | .lst ds, _, ⟨a, xs, h1, h2, h3⟩ => ⟨a, xs, h1, e _ _ h2, RpL.mono e h3⟩
  | .tup ds, _, ⟨a, xs, h1, h2, h3⟩ => ⟨a, xs, h1, SqT.mono e h2, RpL.mono e h3⟩
  | .ins C fs, _, ⟨a, dx, vs, h1, h2, h3⟩ => ⟨a, dx, vs, h1, e _ _ h2, RpF.mono e h3⟩
  | .dic kvs, _, ⟨a, vs, h1, h2, h3⟩ => ⟨a, vs, h1, e _ _ h2, RpD.mono e h3⟩
  | .scr ns, _, ⟨a, h1, h2⟩ => ⟨a, h1, e.seq h2⟩
theorem RpL.mono {K : PySem.W.Frag} {H H' : Hp} (e : Same H H') : ∀ {d : List D} {v : List V}, RpL K H d v → RpL K H' d v
  | [], _, h => h
  | _ :: _, _, ⟨y, ys, h1, h2, h3⟩ => ⟨y, ys, h1, Rp.mono e h2, RpL.mono e h3⟩
theorem RpF.mono {K : PySem.W.Frag} {H H' : Hp} (e : Same H H') : ∀ {d : List (Str × D)} {v : List (Str × V)}, RpF K H d v → RpF K H' d v
  | [], _, h => h
  | (_, _) :: _, _, ⟨y, ys, h1, h2, h3⟩ => ⟨y, ys, h1, Rp.mono e h2, RpF.mono e h3⟩
theorem RpD.mono {K : PySem.W.Frag} {H H' : Hp} (e : Same H H') : ∀ {d : List (Key × D)} {v : List (Key × V)}, RpD K H d v → RpD K H' d v
  | [], _, h => h
  | (_, _) :: _, _, ⟨y, ys, h1, h2, h3⟩ => ⟨y, ys, h1, Rp.mono e h2, RpD.mono e h3⟩
end
example (K : PySem.W.Frag) (H : Hp) (i : Int) (v : V) (h : Rp K H (.int i) v) : v = .int i := h
end DL

namespace DL
open PySem PySem.Spec PyProof.Rows L2

/-! ### the shared part of a heap -/
open Classical in
noncomputable def wo (H : Hp) (M : Addr → Prop) : Hp := fun a => if M a then none else H a
open Classical in
theorem wo_get {H : Hp} {M : Addr → Prop} {a : Addr} (h : ¬ M a) : wo H M a = H a := if_neg h
open Classical in
theorem wo_some {H : Hp} {M : Addr → Prop} {a : Addr} {o : HO} (h : wo H M a = some o) : ¬ M a ∧ H a = some o := by
  unfold wo at h
  split at h
  · cases h
  · exact ⟨‹_›, h⟩
theorem wo_le {H : Hp} {M : Addr → Prop} : Same (wo H M) H := fun a o h => (wo_some h).2
/-- the shared part grows -/
theorem wo_mono {H H' : Hp} {M M' : Addr → Prop} (h : ∀ a o, ¬ M a → H a = some o → ¬ M' a ∧ H' a = some o) : Same (wo H M) (wo H' M') := fun a o e => by
  obtain ⟨h1, h2⟩ := wo_some e
  obtain ⟨h3, h4⟩ := h a o h1 h2
  rw [wo_get h3]
  exact h4

/-! ### the top of a value is read from the whole heap, what is within from the shared part -/
def RpTop (K : PySem.W.Frag) (Hm H : Hp) : D → V → Prop
  | .lst ds, v => ∃ a xs, v = .ref a ∧ H a = some (.lst xs) ∧ RpL K Hm ds xs
  | .ins C fs, v => ∃ a dx vs, v = .ref a ∧ H a = some (.ins C dx vs) ∧ RpF K Hm fs vs
  | .dic kvs, v => ∃ a vs, v = .ref a ∧ H a = some (.dK vs) ∧ RpD K Hm kvs vs
  | d, v => Rp K Hm d v
theorem Rp.top {K : PySem.W.Frag} {Hm H : Hp} (e : Same Hm H) {d : D} {v : V} (h : Rp K Hm d v) : RpTop K Hm H d v := by
  cases d with
  | lst ds => obtain ⟨a, xs, h1, h2, h3⟩ := h; exact ⟨a, xs, h1, e _ _ h2, h3⟩
  | tup ds => exact h
  | ins C fs => obtain ⟨a, dx, vs, h1, h2, h3⟩ := h; exact ⟨a, dx, vs, h1, e _ _ h2, h3⟩
  | dic kvs => obtain ⟨a, vs, h1, h2, h3⟩ := h; exact ⟨a, vs, h1, e _ _ h2, h3⟩
  | scr ns => exact h
  | non => exact h
  | bl b => exact h
  | int i => exact h
  | str s => exact h
theorem RpTop.full {K : PySem.W.Frag} {Hm H : Hp} (e : Same Hm H) {d : D} {v : V} (h : RpTop K Hm H d v) : Rp K H d v := by
  cases d with
  | lst ds => obtain ⟨a, xs, h1, h2, h3⟩ := h; exact ⟨a, xs, h1, h2, RpL.mono e h3⟩
  | tup ds => exact Rp.mono e h
  | ins C fs => obtain ⟨a, dx, vs, h1, h2, h3⟩ := h; exact ⟨a, dx, vs, h1, h2, RpF.mono e h3⟩
  | dic kvs => obtain ⟨a, vs, h1, h2, h3⟩ := h; exact ⟨a, vs, h1, h2, RpD.mono e h3⟩
  | scr ns => exact Rp.mono e h
  | non => exact h
  | bl b => exact h
  | int i => exact h
  | str s => exact h
/-- what may be owned: an object that may change -/
def isMut : D → Prop
  | .lst _ => True
  | .ins _ _ => True
  | .dic _ => True
  | _ => False
theorem RpTop.addr {K : PySem.W.Frag} {Hm H : Hp} {d : D} {v : V} (h : RpTop K Hm H d v) (m : isMut d) : ∃ a o, v = .ref a ∧ H a = some o ∧ (∀ xs, o ≠ .tup xs) := by
  cases d with
  | lst ds => obtain ⟨a, xs, h1, h2, h3⟩ := h; exact ⟨a, _, h1, h2, fun xs z => by cases z⟩
  | ins C fs => obtain ⟨a, dx, vs, h1, h2, h3⟩ := h; exact ⟨a, _, h1, h2, fun xs z => by cases z⟩
  | dic kvs => obtain ⟨a, vs, h1, h2, h3⟩ := h; exact ⟨a, _, h1, h2, fun xs z => by cases z⟩
  | scr ns => exact m.elim
  | tup ds => exact m.elim
  | non => exact m.elim
  | bl b => exact m.elim
  | int i => exact m.elim
  | str s => exact m.elim
/-- the shared part grows, the top's own object stays -/
theorem RpTop.move {K : PySem.W.Frag} {Hm Hm' H H' : Hp} (e : Same Hm Hm') {d : D} {v : V} (h : RpTop K Hm H d v) (m : isMut d) (k : ∀ a o, v = .ref a → H a = some o → H' a = some o) : RpTop K Hm' H' d v := by
  cases d with
  | lst ds => obtain ⟨a, xs, h1, h2, h3⟩ := h; exact ⟨a, xs, h1, k _ _ h1 h2, RpL.mono e h3⟩
  | ins C fs => obtain ⟨a, dx, vs, h1, h2, h3⟩ := h; exact ⟨a, dx, vs, h1, k _ _ h1 h2, RpF.mono e h3⟩
  | dic kvs => obtain ⟨a, vs, h1, h2, h3⟩ := h; exact ⟨a, vs, h1, k _ _ h1 h2, RpD.mono e h3⟩
  | scr ns => exact m.elim
  | tup ds => exact m.elim
  | non => exact m.elim
  | bl b => exact m.elim
  | int i => exact m.elim
  | str s => exact m.elim
/-- an owned thing is let go into the shared part -/
theorem RpTop.shared {K : PySem.W.Frag} {Hm Hm' H : Hp} (e : Same Hm Hm') {d : D} {v : V} (h : RpTop K Hm H d v) (m : isMut d) (k : ∀ a o, v = .ref a → H a = some o → Hm' a = some o) : Rp K Hm' d v := by
  cases d with
  | lst ds => obtain ⟨a, xs, h1, h2, h3⟩ := h; exact ⟨a, xs, h1, k _ _ h1 h2, RpL.mono e h3⟩
  | ins C fs => obtain ⟨a, dx, vs, h1, h2, h3⟩ := h; exact ⟨a, dx, vs, h1, k _ _ h1 h2, RpF.mono e h3⟩
  | dic kvs => obtain ⟨a, vs, h1, h2, h3⟩ := h; exact ⟨a, vs, h1, k _ _ h1 h2, RpD.mono e h3⟩
  | scr ns => exact m.elim
  | tup ds => exact m.elim
  | non => exact m.elim
  | bl b => exact m.elim
  | int i => exact m.elim
  | str s => exact m.elim

/-! ### slots -/
inductive Ent where
  | no | va (d : D) | ow (n : Option Nat) (d : D)
/-- a is owned by a slot -/
def Owns (vs : List (Option V)) (es : List Ent) (a : Addr) : Prop := ∃ (i : Nat) (n : Option Nat) (d : D), es[i]? = some (.ow n d) ∧ vs[i]? = some (some (.ref a))
def Cell (K : PySem.W.Frag) (Hm H : Hp) : Option V → Ent → Prop
  | _, .no => True
  | v, .va d => ∃ x, v = some x ∧ Rp K Hm d x
  | v, .ow _ d => ∃ x, v = some x ∧ isMut d ∧ RpTop K Hm H d x
def notOw : Ent → Prop
  | .ow _ _ => False
  | _ => True
section
variable {vs : List (Option V)} {es : List Ent} {a : Addr}
theorem Owns.of_set {i : Nat} {v : Option V} {e : Ent} (he : notOw e) (h : Owns (vs.set i v) (es.set i e) a) : Owns vs es a := by
  obtain ⟨j, n, d, h1, h2⟩ := h
  by_cases hj : i = j
  · subst hj
    by_cases hl : i < es.length
    · rw [List.getElem?_set_self hl] at h1
      cases h1
      exact he.elim
    · rw [List.getElem?_eq_none (by rw [List.length_set]; omega)] at h1
      cases h1
  · rw [List.getElem?_set_ne hj] at h1 h2
    exact ⟨j, n, d, h1, h2⟩
theorem Owns.of_setE {i : Nat} {e : Ent} (he : notOw e) (h : Owns vs (es.set i e) a) : Owns vs es a := by
  obtain ⟨j, n, d, h1, h2⟩ := h
  by_cases hj : i = j
  · subst hj
    by_cases hl : i < es.length
    · rw [List.getElem?_set_self hl] at h1
      cases h1
      exact he.elim
    · rw [List.getElem?_eq_none (by rw [List.length_set]; omega)] at h1
      cases h1
  · rw [List.getElem?_set_ne hj] at h1
    exact ⟨j, n, d, h1, h2⟩
theorem Owns.cons {v : Option V} {e : Ent} (h : Owns vs es a) : Owns (v :: vs) (e :: es) a := by
  obtain ⟨j, n, d, h1, h2⟩ := h
  exact ⟨j + 1, n, d, by simpa using h1, by simpa using h2⟩
theorem Owns.head {n : Option Nat} {d : D} : Owns (some (.ref a) :: vs) (.ow n d :: es) a := ⟨0, n, d, rfl, rfl⟩
theorem Owns.of_cons {v : Option V} {e : Ent} (h : Owns (v :: vs) (e :: es) a) : (v = some (.ref a) ∧ ∃ n d, e = .ow n d) ∨ Owns vs es a := by
  obtain ⟨j, n, d, h1, h2⟩ := h
  cases j with
  | zero =>
    simp at h1 h2
    exact .inl ⟨h2, n, d, h1⟩
  | succ j => exact .inr ⟨j, n, d, by simpa using h1, by simpa using h2⟩
end
end DL

namespace DL
open PySem PySem.Spec PyProof.Rows L2

/-- what is fixed through a def's run: M0 the callers' own objects (not to be touched), W what may be written, H0 the heap at the entry -/
structure Fr where
  M0 : Addr → Prop
  W : Addr → Prop
  H0 : Hp
  /-- the arguments -/
  ps : List V
def Ms (F : Fr) (vs : List (Option V)) (es : List Ent) : Addr → Prop := fun a => F.M0 a ∨ Owns vs es a
abbrev HT := Hp → Prop
def Mono (T : HT) : Prop := ∀ H H' : Hp, Same H H' → T H → T H'
structure Ok (K : PySem.W.Frag) (F : Fr) (T : HT) (H : Hp) (vs : List (Option V)) (es : List Ent) : Prop where
  len : vs.length = es.length
  cells : ∀ (i : Nat) (e : Ent) (v : Option V), es[i]? = some e → vs[i]? = some v → Cell K (wo H (Ms F vs es)) H v e
  inj : ∀ (i j : Nat) (a : Addr) (n m : Option Nat) (d e : D), es[i]? = some (.ow n d) → es[j]? = some (.ow m e) → vs[i]? = some (some (.ref a)) → vs[j]? = some (some (.ref a)) → i = j
  w : ∀ (i : Nat) (a : Addr) (n : Option Nat) (d : D), es[i]? = some (.ow n d) → vs[i]? = some (some (.ref a)) → ¬ F.M0 a ∧ (F.W a ∨ F.H0 a = none) ∧ (n = none → F.H0 a = none) ∧ ∀ k, n = some k → F.ps[k]? = some (.ref a)
  kp : ∀ a o, F.H0 a = some o → ¬ F.W a → H a = some o
  tr : ∀ a o, F.H0 a = some o → ∃ o', H a = some o'
  m0 : ∀ a, F.M0 a → ¬ F.W a ∧ ∃ o, F.H0 a = some o ∧ ∀ xs, o ≠ .tup xs
  wt : ∀ a, F.W a → ∃ o, F.H0 a = some o
  t : T (wo H (Ms F vs es))

theorem Mono.and {T U : HT} (a : Mono T) (b : Mono U) : Mono fun h => T h ∧ U h := fun H H' e x => ⟨a H H' e x.1, b H H' e x.2⟩
theorem mono_rp {K : PySem.W.Frag} {d : D} {v : V} : Mono fun h => Rp K h d v := fun _ _ e x => x.mono e
theorem mono_rpl {K : PySem.W.Frag} {d : List D} {v : List V} : Mono fun h => RpL K h d v := fun _ _ e x => x.mono e
theorem mono_true : Mono fun _ => True := fun _ _ _ x => x

section
variable {K : PySem.W.Frag} {F : Fr} {T U : HT} {H H' : Hp} {vs : List (Option V)} {es : List Ent}
theorem Ok.to (h : Ok K F T H vs es) (u : U (wo H (Ms F vs es))) : Ok K F U H vs es := ⟨h.len, h.cells, h.inj, h.w, h.kp, h.tr, h.m0, h.wt, u⟩
theorem Ok.weak (h : Ok K F T H vs es) (w : ∀ h, T h → U h) : Ok K F U H vs es := h.to (w _ h.t)
theorem Ok.there (h : Ok K F T H vs es) {i : Nat} {e : Ent} (q : es[i]? = some e) : ∃ v, vs[i]? = some v := by
  have : i < vs.length := by rw [h.len]; exact (List.getElem?_eq_some_iff.mp q).1
  exact ⟨vs[i], by simp [this]⟩
theorem Ok.own (h : Ok K F T H vs es) {i : Nat} {n : Option Nat} {d : D} (q : es[i]? = some (.ow n d)) : ∃ a, vs[i]? = some (some (.ref a)) ∧ isMut d ∧ RpTop K (wo H (Ms F vs es)) H d (.ref a) := by
  obtain ⟨v, hv⟩ := h.there q
  obtain ⟨x, e1, m, r⟩ := h.cells i _ v q hv
  obtain ⟨a, o, e, _⟩ := r.addr m
  subst e; subst e1
  exact ⟨a, hv, m, r⟩
theorem Ok.va (h : Ok K F T H vs es) {i : Nat} {d : D} (q : es[i]? = some (.va d)) : ∃ v, vs[i]? = some (some v) ∧ Rp K (wo H (Ms F vs es)) d v := by
  obtain ⟨v, hv⟩ := h.there q
  obtain ⟨x, e1, r⟩ := h.cells i _ v q hv
  subst e1
  exact ⟨x, hv, r⟩
theorem Ok.own_some (h : Ok K F T H vs es) {a : Addr} (q : Owns vs es a) : ∃ o, H a = some o ∧ ∀ xs, o ≠ .tup xs := by
  obtain ⟨i, n, d, h1, h2⟩ := q
  obtain ⟨b, h3, m, r⟩ := h.own h1
  rw [h2] at h3
  cases h3
  obtain ⟨a', o, e, h4, h5⟩ := r.addr m
  cases e
  exact ⟨o, h4, h5⟩
theorem Ok.m_some (h : Ok K F T H vs es) {a : Addr} (q : Ms F vs es a) : ∃ o, H a = some o ∧ ∀ xs, o ≠ .tup xs := by
  rcases q with q | q
  · obtain ⟨nw, o, ho, nt⟩ := h.m0 a q
    exact ⟨o, h.kp a o ho nw, nt⟩
  · exact h.own_some q
theorem Ok.m_new (h : Ok K F T H vs es) {a : Addr} (q : H a = none) : ¬ Ms F vs es a := fun z => by
  obtain ⟨o, e, _⟩ := h.m_some z
  rw [q] at e; cases e
theorem Ok.new_h0 (h : Ok K F T H vs es) {a : Addr} (q : H a = none) : F.H0 a = none := by
  cases e : F.H0 a with
  | none => rfl
  | some o =>
    obtain ⟨o', h1⟩ := h.tr a o e
    rw [q] at h1; cases h1
/-- a cell as the shared part grows and its own object stays -/
theorem Cell.move {Hm Hm' : Hp} {v : Option V} {e : Ent} (s : Same Hm Hm') (c : Cell K Hm H v e) (k : ∀ n d a o, e = .ow n d → v = some (.ref a) → H a = some o → H' a = some o) : Cell K Hm' H' v e := by
  cases e with
  | no => exact True.intro
  | va d => obtain ⟨y, e1, r⟩ := c; exact ⟨y, e1, r.mono s⟩
  | ow n d =>
    obtain ⟨y, e1, m, r⟩ := c
    exact ⟨y, e1, m, r.move s m fun a o ea ho => k n d a o rfl (by rw [e1, ea]) ho⟩
/-- the general change: the shared part grows, the slots are told anew -/
theorem Ok.change {vs' : List (Option V)} {es' : List Ent} (h : Ok K F T H vs es) (mT : Mono T) (hs : Same (wo H (Ms F vs es)) (wo H' (Ms F vs' es'))) (kp : ∀ a o, F.H0 a = some o → ¬ F.W a → H a = some o → H' a = some o) (tr : ∀ a o, H a = some o → ∃ o', H' a = some o')
    (len : vs'.length = es'.length) (cells : ∀ (i : Nat) (e : Ent) (v : Option V), es'[i]? = some e → vs'[i]? = some v → Cell K (wo H' (Ms F vs' es')) H' v e)
    (inj : ∀ (i j : Nat) (a : Addr) (n m : Option Nat) (d e : D), es'[i]? = some (.ow n d) → es'[j]? = some (.ow m e) → vs'[i]? = some (some (.ref a)) → vs'[j]? = some (some (.ref a)) → i = j)
    (w : ∀ (i : Nat) (a : Addr) (n : Option Nat) (d : D), es'[i]? = some (.ow n d) → vs'[i]? = some (some (.ref a)) → ¬ F.M0 a ∧ (F.W a ∨ F.H0 a = none) ∧ (n = none → F.H0 a = none) ∧ ∀ k, n = some k → F.ps[k]? = some (.ref a)) : Ok K F T H' vs' es' where
  len := len
  cells := cells
  inj := inj
  w := w
  kp := fun a o e n => kp a o e n (h.kp a o e n)
  tr := fun a o e => by
    obtain ⟨o', q⟩ := h.tr a o e
    exact tr a o' q
  m0 := h.m0
  wt := h.wt
  t := mT _ _ hs h.t

/-- a new object that no one owns -/
theorem Ok.new {p : Addr} {o : HO} (h : Ok K F T H vs es) (mT : Mono T) (hp : H p = none) : Ok K F T (upd H p o) vs es ∧ Same (wo H (Ms F vs es)) (wo (upd H p o) (Ms F vs es)) ∧ wo (upd H p o) (Ms F vs es) p = some o := by
  have hs : Same (wo H (Ms F vs es)) (wo (upd H p o) (Ms F vs es)) := wo_mono fun a u hm e => ⟨hm, by rw [upd_ne (ne_of_none e hp)]; exact e⟩
  have k : ∀ a u, H a = some u → upd H p o a = some u := fun a u e => by rw [upd_ne (ne_of_none e hp)]; exact e
  exact ⟨h.change mT hs (fun a u _ _ e => k a u e) (fun a u e => ⟨u, k a u e⟩) h.len (fun i e v h1 h2 => (h.cells i e v h1 h2).move hs fun _ _ a u _ _ q => k a u q) h.inj h.w, hs, by rw [wo_get (h.m_new hp), upd_same]⟩
/-- a new object, owned by the head -/
theorem Ok.newOwn {p : Addr} {o : HO} {d : D} (h : Ok K F T H vs es) (mT : Mono T) (hp : H p = none) (m : isMut d) (r : ∀ Hm, Same (wo H (Ms F vs es)) Hm → RpTop K Hm (upd H p o) d (.ref p)) : Ok K F T (upd H p o) (some (.ref p) :: vs) (.ow none d :: es) := by
  have k : ∀ a u, H a = some u → upd H p o a = some u := fun a u e => by rw [upd_ne (ne_of_none e hp)]; exact e
  have hs : Same (wo H (Ms F vs es)) (wo (upd H p o) (Ms F (some (.ref p) :: vs) (.ow none d :: es))) := wo_mono fun a u hm e => ⟨fun z => by
    rcases z with z | z
    · exact hm (.inl z)
    · rcases z.of_cons with ⟨z, _⟩ | z
      · cases z; rw [hp] at e; cases e
      · exact hm (.inr z), k a u e⟩
  have np : ∀ (i : Nat) (n : Option Nat) (d' : D), es[i]? = some (Ent.ow n d') → ¬ vs[i]? = some (some (V.ref p)) := fun i n d' h1 h2 => h.m_new hp (.inr ⟨i, n, d', h1, h2⟩)
  refine h.change mT hs (fun a u _ _ e => k a u e) (fun a u e => ⟨u, k a u e⟩) (by simp [h.len]) (fun i e v h1 h2 => ?_) (fun i j a n m' d1 d2 h1 h2 h3 h4 => ?_) fun i a n d1 h1 h2 => ?_
  · cases i with
    | zero =>
      simp at h1 h2
      subst h1; subst h2
      exact ⟨_, rfl, m, r _ hs⟩
    | succ i => exact (h.cells i e v (by simpa using h1) (by simpa using h2)).move hs fun _ _ a u _ _ q => k a u q
  · cases i with
    | zero =>
      cases j with
      | zero => rfl
      | succ j =>
        simp at h1 h3
        subst h3
        exact (np j m' d2 (by simpa using h2) (by simpa using h4)).elim
    | succ i =>
      cases j with
      | zero =>
        simp at h2 h4
        subst h4
        exact (np i n d1 (by simpa using h1) (by simpa using h3)).elim
      | succ j => rw [h.inj i j a n m' d1 d2 (by simpa using h1) (by simpa using h2) (by simpa using h3) (by simpa using h4)]
  · cases i with
    | zero =>
      have h1 : Ent.ow none d = .ow n d1 := by simpa using h1
      have h2 : p = a := by simpa using h2
      cases h1
      subst h2
      exact ⟨fun z => h.m_new hp (.inl z), .inr (h.new_h0 hp), fun _ => h.new_h0 hp, fun k z => nomatch z⟩
    | succ i => exact h.w i a n d1 (by simpa using h1) (by simpa using h2)
/-- the head is let go into the shared part -/
theorem Ok.freezeHd {v : V} {n : Option Nat} {d : D} (h : Ok K F T H (some v :: vs) (.ow n d :: es)) (mT : Mono T) : Ok K F (fun h => T h ∧ Rp K h d v) H vs es := by
  obtain ⟨a, h1, m, r⟩ := h.own (i := 0) (n := n) (d := d) rfl
  cases h1
  have hs : Same (wo H (Ms F (some (.ref a) :: vs) (.ow n d :: es))) (wo H (Ms F vs es)) := wo_mono fun b u hm e => ⟨fun z => hm (z.elim .inl fun z => .inr z.cons), e⟩
  have k := h.change (vs' := vs) (es' := es) mT hs (fun _ _ _ _ e => e) (fun a u e => ⟨u, e⟩) (by simpa using h.len) (fun i e v h1 h2 => (h.cells (i + 1) e v (by simpa using h1) (by simpa using h2)).move hs fun _ _ _ _ _ _ q => q)
    (fun i j b n m' d1 d2 h1 h2 h3 h4 => by
      have := h.inj (i + 1) (j + 1) b n m' d1 d2 (by simpa using h1) (by simpa using h2) (by simpa using h3) (by simpa using h4)
      omega) fun i b n d1 h1 h2 => h.w (i + 1) b n d1 (by simpa using h1) (by simpa using h2)
  refine k.to ⟨k.t, r.shared hs m fun b u eb hb => ?_⟩
  cases eb
  rw [wo_get (fun z => ?_)]
  · exact hb
  · rcases z with z | ⟨j, n', d', z1, z2⟩
    · exact (h.w 0 a n d rfl rfl).1 z
    · have := h.inj 0 (j + 1) a n n' d d' rfl (by simpa using z1) rfl (by simpa using z2)
      omega
/-- what a slot tells is changed; it owns no more -/
theorem Ok.setE {i : Nat} {e : Ent} (h : Ok K F T H vs es) (mT : Mono T) (he : notOw e) (c : ∀ v, vs[i]? = some v → Same (wo H (Ms F vs es)) (wo H (Ms F vs (es.set i e))) → Cell K (wo H (Ms F vs (es.set i e))) H v e) : Ok K F T H vs (es.set i e) := by
  have hs : Same (wo H (Ms F vs es)) (wo H (Ms F vs (es.set i e))) := wo_mono fun b u hm q => ⟨fun z => hm (z.elim .inl fun z => .inr (z.of_setE he)), q⟩
  have back : ∀ {j : Nat} {n : Option Nat} {d : D}, (es.set i e)[j]? = some (.ow n d) → es[j]? = some (.ow n d) := fun {j n d} q => by
    by_cases hj : i = j
    · subst hj
      by_cases hl : i < es.length
      · rw [List.getElem?_set_self hl] at q
        cases q
        exact he.elim
      · rw [List.getElem?_eq_none (by rw [List.length_set]; omega)] at q
        cases q
    · rw [List.getElem?_set_ne hj] at q
      exact q
  refine h.change mT hs (fun _ _ _ _ q => q) (fun a u q => ⟨u, q⟩) (by rw [List.length_set]; exact h.len) (fun j e' v h1 h2 => ?_) (fun j l a n m d1 d2 h1 h2 h3 h4 => h.inj j l a n m d1 d2 (back h1) (back h2) h3 h4) fun j a n d h1 h2 => h.w j a n d (back h1) h2
  by_cases hj : i = j
  · subst hj
    by_cases hl : i < es.length
    · rw [List.getElem?_set_self hl] at h1
      cases h1
      exact c v h2 hs
    · rw [List.getElem?_eq_none (by rw [List.length_set]; omega)] at h1
      cases h1
  · rw [List.getElem?_set_ne hj] at h1
    exact (h.cells j e' v h1 h2).move hs fun _ _ _ _ _ _ q => q
/-- a slot's own thing is let go into the shared part -/
theorem Ok.freeze {i : Nat} {v : V} {n : Option Nat} {d : D} (h : Ok K F T H vs es) (mT : Mono T) (q : es[i]? = some (.ow n d)) (hv : vs[i]? = some (some v)) : Ok K F (fun h => T h ∧ Rp K h d v) H vs (es.set i (.va d)) := by
  obtain ⟨a, hv', m, r⟩ := h.own q
  rw [hv] at hv'
  cases hv'
  have hs : Same (wo H (Ms F vs es)) (wo H (Ms F vs (es.set i (.va d)))) := wo_mono fun b u hm e => ⟨fun z => hm (z.elim .inl fun z => .inr (z.of_setE (e := .va d) True.intro)), e⟩
  have hl : i < es.length := (List.getElem?_eq_some_iff.mp q).1
  have rs : Rp K (wo H (Ms F vs (es.set i (.va d)))) d (.ref a) := r.shared hs m fun b u eb hb => by
    cases eb
    rw [wo_get (fun z => ?_)]
    · exact hb
    · rcases z with z | ⟨j, n', d', z1, z2⟩
      · exact (h.w i a n d q hv).1 z
      · by_cases hj : i = j
        · subst hj
          rw [List.getElem?_set_self hl] at z1
          cases z1
        · rw [List.getElem?_set_ne hj] at z1
          exact hj (h.inj i j a n n' d d' q z1 hv z2)
  have k := h.setE (i := i) (e := .va d) mT True.intro fun v' hv' _ => by
    rw [hv] at hv'
    cases hv'
    exact ⟨_, rfl, rs⟩
  exact k.to ⟨k.t, rs⟩
end
end DL

namespace DL
open PySem PySem.Spec PyProof.Rows L2

/-! ### results -/
/-- what an expression gives: shared data, a new thing of its own, the very thing of the i-th slot -/
inductive Kd where
  | va (d : D) | ow (d : D) | al (i : Nat)
structure Exn where
  C : Addr
  fs : List (Str × D)
inductive R (α : Type) where
  | ok (a : α) (ρ : List Ent) | ex (x : Exn) (ρ : List Ent) | bad
def R.bind {α β : Type} : R α → (α → List Ent → R β) → R β
  | .ok a ρ, f => f a ρ
  | .ex x ρ, _ => .ex x ρ
  | .bad, _ => .bad
inductive Fl where
  | nx | bk | ct | rt (k : Kd)
/-- what stands behind a kind -/
def cont (ρ : List Ent) : Kd → Option D
  | .va d => some d
  | .ow d => some d
  | .al i => match ρ[i]? with
    | some (.ow _ d) => some d
    | some (.va d) => some d
    | _ => none
def KAt (K : PySem.W.Frag) (σ : L2.St) (h : Hp) : Kd → V → Prop
  | .va d, v => Rp K h d v
  | .al i, v => σ[i]? = some (some v)
  | .ow _, _ => False
def KAts (K : PySem.W.Frag) (σ : L2.St) (h : Hp) : List Kd → List V → Prop
  | [], vs => vs = []
  | k :: ks, vs => ∃ y ys, vs = y :: ys ∧ KAt K σ h k y ∧ KAts K σ h ks ys
theorem mono_kat {K : PySem.W.Frag} {σ : L2.St} {k : Kd} {v : V} : Mono fun h => KAt K σ h k v := fun _ _ e x => by
  cases k with
  | va d => exact Rp.mono e x
  | al i => exact x
  | ow d => exact x.elim
theorem mono_kats {K : PySem.W.Frag} {σ : L2.St} : ∀ {ks : List Kd} {vs : List V}, Mono fun h => KAts K σ h ks vs
  | [], _ => fun _ _ _ x => x
  | k :: ks, _ => fun H H' e ⟨y, ys, h1, h2, h3⟩ => ⟨y, ys, h1, mono_kat H H' e h2, mono_kats H H' e h3⟩

section
variable (K : PySem.W.Frag) (F : Fr) (E : XK)
/-- where an exception lies -/
def ExT (x : Exn) (d : Addr) : HT := fun h => ∃ fs, h d = some (.xd fs) ∧ RpF K h x.fs fs
def PostX (T : HT) (σ : L2.St) (x : Exn) (ρ : List Ent) : Prop := ∀ d H', Ok K F (fun h => T h ∧ ExT K x d h) H' σ ρ → E (.ref x.C) (some d) H'
def PostE (T : HT) (σ : L2.St) (Q : VK) : R Kd → Prop
  | .ok (.ow d) ρ => ∀ v H', Ok K F T H' (some v :: σ) (.ow none d :: ρ) → Q v H'
  | .ok k ρ => ∀ v H', Ok K F (fun h => T h ∧ KAt K σ h k v) H' σ ρ → Q v H'
  | .ex x ρ => PostX K F E T σ x ρ
  | .bad => False
def PostB (T : HT) (σ : L2.St) (Q : Bool → Hp → Prop) : R Bool → Prop
  | .ok b ρ => ∀ H', Ok K F T H' σ ρ → Q b H'
  | .ex x ρ => PostX K F E T σ x ρ
  | .bad => False
def PostA (T : HT) (σ : L2.St) (Q : List V → Hp → Prop) : R (List Kd) → Prop
  | .ok ks ρ => ∀ vs H', Ok K F (fun h => T h ∧ KAts K σ h ks vs) H' σ ρ → Q vs H'
  | .ex x ρ => PostX K F E T σ x ρ
  | .bad => False
def PostS (T : HT) (σ : L2.St) (D : Ends) : R Fl → Prop
  | .ok .nx ρ => ∀ σ' H', Ok K F T H' σ' ρ → D.nx σ' H'
  | .ok .bk ρ => ∀ σ' H', Ok K F T H' σ' ρ → D.bk σ' H'
  | .ok .ct ρ => ∀ σ' H', Ok K F T H' σ' ρ → D.ct σ' H'
  | .ok (.rt (.ow d)) ρ => ∀ v σ' H', Ok K F T H' (some v :: σ') (.ow none d :: ρ) → D.rt v H'
  | .ok (.rt (.va d)) ρ => ∀ v σ' H', Ok K F (fun h => T h ∧ Rp K h d v) H' σ' ρ → D.rt v H'
  | .ok (.rt (.al _)) _ => False
  | .ex x ρ => ∀ d σ' H', Ok K F (fun h => T h ∧ ExT K x d h) H' σ' ρ → E (.ref x.C) (some d) H'
  | .bad => False
def tE (G : List Ent → R Kd) : TE := fun σ H Q => ∃ ρ T, Mono T ∧ Ok K F T H σ ρ ∧ PostE K F E T σ Q (G ρ)
def tT (G : List Ent → R Bool) : TT := fun σ H Q => ∃ ρ T, Mono T ∧ Ok K F T H σ ρ ∧ PostB K F E T σ Q (G ρ)
def tA (G : List Ent → R (List Kd)) : TA := fun σ H Q => ∃ ρ T, Mono T ∧ Ok K F T H σ ρ ∧ PostA K F E T σ Q (G ρ)
def tS (G : List Ent → R Fl) : TS := fun D σ H => ∃ ρ T, Mono T ∧ Ok K F T H σ ρ ∧ PostS K F E T σ D (G ρ)
end
theorem peI {X : Cx} {e : Expr} {t t' : TE} (h : PE X e t) (w : ∀ σ H Q, t' σ H Q → t σ H Q) : PE X e t' := ⟨fun pins s σ H Q I q => h.run pins s σ H Q I (w σ H Q q)⟩
theorem ptI {X : Cx} {e : Expr} {t t' : TT} (h : PT X e t) (w : ∀ σ H Q, t' σ H Q → t σ H Q) : PT X e t' := ⟨fun pins s σ H Q I q => h.run pins s σ H Q I (w σ H Q q)⟩
theorem pwI {X : Cx} {e : Expr} {t t' : TT} (h : PW X e t) (w : ∀ σ H Q, t' σ H Q → t σ H Q) : PW X e t' := ⟨fun wh pins s σ H Q I q => h.run wh pins s σ H Q I (w σ H Q q)⟩
theorem paI {X : Cx} {e : List Expr} {t t' : TA} (h : PA X e t) (w : ∀ σ H Q, t' σ H Q → t σ H Q) : PA X e t' := ⟨fun pos pins s σ H Q I q => h.run pos pins s σ H Q I (w σ H Q q)⟩
theorem psI {X : Cx} {e : Stmt} {t t' : TS} (h : PS X e t) (w : ∀ D σ H, t' D σ H → t D σ H) : PS X e t' := ⟨fun pins s σ H D I q => h.run pins s σ H D I (w D σ H q)⟩
theorem pssI {X : Cx} {e : List Stmt} {t t' : TS} (h : PSs X e t) (w : ∀ D σ H, t' D σ H → t D σ H) : PSs X e t' := ⟨fun pins s σ H D I q => h.run pins s σ H D I (w D σ H q)⟩

/-! ### weaker wishes -/
section
variable {K : PySem.W.Frag} {F : Fr} {E : XK} {T T' : HT} {σ : L2.St}
theorem PostX.weak {x : Exn} {ρ : List Ent} (h : PostX K F E T σ x ρ) (w : ∀ h, T' h → T h) : PostX K F E T' σ x ρ := fun d H' o => h d H' (o.weak fun hh z => ⟨w hh z.1, z.2⟩)
end

/-! ### names, constants, letting go -/
def nameR (i : Nat) (ρ : List Ent) : R Kd := match ρ[i]? with
  | some (.va d) => .ok (.va d) ρ
  | some (.ow _ _) => .ok (.al i) ρ
  | _ => .bad
/-- a new thing is let go -/
def fz : R Kd → R Kd
  | .ok (.ow d) ρ => .ok (.va d) ρ
  | r => r
/-- a new thing, a slot's own thing is let go -/
def toVa : R Kd → R Kd
  | .ok (.ow d) ρ => .ok (.va d) ρ
  | .ok (.al i) ρ => match ρ[i]? with
    | some (.ow _ d) => .ok (.va d) (ρ.set i (.va d))
    | some (.va d) => .ok (.va d) ρ
    | _ => .bad
  | r => r
section
variable {X : Cx} {F : Fr} {E : XK} {e a b : Expr}
theorem je_name (i : Nat) {x : Str} {pos : Pos} (hN : X.N[i]? = some x := by rfl) (hv : Vis X.env.scope x := by first | exact Or.inl rfl | exact Or.inr (Or.inl rfl) | exact Or.inr (Or.inr rfl)) (hd : (x == ("__debug__" : Str)) = false := by decide)
    (hcd : (x == ("__classdict__" : Str)) = false := by decide) : PE X (.Name x pos) (tE X.K F E (nameR i)) := peI (pe_var (i := i) hN hv hd hcd) fun σ H Q h => by
  obtain ⟨ρ, T, m, o, p⟩ := h
  unfold nameR at p
  split at p
  · rename_i d q
    obtain ⟨v, h1, h2⟩ := o.va q
    exact ⟨v, h1, p v H (o.to ⟨o.t, h2⟩)⟩
  · rename_i d q
    obtain ⟨a, h1, h2⟩ := o.own q
    exact ⟨_, h1, p _ H (o.to ⟨o.t, h1⟩)⟩
  · exact p.elim
theorem je_const {d : D} {v : V} (h : PE X e (tC v)) (r : ∀ K H, Rp K H d v) : PE X e (tE X.K F E fun ρ => .ok (.va d) ρ) := peI h fun σ H Q h => by
  obtain ⟨ρ, T, m, o, p⟩ := h
  exact p v H (o.to ⟨o.t, r _ _⟩)
theorem je_int {i j pos} : PE X (.Constant (.int i) j pos) (tE X.K F E fun ρ => .ok (.va (.int i)) ρ) := je_const pe_int fun _ _ => rfl
theorem je_bl {i j pos} : PE X (.Constant (.bool i) j pos) (tE X.K F E fun ρ => .ok (.va (.bl i)) ρ) := je_const pe_bl fun _ _ => rfl
theorem je_non {j pos} : PE X (.Constant .none j pos) (tE X.K F E fun ρ => .ok (.va .non) ρ) := je_const pe_non fun _ _ => rfl
theorem je_str {i j pos} : PE X (.Constant (.str i) j pos) (tE X.K F E fun ρ => .ok (.va (.str i)) ρ) := je_const pe_str fun _ _ => rfl
theorem je_map {G : List Ent → R Kd} {f : R Kd → R Kd} (w : ∀ T σ Q r, Mono T → PostE X.K F E T σ Q (f r) → PostE X.K F E T σ Q r) (h : PE X e (tE X.K F E G)) : PE X e (tE X.K F E fun ρ => f (G ρ)) := peI h fun σ H Q h => by
  obtain ⟨ρ, T, m, o, p⟩ := h
  exact ⟨ρ, T, m, o, w T σ Q (G ρ) m p⟩
theorem je_fz {G : List Ent → R Kd} (h : PE X e (tE X.K F E G)) : PE X e (tE X.K F E fun ρ => fz (G ρ)) := je_map (f := fz) (fun T σ Q r m p => by
  cases r with
  | ok k ρ' =>
    cases k with
    | ow d => exact fun v H' o' => p v H' (o'.freezeHd m)
    | va d => exact p
    | al i => exact p
  | ex x ρ' => exact p
  | bad => exact p) h
theorem je_toVa {G : List Ent → R Kd} (h : PE X e (tE X.K F E G)) : PE X e (tE X.K F E fun ρ => toVa (G ρ)) := je_map (f := toVa) (fun T σ Q r m p => by
  cases r with
  | ok k ρ' =>
    cases k with
    | ow d => exact fun v H' o' => p v H' (o'.freezeHd m)
    | va d => exact p
    | al i =>
      intro v H' o'
      have hv : σ[i]? = some (some v) := o'.t.2
      have p : PostE X.K F E T σ Q (match ρ'[i]? with
        | some (.ow _ d) => .ok (.va d) (ρ'.set i (.va d))
        | some (.va d) => .ok (.va d) ρ'
        | _ => .bad) := p
      split at p
      · rename_i d q
        exact p v H' ((o'.freeze (m.and mono_kat) q hv).weak fun _ z => ⟨z.1.1, z.2⟩)
      · rename_i d q
        obtain ⟨v', h1, h2⟩ := o'.va q
        rw [hv] at h1
        cases h1
        exact p v H' (o'.to ⟨o'.t.1, h2⟩)
      · exact p.elim
  | ex x ρ' => exact p
  | bad => exact p) h
end
end DL

namespace DL
open PySem PySem.Spec PyProof.Rows L2

/-! ### one thing behind another -/
structure PF (K : PySem.W.Frag) (F : Fr) (E : XK) (σ : L2.St) {β : Type} (P : HT → R β → Prop) : Prop where
  px : ∀ T x ρ, P T (.ex x ρ) → PostX K F E T σ x ρ
  pb : ∀ T, ¬ P T .bad
  pw : ∀ (T T' : HT) r, (∀ h, T' h → T h) → P T r → P T' r
section
variable {K : PySem.W.Frag} {F : Fr} {E : XK} {σ : L2.St} {T T' : HT} {H : Hp} {ρ : List Ent}
theorem PostE.weak {Q : VK} {r : R Kd} (w : ∀ h, T' h → T h) (p : PostE K F E T σ Q r) : PostE K F E T' σ Q r := by
  cases r with
  | ok k ρ' =>
    cases k with
    | ow d => exact fun v H' o => p v H' (o.weak w)
    | va d => exact fun v H' o => p v H' (o.weak fun h z => ⟨w h z.1, z.2⟩)
    | al i => exact fun v H' o => p v H' (o.weak fun h z => ⟨w h z.1, z.2⟩)
  | ex x ρ' => exact PostX.weak p w
  | bad => exact p
theorem pf_E (Q : VK) : PF K F E σ (fun T r => PostE K F E T σ Q r) := ⟨fun _ _ _ p => p, fun _ p => p, fun _ _ _ w p => p.weak w⟩
theorem pf_B (Q : Bool → Hp → Prop) : PF K F E σ (fun T r => PostB K F E T σ Q r) := ⟨fun _ _ _ p => p, fun _ p => p, fun T T' r w p => by
  cases r with
  | ok b ρ' => exact fun H' o => p H' (o.weak w)
  | ex x ρ' => exact PostX.weak p w
  | bad => exact p⟩
theorem pf_A (Q : List V → Hp → Prop) : PF K F E σ (fun T r => PostA K F E T σ Q r) := ⟨fun _ _ _ p => p, fun _ p => p, fun T T' r w p => by
  cases r with
  | ok b ρ' => exact fun v H' o => p v H' (o.weak fun h z => ⟨w h z.1, z.2⟩)
  | ex x ρ' => exact PostX.weak p w
  | bad => exact p⟩
theorem pf_S (D : Ends) : PF K F E σ (fun T r => PostS K F E T σ D r) := ⟨fun _ _ _ p => fun d H' o => p d σ H' o, fun _ p => p, fun T T' r w p => by
  cases r with
  | ok b ρ' =>
    cases b with
    | nx => exact fun s H' o => p s H' (o.weak w)
    | bk => exact fun s H' o => p s H' (o.weak w)
    | ct => exact fun s H' o => p s H' (o.weak w)
    | rt k => cases k with
      | ow d => exact fun v s H' o => p v s H' (o.weak w)
      | va d => exact fun v s H' o => p v s H' (o.weak fun h z => ⟨w h z.1, z.2⟩)
      | al i => exact p
  | ex x ρ' => exact fun d s H' o => p d s H' (o.weak fun h z => ⟨w h z.1, z.2⟩)
  | bad => exact p⟩
theorem bdE {β : Type} {P : HT → R β → Prop} (pf : PF K F E σ P) {G : List Ent → R Kd} {f : Kd → List Ent → R β} (m : Mono T) (o : Ok K F T H σ ρ) (p : P T ((fz (G ρ)).bind f))
    {Q2 : VK} (c : ∀ x H1 k ρ1, Ok K F (fun h => T h ∧ KAt K σ h k x) H1 σ ρ1 → P T (f k ρ1) → Q2 x H1) : tE K F E (fun ρ => fz (G ρ)) σ H Q2 := by
  refine ⟨ρ, T, m, o, ?_⟩
  show PostE K F E T σ _ (fz (G ρ))
  cases hg : G ρ with
  | ok k ρ' =>
    rw [hg] at p
    cases k with
    | ow d => exact fun v H' o' => c _ _ (.va d) ρ' o' p
    | va d => exact fun v H' o' => c _ _ (.va d) ρ' o' p
    | al i => exact fun v H' o' => c _ _ (.al i) ρ' o' p
  | ex x ρ' => rw [hg] at p; exact pf.px _ _ _ p
  | bad => rw [hg] at p; exact (pf.pb _ p).elim
theorem bdV {β : Type} {P : HT → R β → Prop} (pf : PF K F E σ P) {G : List Ent → R Kd} {f : Kd → List Ent → R β} (m : Mono T) (o : Ok K F T H σ ρ) (p : P T ((toVa (G ρ)).bind f))
    {Q2 : VK} (c : ∀ x H1 d ρ1, Ok K F (fun h => T h ∧ Rp K h d x) H1 σ ρ1 → P T (f (.va d) ρ1) → Q2 x H1) : tE K F E (fun ρ => toVa (G ρ)) σ H Q2 := by
  refine ⟨ρ, T, m, o, ?_⟩
  show PostE K F E T σ _ (toVa (G ρ))
  cases hg : G ρ with
  | ok k ρ' =>
    rw [hg] at p
    cases k with
    | ow d => exact fun v H' o' => c _ _ d ρ' o' p
    | va d => exact fun v H' o' => c _ _ d ρ' o' p
    | al i =>
      have p : P T ((match ρ'[i]? with
        | some (.ow _ d) => .ok (.va d) (ρ'.set i (.va d))
        | some (.va d) => .ok (.va d) ρ'
        | _ => .bad : R Kd).bind f) := p
      show PostE K F E T σ _ (match ρ'[i]? with
        | some (.ow _ d) => .ok (.va d) (ρ'.set i (.va d))
        | some (.va d) => .ok (.va d) ρ'
        | _ => .bad)
      split at p
      · rename_i d q
        exact fun v H' o' => c _ _ d _ o' p
      · rename_i d q
        exact fun v H' o' => c _ _ d _ o' p
      · exact (pf.pb _ p).elim
  | ex x ρ' => rw [hg] at p; exact pf.px _ _ _ p
  | bad => rw [hg] at p; exact (pf.pb _ p).elim
theorem bdB {β : Type} {P : HT → R β → Prop} (pf : PF K F E σ P) {G : List Ent → R Bool} {f : Bool → List Ent → R β} (m : Mono T) (o : Ok K F T H σ ρ) (p : P T ((G ρ).bind f))
    {Q2 : Bool → Hp → Prop} (c : ∀ b H1 ρ1, Ok K F T H1 σ ρ1 → P T (f b ρ1) → Q2 b H1) : tT K F E G σ H Q2 := by
  refine ⟨ρ, T, m, o, ?_⟩
  cases hg : G ρ with
  | ok k ρ' => rw [hg] at p; exact fun H' o' => c _ _ ρ' o' p
  | ex x ρ' => rw [hg] at p; exact pf.px _ _ _ p
  | bad => rw [hg] at p; exact (pf.pb _ p).elim
theorem bdA {β : Type} {P : HT → R β → Prop} (pf : PF K F E σ P) {G : List Ent → R (List Kd)} {f : List Kd → List Ent → R β} (m : Mono T) (o : Ok K F T H σ ρ) (p : P T ((G ρ).bind f))
    {Q2 : List V → Hp → Prop} (c : ∀ vs H1 ks ρ1, Ok K F (fun h => T h ∧ KAts K σ h ks vs) H1 σ ρ1 → P T (f ks ρ1) → Q2 vs H1) : tA K F E G σ H Q2 := by
  refine ⟨ρ, T, m, o, ?_⟩
  cases hg : G ρ with
  | ok k ρ' => rw [hg] at p; exact fun vs H' o' => c _ _ k ρ' o' p
  | ex x ρ' => rw [hg] at p; exact pf.px _ _ _ p
  | bad => rw [hg] at p; exact (pf.pb _ p).elim
/-- what a kind tells of the heap as it stands -/
theorem kat_top {k : Kd} {v : V} {d : D} (o : Ok K F (fun h => T h ∧ KAt K σ h k v) H σ ρ) (c : cont ρ k = some d) : RpTop K (wo H (Ms F σ ρ)) H d v := by
  cases k with
  | va d' =>
    cases c
    exact Rp.top wo_le o.t.2
  | ow d' => exact o.t.2.elim
  | al i =>
    have hv : σ[i]? = some (some v) := o.t.2
    have c : (match ρ[i]? with
      | some (.ow _ d) => some d
      | some (.va d) => some d
      | _ => none) = some d := c
    split at c
    · rename_i d' q
      cases c
      obtain ⟨a, h1, _, h2⟩ := o.own q
      rw [hv] at h1
      cases h1
      exact h2
    · rename_i d' q
      cases c
      obtain ⟨a, h1, h2⟩ := o.va q
      rw [hv] at h1
      cases h1
      exact Rp.top wo_le h2
    · cases c
end

/-! ### what an operation on values gives -/
inductive Out where
  | same (d : D) | newL (ds : List D) | newT (ds : List D) | newD (kvs : List (Key × D))
def OutP (K : PySem.W.Frag) (Hm H : Hp) (Q : VK) : Out → Prop
  | .same d => ∀ v, Rp K Hm d v → Q v H
  | .newL ds => ∀ p xs, H p = none → RpL K Hm ds xs → Q (.ref p) (upd H p (.lst xs))
  | .newT ds => ∀ p xs, H p = none → RpL K Hm ds xs → Q (.ref p) (upd H p (.tup xs))
  | .newD kvs => ∀ p xs, H p = none → RpD K Hm kvs xs → Q (.ref p) (upd H p (.dK xs))
def outR : Out → List Ent → R Kd
  | .same d, ρ => .ok (.va d) ρ
  | .newL ds, ρ => .ok (.ow (.lst ds)) ρ
  | .newT ds, ρ => .ok (.va (.tup ds)) ρ
  | .newD kvs, ρ => .ok (.ow (.dic kvs)) ρ
def outO : Option Out → List Ent → R Kd
  | some o, ρ => outR o ρ
  | none, _ => .bad
section
variable {K : PySem.W.Frag} {F : Fr} {E : XK} {σ : L2.St} {T T' : HT} {H : Hp} {ρ : List Ent} {Q : VK}
theorem outP_of {out : Out} (m : Mono T) (o : Ok K F T H σ ρ) (p : PostE K F E T σ Q (outR out ρ)) : OutP K (wo H (Ms F σ ρ)) H Q out := by
  cases out with
  | same d => exact fun v r => p v H (o.to ⟨o.t, r⟩)
  | newL ds => exact fun q xs hq r => p _ _ (o.newOwn m hq True.intro fun Hm s => ⟨q, xs, rfl, upd_same, r.mono s⟩)
  | newT ds =>
    intro q xs hq r
    obtain ⟨o', s, hw⟩ := o.new (o := .tup xs) m hq
    exact p _ _ (o'.to ⟨o'.t, q, xs, rfl, .inl (.inl hw), r.mono s⟩)
  | newD kvs => exact fun q xs hq r => p _ _ (o.newOwn m hq True.intro fun Hm s => ⟨q, xs, rfl, upd_same, r.mono s⟩)
end
def SndOp (K : PySem.W.Frag) (r : R2) (g : D → D → Option Out) : Prop := ∀ (Hm H : Hp) (x y : V) (d e : D) (Q : VK) (out : Out), Same Hm H → RpTop K Hm H d x → RpTop K Hm H e y → g d e = some out → OutP K Hm H Q out → r x y H Q
def opK (g : D → D → Option Out) (k1 k2 : Kd) (ρ : List Ent) : R Kd := match cont ρ k1 with
  | some d => match cont ρ k2 with
    | some e => outO (g d e) ρ
    | none => .bad
  | none => .bad
def binR (g : D → D → Option Out) (Ga Gb : List Ent → R Kd) (ρ : List Ent) : R Kd := (fz (Ga ρ)).bind fun k1 ρ1 => (fz (Gb ρ1)).bind fun k2 ρ2 => opK g k1 k2 ρ2
section
variable {X : Cx} {F : Fr} {E : XK} {e a b c : Expr} {pos : Pos} {r r' : R2} {g g' : D → D → Option Out} {Ga Gb Gc : List Ent → R Kd}
theorem opK_run {K : PySem.W.Frag} {σ : L2.St} {T : HT} {H : Hp} {ρ : List Ent} {Q : VK} {k1 k2 : Kd} {x y : V} (s : SndOp K r g) (m : Mono T) (o : Ok K F (fun h => (T h ∧ KAt K σ h k1 x) ∧ KAt K σ h k2 y) H σ ρ) (p : PostE K F E T σ Q (opK g k1 k2 ρ)) : r x y H Q := by
  unfold opK at p
  split at p
  · rename_i d c1
    split at p
    · rename_i e c2
      cases hg : g d e with
      | none => rw [hg] at p; exact p.elim
      | some out =>
        rw [hg] at p
        have o1 : Ok K F (fun h => T h ∧ KAt K σ h k1 x) H σ ρ := o.weak fun _ z => z.1
        exact s _ _ _ _ _ _ _ _ wo_le (kat_top o1 c1) (kat_top o c2) hg (outP_of m (o.weak fun _ z => z.1.1) p)
    · exact p.elim
  · exact p.elim
theorem tOp_of {K : PySem.W.Frag} {σ : L2.St} {H : Hp} {Q : VK} (s : SndOp K r g) (h : tE K F E (binR g Ga Gb) σ H Q) : tOp r (tE K F E fun ρ => fz (Ga ρ)) (tE K F E fun ρ => fz (Gb ρ)) σ H Q := by
  obtain ⟨ρ, T, m, o, p⟩ := h
  refine bdE (pf_E Q) m o p fun x H1 k1 ρ1 o1 p1 => ?_
  refine bdE (T := fun h => T h ∧ KAt K σ h k1 x) (pf_E Q) (m.and mono_kat) o1 ((pf_E Q).pw _ _ _ (fun _ z => z.1) p1) fun y H2 k2 ρ2 o2 p2 => ?_
  exact opK_run s (T := fun h => T h ∧ KAt K σ h k1 x) (k1 := k1) (m.and mono_kat) (o2.weak fun _ z => ⟨⟨z.1, z.1.2⟩, z.2⟩) p2
theorem je_op {op : Operator} (ho : OpR X (binaryOp op) r) (s : SndOp X.K r g) (ha : PE X a (tE X.K F E Ga)) (hb : PE X b (tE X.K F E Gb)) : PE X (.BinOp a op b pos) (tE X.K F E (binR g Ga Gb)) :=
  peI (pe_op ho (je_fz ha) (je_fz hb)) fun _ _ _ h => tOp_of s h
theorem je_cmp {op : CmpOp} (ho : OpR X (compareOp op) r) (s : SndOp X.K r g) (ha : PE X a (tE X.K F E Ga)) (hb : PE X b (tE X.K F E Gb)) (hm : behindInMarks op b = false) : PE X (.Compare a [op] [b] pos) (tE X.K F E (binR g Ga Gb)) :=
  peI (pe_cmpR ho (je_fz ha) (je_fz hb) hm) fun _ _ _ h => tOp_of s h
/-! ### tests -/
def toB : R Kd → R Bool
  | .ok (.va (.bl b)) ρ => .ok b ρ
  | .ex x ρ => .ex x ρ
  | _ => .bad
theorem postB_of {K : PySem.W.Frag} {T : HT} {σ : L2.St} {Q : Bool → Hp → Prop} {r : R Kd} (p : PostB K F E T σ Q (toB r)) : PostE K F E T σ (fun x H => ∃ k, x = .bl k ∧ Q k H) r := by
  cases r with
  | ok k ρ' =>
    cases k with
    | ow d => exact p.elim
    | va d =>
      cases d with
      | bl b => exact fun v H' o => ⟨b, o.t.2, p H' (o.weak fun _ z => z.1)⟩
      | _ => exact p.elim
    | al i => exact p.elim
  | ex x ρ' => exact p
  | bad => exact p
/-- an expression whose value is a bool, as a test -/
theorem jt_val {G : List Ent → R Kd} (h : PE X e (tE X.K F E G)) (he : ∀ whole, isTrue e X.env whole = (do let v ← whole; standAt e.pos; holding [v] (truthy v)) := by intro _; rfl) : PT X e (tT X.K F E fun ρ => toB (G ρ)) :=
  ptI (pt_val h he) fun σ H Q h => by
    obtain ⟨ρ, T, m, o, p⟩ := h
    exact ⟨ρ, T, m, o, postB_of p⟩
theorem jt_cmp {op : CmpOp} (ho : OpR X (compareOp op) r) (s : SndOp X.K r g) (ha : PE X a (tE X.K F E Ga)) (hb : PE X b (tE X.K F E Gb)) (hm : behindInMarks op b = false) : PT X (.Compare a [op] [b] pos) (tT X.K F E fun ρ => toB (binR g Ga Gb ρ)) :=
  ptI (pt_cmpR ho (je_fz ha) (je_fz hb) hm) fun σ H Q h => by
    obtain ⟨ρ, T, m, o, p⟩ := h
    exact tOp_of s ⟨ρ, T, m, o, postB_of p⟩
def andR (A B : List Ent → R Bool) (ρ : List Ent) : R Bool := (A ρ).bind fun b ρ1 => if b then B ρ1 else .ok false ρ1
def orR (A B : List Ent → R Bool) (ρ : List Ent) : R Bool := (A ρ).bind fun b ρ1 => if b then .ok true ρ1 else B ρ1
def notR (A : List Ent → R Bool) (ρ : List Ent) : R Bool := (A ρ).bind fun b ρ1 => .ok (!b) ρ1
variable {A B : List Ent → R Bool} {rest : List Expr}
theorem jw_and1 (h : PT X a (tT X.K F E A)) : PW X (.BoolOp .And [a] pos) (tT X.K F E A) := pw_and1 h
theorem jw_or1 (h : PT X a (tT X.K F E A)) : PW X (.BoolOp .Or [a] pos) (tT X.K F E A) := pw_or1 h
theorem jw_and (ha : PT X a (tT X.K F E A)) (hb : PW X (.BoolOp .And (b :: rest) pos) (tT X.K F E B)) : PW X (.BoolOp .And (a :: b :: rest) pos) (tT X.K F E (andR A B)) :=
  pwI (pw_and ha hb) fun σ H Q h => by
    obtain ⟨ρ, T, m, o, p⟩ := h
    refine bdB (pf_B Q) m o p fun b H1 ρ1 o1 p1 => ?_
    cases b with
    | true => exact ⟨ρ1, T, m, o1, p1⟩
    | false => exact p1 H1 o1
theorem jw_or (ha : PT X a (tT X.K F E A)) (hb : PW X (.BoolOp .Or (b :: rest) pos) (tT X.K F E B)) : PW X (.BoolOp .Or (a :: b :: rest) pos) (tT X.K F E (orR A B)) :=
  pwI (pw_or ha hb) fun σ H Q h => by
    obtain ⟨ρ, T, m, o, p⟩ := h
    refine bdB (pf_B Q) m o p fun b H1 ρ1 o1 p1 => ?_
    cases b with
    | true => exact p1 H1 o1
    | false => exact ⟨ρ1, T, m, o1, p1⟩
theorem jt_bool (h : PW X e (tT X.K F E A)) : PT X e (tT X.K F E A) := h.pt
theorem jt_not (ha : PT X a (tT X.K F E A)) : PT X (.UnaryOp .Not a pos) (tT X.K F E (notR A)) :=
  ptI (pt_not ha) fun σ H Q h => by
    obtain ⟨ρ, T, m, o, p⟩ := h
    exact bdB (pf_B Q) m o p fun b H1 ρ1 o1 p1 => p1 H1 o1
/-! as values (True, False) -/
def ofB : R Bool → R Kd
  | .ok b ρ => .ok (.va (.bl b)) ρ
  | .ex x ρ => .ex x ρ
  | .bad => .bad
def andV (Ga Gb : List Ent → R Kd) (ρ : List Ent) : R Kd := (toB (Ga ρ)).bind fun b ρ1 => if b then Gb ρ1 else .ok (.va (.bl false)) ρ1
def orV (Ga Gb : List Ent → R Kd) (ρ : List Ent) : R Kd := (toB (Ga ρ)).bind fun b ρ1 => if b then .ok (.va (.bl true)) ρ1 else Gb ρ1
def notV (Ga : List Ent → R Kd) (ρ : List Ent) : R Kd := (toB (Ga ρ)).bind fun b ρ1 => .ok (.va (.bl (!b))) ρ1
theorem bdBV {β : Type} {K : PySem.W.Frag} {T : HT} {σ : L2.St} {H : Hp} {ρ : List Ent} {P : HT → R β → Prop} (pf : PF K F E σ P) {G : List Ent → R Kd} {f : Bool → List Ent → R β} (m : Mono T) (o : Ok K F T H σ ρ) (p : P T ((toB (G ρ)).bind f))
    {Q2 : VK} (c : ∀ b H1 ρ1, Ok K F T H1 σ ρ1 → P T (f b ρ1) → Q2 (.bl b) H1) : tE K F E G σ H Q2 := by
  refine ⟨ρ, T, m, o, ?_⟩
  cases hg : G ρ with
  | ok k ρ' =>
    rw [hg] at p
    cases k with
    | ow d => exact (pf.pb _ p).elim
    | va d =>
      cases d with
      | bl b =>
        intro v H' o'
        have e : v = .bl b := o'.t.2
        rw [e]
        exact c _ _ ρ' (o'.weak fun _ z => z.1) p
      | non => exact (pf.pb _ p).elim
      | int _ => exact (pf.pb _ p).elim
      | str _ => exact (pf.pb _ p).elim
      | lst _ => exact (pf.pb _ p).elim
      | tup _ => exact (pf.pb _ p).elim
      | ins _ _ => exact (pf.pb _ p).elim
      | dic _ => exact (pf.pb _ p).elim
      | scr _ => exact (pf.pb _ p).elim
    | al i => exact (pf.pb _ p).elim
  | ex x ρ' => rw [hg] at p; exact pf.px _ _ _ p
  | bad => rw [hg] at p; exact (pf.pb _ p).elim
theorem je_one {op} {G : List Ent → R Kd} (h : PE X a (tE X.K F E G)) : PE X (.BoolOp op [a] pos) (tE X.K F E G) := pe_one h
theorem je_and (ha : PE X a (tE X.K F E Ga)) (hb : PE X (.BoolOp .And (b :: rest) pos) (tE X.K F E Gb)) : PE X (.BoolOp .And (a :: b :: rest) pos) (tE X.K F E (andV Ga Gb)) :=
  peI (pe_and ha hb) fun σ H Q h => by
    obtain ⟨ρ, T, m, o, p⟩ := h
    refine bdBV (pf_E Q) m o p fun b H1 ρ1 o1 p1 => ⟨b, rfl, ?_⟩
    cases b with
    | true => exact ⟨ρ1, T, m, o1, p1⟩
    | false => exact p1 _ H1 (o1.to ⟨o1.t, rfl⟩)
theorem je_or (ha : PE X a (tE X.K F E Ga)) (hb : PE X (.BoolOp .Or (b :: rest) pos) (tE X.K F E Gb)) : PE X (.BoolOp .Or (a :: b :: rest) pos) (tE X.K F E (orV Ga Gb)) :=
  peI (pe_or ha hb) fun σ H Q h => by
    obtain ⟨ρ, T, m, o, p⟩ := h
    refine bdBV (pf_E Q) m o p fun b H1 ρ1 o1 p1 => ⟨b, rfl, ?_⟩
    cases b with
    | true => exact p1 _ H1 (o1.to ⟨o1.t, rfl⟩)
    | false => exact ⟨ρ1, T, m, o1, p1⟩
theorem je_not (ha : PE X a (tE X.K F E Ga)) : PE X (.UnaryOp .Not a pos) (tE X.K F E (notV Ga)) :=
  peI (pe_not ha) fun σ H Q h => by
    obtain ⟨ρ, T, m, o, p⟩ := h
    exact bdBV (pf_E Q) m o p fun b H1 ρ1 o1 p1 => ⟨b, rfl, p1 _ H1 (o1.to ⟨o1.t, rfl⟩)⟩
def ifR (A : List Ent → R Bool) (Ga Gb : List Ent → R Kd) (ρ : List Ent) : R Kd := (A ρ).bind fun b ρ1 => if b then Ga ρ1 else Gb ρ1
/-! a < b < c -/
theorem je_if (hc : PT X c (tT X.K F E A)) (ha : PE X a (tE X.K F E Ga)) (hb : PE X b (tE X.K F E Gb)) : PE X (.IfExp c a b pos) (tE X.K F E (ifR A Ga Gb)) :=
  peI (pe_ifExp hc ha hb) fun σ H Q h => by
    obtain ⟨ρ, T, m, o, p⟩ := h
    refine bdB (pf_E Q) m o p fun b H1 ρ1 o1 p1 => ?_
    cases b with
    | true => exact ⟨ρ1, T, m, o1, p1⟩
    | false => exact ⟨ρ1, T, m, o1, p1⟩
def chainR (g g' : D → D → Option Out) (Ga Gb Gc : List Ent → R Kd) (ρ : List Ent) : R Kd := (fz (Ga ρ)).bind fun k1 ρ1 => (fz (Gb ρ1)).bind fun k2 ρ2 => (toB (opK g k1 k2 ρ2)).bind fun b ρ3 => if b then (fz (Gc ρ3)).bind fun k3 ρ4 => opK g' k2 k3 ρ4 else .ok (.va (.bl false)) ρ3
theorem toB_bind {K : PySem.W.Frag} {T : HT} {σ : L2.St} {H : Hp} {β : Type} {P : HT → R β → Prop} (pf : PF K F E σ P) {r : R Kd} {f : Bool → List Ent → R β} (p : P T ((toB r).bind f)) {Q2 : VK}
    (c : ∀ b H1 ρ1, Ok K F T H1 σ ρ1 → P T (f b ρ1) → Q2 (.bl b) H1) : PostE K F E T σ Q2 r := by
  cases r with
  | ok k ρ' =>
    cases k with
    | ow d => exact (pf.pb _ p).elim
    | va d =>
      cases d with
      | bl b =>
        intro v H' o'
        have e : v = .bl b := o'.t.2
        rw [e]
        exact c _ _ ρ' (o'.weak fun _ z => z.1) p
      | non => exact (pf.pb _ p).elim
      | int _ => exact (pf.pb _ p).elim
      | str _ => exact (pf.pb _ p).elim
      | lst _ => exact (pf.pb _ p).elim
      | tup _ => exact (pf.pb _ p).elim
      | ins _ _ => exact (pf.pb _ p).elim
      | dic _ => exact (pf.pb _ p).elim
      | scr _ => exact (pf.pb _ p).elim
    | al i => exact (pf.pb _ p).elim
  | ex x ρ' => exact pf.px _ _ _ p
  | bad => exact (pf.pb _ p).elim
theorem je_chain {op op' : CmpOp} (ho : OpR X (compareOp op) r) (ho' : OpR X (compareOp op') r') (s : SndOp X.K r g) (s' : SndOp X.K r' g') (ha : PE X a (tE X.K F E Ga)) (hb : PE X b (tE X.K F E Gb)) (hc : PE X c (tE X.K F E Gc))
    (hm : lastMarks [op, op'] [b, c] = false := by with_unfolding_all rfl) : PE X (.Compare a [op, op'] [b, c] pos) (tE X.K F E (chainR g g' Ga Gb Gc)) :=
  peI (pe_chain ho ho' (je_fz ha) (je_fz hb) (je_fz hc) hm) fun σ H Q h => by
    obtain ⟨ρ, T, m, o, p⟩ := h
    refine bdE (pf_E Q) m o p fun x H1 k1 ρ1 o1 p1 => ?_
    refine bdE (T := fun h => T h ∧ KAt X.K σ h k1 x) (pf_E Q) (m.and mono_kat) o1 ((pf_E Q).pw _ _ _ (fun _ z => z.1) p1) fun y H2 k2 ρ2 o2 p2 => ?_
    have m2 : Mono fun h => (T h ∧ KAt X.K σ h k1 x) ∧ KAt X.K σ h k2 y := (m.and mono_kat).and mono_kat
    have p3 := toB_bind (T := fun h => (T h ∧ KAt X.K σ h k1 x) ∧ KAt X.K σ h k2 y) (H := H2) (pf_E Q) ((pf_E Q).pw _ _ _ (fun _ z => z.1) p2) (Q2 := fun z H3 => ∃ k, z = .bl k ∧ (if k = true then tE X.K F E (fun ρ => fz (Gc ρ)) σ H3 (fun w' H4 => r' y w' H4 Q) else Q (.bl false) H3)) (fun b H3 ρ3 o3 p3 => ⟨b, rfl, by
      cases b with
      | true =>
        rw [if_pos rfl]
        refine bdE (T := fun h => (T h ∧ KAt X.K σ h k1 x) ∧ KAt X.K σ h k2 y) (pf_E Q) m2 o3 p3 fun z H4 k3 ρ4 o4 p4 => ?_
        exact opK_run s' (T := fun h => (T h ∧ KAt X.K σ h k1 x) ∧ KAt X.K σ h k2 y) (k1 := k2) m2 (o4.weak fun _ z => ⟨⟨z.1, z.1.2⟩, z.2⟩) p4
      | false =>
        rw [if_neg Bool.false_ne_true]
        exact p3 _ H3 (o3.to ⟨o3.t, rfl⟩)⟩)
    exact opK_run s (T := fun h => (T h ∧ KAt X.K σ h k1 x) ∧ KAt X.K σ h k2 y) (k1 := k1) (k2 := k2) m2 (o2.weak fun _ z => ⟨⟨z, z.1.2⟩, z.2⟩) p3
end
end DL

namespace DL
open PySem PySem.Spec PyProof.Rows L2

/-! ### lists of data and lists of values -/
section
variable {K : PySem.W.Frag} {H Hm : Hp}
theorem RpL.len : ∀ {ds : List D} {xs : List V}, RpL K H ds xs → xs.length = ds.length
  | [], xs, h => by rw [show xs = [] from h]; rfl
  | d :: ds, xs, ⟨y, ys, h1, _, h3⟩ => by rw [h1, List.length_cons, List.length_cons, RpL.len h3]
theorem RpL.get : ∀ {ds : List D} {xs : List V} {i : Nat} {d : D}, RpL K H ds xs → ds[i]? = some d → ∃ x, xs[i]? = some x ∧ Rp K H d x
  | [], xs, i, d, h, q => by simp at q
  | d :: ds, xs, 0, d', ⟨y, ys, h1, h2, h3⟩, q => by
    simp at q
    subst q
    exact ⟨y, by rw [h1]; rfl, h2⟩
  | d :: ds, xs, i + 1, d', ⟨y, ys, h1, h2, h3⟩, q => by
    obtain ⟨x, a, b⟩ := RpL.get (i := i) h3 (by simpa using q)
    exact ⟨x, by rw [h1]; simpa using a, b⟩
theorem RpL.append : ∀ {ds es : List D} {xs ys : List V}, RpL K H ds xs → RpL K H es ys → RpL K H (ds ++ es) (xs ++ ys)
  | [], es, xs, ys, h, k => by rw [show xs = [] from h]; exact k
  | d :: ds, es, xs, ys, ⟨y, zs, h1, h2, h3⟩, k => by rw [h1]; exact ⟨y, zs ++ ys, rfl, h2, RpL.append h3 k⟩
theorem RpL.drop : ∀ {ds : List D} {xs : List V} (n : Nat), RpL K H ds xs → RpL K H (ds.drop n) (xs.drop n)
  | _, _, 0, h => h
  | [], xs, n + 1, h => by rw [show xs = [] from h]; exact rfl
  | d :: ds, xs, n + 1, ⟨y, ys, h1, h2, h3⟩ => by rw [h1]; exact RpL.drop n h3
theorem RpL.take : ∀ {ds : List D} {xs : List V} (n : Nat), RpL K H ds xs → RpL K H (ds.take n) (xs.take n)
  | _, _, 0, h => rfl
  | [], xs, n + 1, h => by rw [show xs = [] from h]; exact rfl
  | d :: ds, xs, n + 1, ⟨y, ys, h1, h2, h3⟩ => by rw [h1]; exact ⟨y, ys.take n, rfl, h2, RpL.take n h3⟩
theorem RpL.set : ∀ {ds : List D} {xs : List V} {d : D} {x : V} (i : Nat), RpL K H ds xs → Rp K H d x → RpL K H (ds.set i d) (xs.set i x)
  | [], xs, d, x, i, h, r => by rw [show xs = [] from h]; exact rfl
  | d :: ds, xs, d', x, 0, ⟨y, ys, h1, h2, h3⟩, r => by rw [h1]; exact ⟨x, ys, rfl, r, h3⟩
  | d :: ds, xs, d', x, i + 1, ⟨y, ys, h1, h2, h3⟩, r => by rw [h1]; exact ⟨y, ys.set i x, rfl, h2, RpL.set i h3 r⟩
theorem RpL.rep {ds : List D} {xs : List V} (h : RpL K H ds xs) : ∀ n : Nat, RpL K H (List.replicate n ds).flatten (List.replicate n xs).flatten
  | 0 => rfl
  | n + 1 => by
    rw [List.replicate_succ, List.replicate_succ, List.flatten_cons, List.flatten_cons]
    exact h.append (RpL.rep h n)
theorem RpL.one {d : D} {x : V} (r : Rp K H d x) : RpL K H [d] [x] := ⟨x, [], rfl, r, rfl⟩
end
def cutD (ds : List D) (lo hi : Option Int) : List D := (ds.drop (HT.sIx ds.length 0 lo)).take (HT.sIx ds.length ds.length hi - HT.sIx ds.length 0 lo)
theorem RpL.cut {K : PySem.W.Frag} {H : Hp} {ds : List D} {xs : List V} (h : RpL K H ds xs) (lo hi : Option Int) : RpL K H (cutD ds lo hi) (cutV xs lo hi) := by
  unfold cutD cutV
  rw [h.len]
  exact (h.drop _).take _
theorem atI_get' {K : PySem.W.Frag} {H : Hp} {ds : List D} {xs : List V} (h : RpL K H ds xs) {i : Int} {d : D} (e : atI ds i = some d) : ∃ x, atI xs i = some x ∧ Rp K H d x := by
  unfold atI at e ⊢
  rw [h.len]
  cases q : ixN ds.length i with
  | none => rw [q] at e; cases e
  | some j => rw [q] at e; exact h.get e

/-! ### flat data -/
def flatD : D → Bool
  | .non => true | .bl _ => true | .int _ => true | .str _ => true | _ => false
def toV : D → V
  | .bl b => .bl b | .int i => .int i | .str s => .str s | _ => .non
section
variable {K : PySem.W.Frag} {H Hm : Hp}
theorem toV_of {d : D} {v : V} (f : flatD d = true) (r : Rp K H d v) : v = toV d := by
  cases d with
  | non => exact r
  | bl b => exact r
  | int i => exact r
  | str s => exact r
  | lst _ => cases f
  | tup _ => cases f
  | ins _ _ => cases f
  | dic _ => cases f
  | scr _ => cases f
theorem flatV_toV {d : D} (f : flatD d = true) : flatV (toV d) = true := by
  cases d <;> first | rfl | cases f
theorem toV_all : ∀ {ds : List D} {xs : List V}, ds.all flatD = true → RpL K H ds xs → xs = ds.map toV
  | [], xs, _, h => h
  | d :: ds, xs, f, ⟨y, ys, h1, h2, h3⟩ => by
    rw [List.all_cons, Bool.and_eq_true] at f
    rw [h1, toV_of f.1 h2, toV_all f.2 h3]
    rfl
theorem flatV_all : ∀ {ds : List D}, ds.all flatD = true → (ds.map toV).all flatV = true
  | [], _ => rfl
  | d :: ds, f => by
    rw [List.all_cons, Bool.and_eq_true] at f
    rw [List.map_cons, List.all_cons, flatV_toV f.1, flatV_all f.2]
    rfl
theorem rp_flat {d : D} (f : flatD d = true) : Rp K H d (toV d) := by
  cases d <;> first | rfl | cases f
end
def inD (x : D) (ds : List D) : Bool := inV (toV x) (ds.map toV)

/-! ### plain data: what == looks at -/
mutual
def pyD : D → Option PyData
  | .non => some .none
  | .bl b => some (.bool b)
  | .int i => some (.int i)
  | .str s => some (.str s)
  | .lst ds => (pyL ds).map .list
  | .tup ds => (pyL ds).map .tuple
  | .ins _ _ => none
  | .dic _ => none
  | .scr _ => none
def pyL : List D → Option (List PyData)
  | [] => some []
  | d :: ds => match pyD d with
    | some p => (pyL ds).map (p :: ·)
    | none => none
end
mutual
theorem Rp.dp {K : PySem.W.Frag} {H : Hp} : ∀ {d : D} {v : V} {p : PyData}, pyD d = some p → Rp K H d v → Dp K H v p
  | .non, v, p, h, r => by cases h; rw [show v = .non from r]; exact .non
  | .bl b, v, p, h, r => by cases h; rw [show v = .bl b from r]; exact .bl b
  | .int i, v, p, h, r => by cases h; rw [show v = .int i from r]; exact .int i
  | .str s, v, p, h, r => by cases h; rw [show v = .str s from r]; exact .str s
  | .lst ds, v, p, h, ⟨a, xs, h1, h2, h3⟩ => by
    simp only [pyD] at h
    cases q : pyL ds with
    | none => rw [q] at h; cases h
    | some ps =>
      rw [q] at h
      cases h
      rw [h1]
      exact .lst (SqL.of h2) (RpL.dp q h3)
  | .tup ds, v, p, h, ⟨a, xs, h1, h2, h3⟩ => by
    simp only [pyD] at h
    cases q : pyL ds with
    | none => rw [q] at h; cases h
    | some ps =>
      rw [q] at h
      cases h
      rw [h1]
      exact .tup h2 (RpL.dp q h3)
  | .ins _ _, v, p, h, _ => by cases h
  | .dic _, v, p, h, _ => by cases h
  | .scr _, v, p, h, _ => by cases h
theorem RpL.dp {K : PySem.W.Frag} {H : Hp} : ∀ {ds : List D} {xs : List V} {ps : List PyData}, pyL ds = some ps → RpL K H ds xs → DpAll K H xs ps
  | [], xs, ps, h, r => by cases h; rw [show xs = [] from r]; exact .nil
  | d :: ds, xs, ps, h, ⟨y, ys, h1, h2, h3⟩ => by
    simp only [pyL] at h
    cases q : pyD d with
    | none => rw [q] at h; cases h
    | some p =>
      rw [q] at h
      simp only at h
      cases q2 : pyL ds with
      | none => rw [q2] at h; cases h
      | some ps' =>
        rw [q2] at h
        cases h
        rw [h1]
        exact .cons (Rp.dp q h2) (RpL.dp q2 h3)
end

/-! ### operators -/
abbrev big : Nat := 100000
theorem big_ok {n : Nat} (h : n ≤ big) : n ≤ sizeLine := Nat.le_trans h (by decide)
theorem big_lt {n : Nat} (h : n < big) : n < sizeLine := Nat.lt_of_lt_of_le h (by decide)
def addD : D → D → Option Out
  | .int i, .int j => some (.same (.int (i + j)))
  | .str x, .str y => if x.length + y.length ≤ big then some (.same (.str (x ++ y))) else none
  | .lst xs, .lst ys => if xs.length + ys.length ≤ big then some (.newL (xs ++ ys)) else none
  | .tup xs, .tup ys => if xs.length + ys.length ≤ big then if xs = [] then some (.same (.tup ys)) else if ys = [] then some (.same (.tup xs)) else some (.newT (xs ++ ys)) else none
  | _, _ => none
def subD : D → D → Option Out
  | .int i, .int j => some (.same (.int (i - j)))
  | _, _ => none
def mulOk (i j : Int) : Bool := decide ((-(2 ^ 64) < i ∧ i < 2 ^ 64) ∨ (-(2 ^ 64) < j ∧ j < 2 ^ 64))
def mulD : D → D → Option Out
  | .int i, .int j => if mulOk i j then some (.same (.int (i * j))) else none
  | .lst xs, .int k => if k ≤ big ∧ xs.length * k.toNat ≤ big ∧ 0 ≤ k then some (.newL (List.replicate k.toNat xs).flatten) else none
  | _, _ => none
def modD : D → D → Option Out
  | .int i, .int j => if 0 < j then some (.same (.int (i % j))) else none
  | _, _ => none
def fdivD : D → D → Option Out
  | .int i, .int j => if 0 < j ∧ j < 2 ^ 8000 then some (.same (.int (i / j))) else none
  | _, _ => none
def powD : D → D → Option Out
  | .int i, .int j => if 0 ≤ j ∧ j ≤ 1000 ∧ -(2 ^ 63) < i ∧ i < 2 ^ 63 then some (.same (.int (i ^ j.toNat))) else none
  | _, _ => none
def ltD : D → D → Option Out
  | .int i, .int j => some (.same (.bl (decide (i < j))))
  | _, _ => none
def leD : D → D → Option Out
  | .int i, .int j => some (.same (.bl (decide (i ≤ j))))
  | _, _ => none
def gtD : D → D → Option Out
  | .int i, .int j => some (.same (.bl (decide (j < i))))
  | _, _ => none
def geD : D → D → Option Out
  | .int i, .int j => some (.same (.bl (decide (j ≤ i))))
  | _, _ => none
def eqB (d e : D) : Option Bool := match pyD d with
  | some p => match pyD e with
    | some q => if SeqAt.shaped p && SeqAt.shaped q then some (PyData.eqv p q) else none
    | none => none
  | none => none
def eqD (d e : D) : Option Out := (eqB d e).map fun b => .same (.bl b)
def neD (d e : D) : Option Out := (eqB d e).map fun b => .same (.bl !b)
def isNonB : D → Bool
  | .non => true | _ => false
def isND : D → D → Option Out
  | d, .non => some (.same (.bl (isNonB d)))
  | _, _ => none
def notND : D → D → Option Out
  | d, .non => some (.same (.bl (!isNonB d)))
  | _, _ => none
def isBD : D → D → Option Out
  | .bl a, .bl b => some (.same (.bl (decide (a = b))))
  | _, _ => none
def notBD : D → D → Option Out
  | .bl a, .bl b => some (.same (.bl (!decide (a = b))))
  | _, _ => none
def itemsD : D → Option (List D)
  | .lst ds => some ds
  | .tup ds => some ds
  | _ => none
def inSD (x y : D) : Option Out := match itemsD y with
  | some ds => if flatD x && ds.all flatD then some (.same (.bl (inD x ds))) else none
  | none => none
def notInSD (x y : D) : Option Out := match itemsD y with
  | some ds => if flatD x && ds.all flatD then some (.same (.bl (!inD x ds))) else none
  | none => none
def ixD (x i : D) : Option Out := match i with
  | .int i => match itemsD x with
    | some ds => (atI ds i).map .same
    | none => none
  | _ => none
end DL

namespace DL
open PySem PySem.Spec PyProof.Rows L2
section
variable {K : PySem.W.Frag} {Hm H : Hp}
theorem top_lst {ds : List D} {v : V} (h : RpTop K Hm H (.lst ds) v) : ∃ a xs, v = .ref a ∧ H a = some (.lst xs) ∧ RpL K Hm ds xs := h
theorem items_of {x : D} {ds : List D} {v : V} (e : itemsD x = some ds) (sm : Same Hm H) (h : RpTop K Hm H x v) : ∃ a xs, v = .ref a ∧ (SqL K H a xs ∨ SqT K H a xs) ∧ RpL K Hm ds xs := by
  cases x with
  | lst ds' =>
    cases e
    obtain ⟨a, xs, h1, h2, h3⟩ := h
    exact ⟨a, xs, h1, .inl (SqL.of h2), h3⟩
  | tup ds' =>
    cases e
    obtain ⟨a, xs, h1, h2, h3⟩ := h
    exact ⟨a, xs, h1, .inr (SqT.mono sm h2), h3⟩
  | non => cases e
  | bl _ => cases e
  | int _ => cases e
  | str _ => cases e
  | ins _ _ => cases e
  | dic _ => cases e
  | scr _ => cases e
end
section
variable {X : Cx}
def rAddA (K : PySem.W.Frag) : R2 := fun x y H Q => (rI0 fun i j => .int (i + j)) x y H Q ∨ (∃ i j, x = .str i ∧ y = .str j ∧ i.length + j.length ≤ sizeLine ∧ Q (.str (i ++ j)) H) ∨ rCat x y H Q ∨ rCatA K x y H Q
theorem op_addA : OpR X (binaryOp .Add) (rAddA X.K) := op_add.or (op_add_str.or (op_cat.or op_catA))
theorem snd_add {K : PySem.W.Frag} : SndOp K (rAddA K) addD := by
  intro Hm H x y d e Q out sm rd re hg post
  unfold addD at hg
  split at hg
  · cases hg
    exact .inl ⟨_, _, rd, re, post _ rfl⟩
  · split at hg
    · cases hg
      exact .inr (.inl ⟨_, _, rd, re, big_ok ‹_›, post _ rfl⟩)
    · cases hg
  · rename_i xs ys
    split at hg
    · cases hg
      obtain ⟨a, us, h1, h2, h3⟩ := rd
      obtain ⟨b, ws, k1, k2, k3⟩ := re
      have l1 := h3.len
      have l2 := k3.len
      refine .inr (.inr (.inl ⟨a, b, us, ws, h1, k1, h2, k2, big_ok (by omega), fun p hp => post p _ hp (h3.append k3)⟩))
    · cases hg
  · rename_i xs ys
    obtain ⟨a, us, h1, h2, h3⟩ := rd
    obtain ⟨b, ws, k1, k2, k3⟩ := re
    have l1 := h3.len
    have l2 := k3.len
    have nx : ∀ {α β : Type} {l : List α} {k : List β}, l.length = k.length → (l = [] ↔ k = []) := fun {α β l k} e => by
      rw [← List.length_eq_zero_iff, ← List.length_eq_zero_iff, e]
    subst h1; subst k1
    split at hg
    · rename_i hc
      by_cases hx : xs = []
      · rw [if_pos hx] at hg
        cases hg
        exact .inr (.inr (.inr ⟨a, b, us, ws, rfl, rfl, SqT.mono sm h2, SqT.mono sm k2, big_ok (by omega), fun _ => post _ ⟨b, ws, rfl, k2, k3⟩, fun z => absurd ((nx l1).mpr hx) z, fun z => absurd ((nx l1).mpr hx) z⟩))
      · rw [if_neg hx] at hg
        by_cases hy : ys = []
        · rw [if_pos hy] at hg
          cases hg
          exact .inr (.inr (.inr ⟨a, b, us, ws, rfl, rfl, SqT.mono sm h2, SqT.mono sm k2, big_ok (by omega), fun z => absurd ((nx l1).mp z) hx, fun _ _ => post _ ⟨a, us, rfl, h2, h3⟩, fun _ z => absurd ((nx l2).mpr hy) z⟩))
        · rw [if_neg hy] at hg
          cases hg
          exact .inr (.inr (.inr ⟨a, b, us, ws, rfl, rfl, SqT.mono sm h2, SqT.mono sm k2, big_ok (by omega), fun z => absurd ((nx l1).mp z) hx, fun _ z => absurd ((nx l2).mp z) hy, fun _ _ p hp => post p _ hp (h3.append k3)⟩))
    · cases hg
  · cases hg
theorem snd_sub {K : PySem.W.Frag} : SndOp K (rI0 fun i j => .int (i - j)) subD := by
  intro Hm H x y d e Q out sm rd re hg post
  unfold subD at hg
  split at hg
  · cases hg
    exact ⟨_, _, rd, re, post _ rfl⟩
  · cases hg
def rMulA : R2 := fun x y H Q => (rI CMul fun i j => .int (i * j)) x y H Q ∨ rRep x y H Q
theorem op_mulA : OpR X (binaryOp .Mult) rMulA := op_mul.or op_rep
theorem snd_mul {K : PySem.W.Frag} : SndOp K rMulA mulD := by
  intro Hm H x y d e Q out sm rd re hg post
  unfold mulD at hg
  split at hg
  · split at hg
    · rename_i i j hc
      cases hg
      exact .inl ⟨i, j, rd, re, (show (-(2 ^ 64) < i ∧ i < 2 ^ 64) ∨ (-(2 ^ 64) < j ∧ j < 2 ^ 64) from of_decide_eq_true hc), post _ rfl⟩
    · cases hg
  · split at hg
    · rename_i xs k hc
      cases hg
      obtain ⟨a, us, h1, h2, h3⟩ := rd
      have l1 := h3.len
      refine .inr ⟨a, k, us, h1, re, h2, by omega, ?_, big_ok (by rw [l1]; exact hc.2.1), fun p hp => post p _ hp (h3.rep _)⟩
      have := hc.1
      show k < 2 ^ 63
      have h9 : ((big : Nat) : Int) = 100000 := rfl
      omega
    · cases hg
  · cases hg
theorem snd_mod {K : PySem.W.Frag} : SndOp K (rI (fun _ j => 0 < j) fun i j => .int (i % j)) modD := by
  intro Hm H x y d e Q out sm rd re hg post
  unfold modD at hg
  split at hg
  · split at hg
    · cases hg
      exact ⟨_, _, rd, re, ‹_›, post _ rfl⟩
    · cases hg
  · cases hg
theorem snd_fdiv {K : PySem.W.Frag} : SndOp K (rI CDivW fun i j => .int (i / j)) fdivD := by
  intro Hm H x y d e Q out sm rd re hg post
  unfold fdivD at hg
  split at hg
  · split at hg
    · rename_i i j hc
      cases hg
      exact ⟨i, j, rd, re, wide_div (b := 8000) hc.1 (by have := hc.2; have h0 := hc.1; omega) (by decide) (by decide), post _ rfl⟩
    · cases hg
  · cases hg
theorem snd_pow {K : PySem.W.Frag} : SndOp K (rI CPow fun i j => .int (i ^ j.toNat)) powD := by
  intro Hm H x y d e Q out sm rd re hg post
  unfold powD at hg
  split at hg
  · split at hg
    · rename_i i j hc
      cases hg
      refine ⟨i, j, rd, re, ⟨hc.1, by omega, ?_⟩, post _ rfl⟩
      have h1 := hc.2.2.1
      have h2 := hc.2.2.2
      omega
    · cases hg
  · cases hg
theorem snd_lt {K : PySem.W.Frag} : SndOp K (rI0 fun i j => .bl (decide (i < j))) ltD := by
  intro Hm H x y d e Q out sm rd re hg post
  unfold ltD at hg
  split at hg
  · cases hg
    exact ⟨_, _, rd, re, post _ rfl⟩
  · cases hg
theorem snd_le {K : PySem.W.Frag} : SndOp K (rI0 fun i j => .bl (decide (i ≤ j))) leD := by
  intro Hm H x y d e Q out sm rd re hg post
  unfold leD at hg
  split at hg
  · cases hg
    exact ⟨_, _, rd, re, post _ rfl⟩
  · cases hg
theorem snd_gt {K : PySem.W.Frag} : SndOp K (rI0 fun i j => .bl (decide (j < i))) gtD := by
  intro Hm H x y d e Q out sm rd re hg post
  unfold gtD at hg
  split at hg
  · cases hg
    exact ⟨_, _, rd, re, post _ rfl⟩
  · cases hg
theorem snd_ge {K : PySem.W.Frag} : SndOp K (rI0 fun i j => .bl (decide (j ≤ i))) geD := by
  intro Hm H x y d e Q out sm rd re hg post
  unfold geD at hg
  split at hg
  · cases hg
    exact ⟨_, _, rd, re, post _ rfl⟩
  · cases hg
theorem eqB_some {d e : D} {b : Bool} (h : eqB d e = some b) : ∃ p q, pyD d = some p ∧ pyD e = some q ∧ SeqAt.shaped p = true ∧ SeqAt.shaped q = true ∧ PyData.eqv p q = b := by
  unfold eqB at h
  cases e1 : pyD d with
  | none => rw [e1] at h; cases h
  | some p =>
    cases e2 : pyD e with
    | none => rw [e1, e2] at h; cases h
    | some q =>
      rw [e1, e2] at h
      simp only at h
      split at h
      · rename_i hc
        cases h
        rw [Bool.and_eq_true] at hc
        exact ⟨p, q, rfl, rfl, hc.1, hc.2, rfl⟩
      · cases h
theorem snd_eq {K : PySem.W.Frag} : SndOp K (rEqD K) eqD := by
  intro Hm H x y d e Q out sm rd re hg post
  unfold eqD at hg
  cases q : eqB d e with
  | none => rw [q] at hg; cases hg
  | some b =>
    rw [q] at hg
    cases hg
    obtain ⟨p, q, e1, e2, s1, s2, e3⟩ := eqB_some q
    exact ⟨p, q, Rp.dp e1 (rd.full sm), Rp.dp e2 (re.full sm), s1, s2, by rw [e3]; exact post _ rfl⟩
theorem snd_ne {K : PySem.W.Frag} : SndOp K (rNeD K) neD := by
  intro Hm H x y d e Q out sm rd re hg post
  unfold neD at hg
  cases q : eqB d e with
  | none => rw [q] at hg; cases hg
  | some b =>
    rw [q] at hg
    cases hg
    obtain ⟨p, q, e1, e2, s1, s2, e3⟩ := eqB_some q
    exact ⟨p, q, Rp.dp e1 (rd.full sm), Rp.dp e2 (re.full sm), s1, s2, by rw [e3]; exact post _ rfl⟩
theorem isNon_of {K : PySem.W.Frag} {H : Hp} {d : D} {v : V} (r : Rp K H d v) : decide (v = .non) = isNonB d := by
  cases d with
  | non => rw [show v = .non from r]; rfl
  | bl b => rw [show v = .bl b from r]; rfl
  | int b => rw [show v = .int b from r]; rfl
  | str b => rw [show v = .str b from r]; rfl
  | lst ds => obtain ⟨a, xs, h1, _⟩ := r; rw [h1]; rfl
  | tup ds => obtain ⟨a, xs, h1, _⟩ := r; rw [h1]; rfl
  | ins C fs => obtain ⟨a, dx, vs, h1, _⟩ := r; rw [h1]; rfl
  | dic kvs => obtain ⟨a, vs, h1, _⟩ := r; rw [h1]; rfl
  | scr ns => obtain ⟨a, h1, _⟩ := r; rw [h1]; rfl
theorem snd_isN {K : PySem.W.Frag} : SndOp K (fun x y H Q => y = .non ∧ Q (.bl (decide (x = .non))) H) isND := by
  intro Hm H x y d e Q out sm rd re hg post
  unfold isND at hg
  split at hg
  · cases hg
    exact ⟨re, by rw [isNon_of (rd.full sm)]; exact post _ rfl⟩
  · cases hg
theorem snd_notN {K : PySem.W.Frag} : SndOp K (fun x y H Q => y = .non ∧ Q (.bl (!decide (x = .non))) H) notND := by
  intro Hm H x y d e Q out sm rd re hg post
  unfold notND at hg
  split at hg
  · cases hg
    exact ⟨re, by rw [isNon_of (rd.full sm)]; exact post _ rfl⟩
  · cases hg
theorem snd_isB {K : PySem.W.Frag} : SndOp K rIsB isBD := by
  intro Hm H x y d e Q out sm rd re hg post
  unfold isBD at hg
  split at hg
  · cases hg
    exact ⟨_, _, rd, re, post _ rfl⟩
  · cases hg
theorem snd_notB {K : PySem.W.Frag} : SndOp K rNotB notBD := by
  intro Hm H x y d e Q out sm rd re hg post
  unfold notBD at hg
  split at hg
  · cases hg
    exact ⟨_, _, rd, re, post _ rfl⟩
  · cases hg
theorem snd_in {K : PySem.W.Frag} : SndOp K (rIn K false) inSD := by
  intro Hm H x y d e Q out sm rd re hg post
  unfold inSD at hg
  split at hg
  · rename_i ds q
    split at hg
    · rename_i hc
      cases hg
      rw [Bool.and_eq_true] at hc
      obtain ⟨a, xs, h1, h2, h3⟩ := items_of q sm re
      refine ⟨a, xs, h1, h2, ?_, ?_, ?_⟩
      · rw [toV_of hc.1 (rd.full sm)]; exact flatV_toV hc.1
      · rw [toV_all hc.2 h3]; exact flatV_all hc.2
      · rw [toV_of hc.1 (rd.full sm), toV_all hc.2 h3]; exact post _ rfl
    · cases hg
  · cases hg
theorem snd_notIn {K : PySem.W.Frag} : SndOp K (rIn K true) notInSD := by
  intro Hm H x y d e Q out sm rd re hg post
  unfold notInSD at hg
  split at hg
  · rename_i ds q
    split at hg
    · rename_i hc
      cases hg
      rw [Bool.and_eq_true] at hc
      obtain ⟨a, xs, h1, h2, h3⟩ := items_of q sm re
      refine ⟨a, xs, h1, h2, ?_, ?_, ?_⟩
      · rw [toV_of hc.1 (rd.full sm)]; exact flatV_toV hc.1
      · rw [toV_all hc.2 h3]; exact flatV_all hc.2
      · rw [toV_of hc.1 (rd.full sm), toV_all hc.2 h3]; exact post _ rfl
    · cases hg
  · cases hg
theorem ixA : IxR X (fun x y H Q => rIxL X.K x y H Q ∨ rIxT X.K x y H Q) := ix_list.or ix_tup
theorem snd_ix {K : PySem.W.Frag} : SndOp K (fun x y H Q => rIxL K x y H Q ∨ rIxT K x y H Q) ixD := by
  intro Hm H x y d e Q out sm rd re hg post
  unfold ixD at hg
  split at hg
  · rename_i i
    split at hg
    · rename_i ds q
      obtain ⟨a, xs, h1, h2, h3⟩ := items_of q sm rd
      cases q2 : atI ds i with
      | none => rw [q2] at hg; cases hg
      | some z =>
        rw [q2] at hg
        cases hg
        obtain ⟨v, e1, r⟩ := atI_get' h3 q2
        rcases h2 with h2 | h2
        · exact .inl ⟨a, xs, i, v, h1, re, h2, e1, post v r⟩
        · exact .inr ⟨a, xs, i, v, h1, re, h2, e1, post v r⟩
    · cases hg
  · cases hg
end
end DL

namespace DL
open PySem PySem.Spec PyProof.Rows L2
section
variable {X : Cx} {F : Fr} {E : XK} {e a b c : Expr} {es : List Expr} {pos p2 : Pos} {G Ga Gb : List Ent → R Kd} {GA : List Ent → R (List Kd)}
theorem je_ix (ha : PE X a (tE X.K F E Ga)) (hb : PE X b (tE X.K F E Gb)) (hs : PlainIx b := by exact fun _ _ => rfl) : PE X (.Subscript a b pos) (tE X.K F E (binR ixD Ga Gb)) :=
  peI (pe_ix ixA (je_fz ha) (je_fz hb) hs) fun _ _ _ h => tOp_of snd_ix h
theorem rpl_ints {K : PySem.W.Frag} {H : Hp} : ∀ ns : List Int, RpL K H (ns.map .int) (ns.map V.int)
  | [] => rfl
  | n :: ns => ⟨_, _, rfl, rfl, rpl_ints ns⟩
/-! ### slices -/
def partN : List Ent → R (Option Int) := fun ρ => .ok none ρ
def partS (G : List Ent → R Kd) (ρ : List Ent) : R (Option Int) := match G ρ with
  | .ok (.va (.int i)) ρ' => .ok (some i) ρ'
  | .ex x ρ' => .ex x ρ'
  | _ => .bad
def slD (lo hi : Option Int) : D → Option Out
  | .lst ds => some (.newL (cutD ds lo hi))
  | .scr ns => some (.newL (cutD (ns.map .int) lo hi))
  | .tup ds => if HT.sIx ds.length 0 lo = 0 ∧ HT.sIx ds.length ds.length hi = ds.length then some (.same (.tup ds)) else some (.newT (cutD ds lo hi))
  | _ => none
def sliceR (G : List Ent → R Kd) (A B : List Ent → R (Option Int)) (ρ : List Ent) : R Kd := (fz (G ρ)).bind fun k ρ1 => (A ρ1).bind fun lo ρ2 => (B ρ2).bind fun hi ρ3 => match cont ρ3 k with
  | some d => outO (slD lo hi d) ρ3
  | none => .bad
def PostO (K : PySem.W.Frag) (F : Fr) (E : XK) (T : HT) (σ : L2.St) (Q : Option Int → Hp → Prop) : R (Option Int) → Prop
  | .ok b ρ => ∀ H', Ok K F T H' σ ρ → Q b H'
  | .ex x ρ => PostX K F E T σ x ρ
  | .bad => False
def tO (K : PySem.W.Frag) (F : Fr) (E : XK) (G : List Ent → R (Option Int)) : TO := fun σ H Q => ∃ ρ T, Mono T ∧ Ok K F T H σ ρ ∧ PostO K F E T σ Q (G ρ)
theorem poI {e : Option Expr} {t t' : TO} (h : PO X e t) (w : ∀ σ H Q, t' σ H Q → t σ H Q) : PO X e t' := ⟨fun pins s σ H Q I q => h.run pins s σ H Q I (w σ H Q q)⟩
theorem jo_none : PO X none (tO X.K F E partN) := poI po_none fun σ H Q ⟨ρ, T, m, o, p⟩ => p H o
theorem jo_some (h : PE X e (tE X.K F E G)) : PO X (some e) (tO X.K F E (partS G)) := poI (po_some h) fun σ H Q ⟨ρ, T, m, o, p⟩ => by
  refine ⟨ρ, T, m, o, ?_⟩
  unfold partS at p
  split at p
  · rename_i i ρ' q
    rw [q]
    exact fun v H' o' => ⟨i, o'.t.2, p H' (o'.weak fun _ z => z.1)⟩
  · rename_i x ρ' q
    rw [q]
    exact p
  · exact p.elim
theorem bdO {β : Type} {K : PySem.W.Frag} {σ : L2.St} {T : HT} {H : Hp} {ρ : List Ent} {P : HT → R β → Prop} (pf : PF K F E σ P) {G : List Ent → R (Option Int)} {f : Option Int → List Ent → R β} (m : Mono T) (o : Ok K F T H σ ρ) (p : P T ((G ρ).bind f))
    {Q2 : Option Int → Hp → Prop} (c : ∀ b H1 ρ1, Ok K F T H1 σ ρ1 → P T (f b ρ1) → Q2 b H1) : tO K F E G σ H Q2 := by
  refine ⟨ρ, T, m, o, ?_⟩
  cases hg : G ρ with
  | ok k ρ' => rw [hg] at p; exact fun H' o' => c _ _ ρ' o' p
  | ex x ρ' => rw [hg] at p; exact pf.px _ _ _ p
  | bad => rw [hg] at p; exact (pf.pb _ p).elim
theorem sl_A : SlR X (fun x lo hi H Q => rSlL X.K x lo hi H Q ∨ rSlA X.K x lo hi H Q) := sl_list.or sl_tupA
theorem je_slice {lo hi : Option Expr} {A B : List Ent → R (Option Int)} (h : PE X e (tE X.K F E G)) (hl : PO X lo (tO X.K F E A)) (hh : PO X hi (tO X.K F E B)) : PE X (.Subscript e (.Slice lo hi none p2) pos) (tE X.K F E (sliceR G A B)) :=
  peI (pe_slice sl_A (je_fz h) hl hh) fun σ H Q ⟨ρ, T, m, o, p⟩ => by
    refine bdE (pf_E Q) m o p fun x H1 k ρ1 o1 p1 => ?_
    have m1 : Mono fun h => T h ∧ KAt X.K σ h k x := m.and mono_kat
    refine bdO (T := fun h => T h ∧ KAt X.K σ h k x) (pf_E Q) m1 o1 ((pf_E Q).pw _ _ _ (fun _ z => z.1) p1) fun lo' H2 ρ2 o2 p2 => ?_
    refine bdO (pf_E Q) m1 o2 p2 fun hi' H3 ρ3 o3 p3 => ?_
    have p3 : PostE X.K F E (fun h => T h ∧ KAt X.K σ h k x) σ Q (match cont ρ3 k with
      | some d => outO (slD lo' hi' d) ρ3
      | none => .bad) := p3
    cases q : cont ρ3 k with
    | none => rw [q] at p3; exact p3.elim
    | some d =>
      rw [q] at p3
      have r := kat_top (T := T) o3 q
      cases d with
      | lst ds =>
        obtain ⟨a, xs, h1, h2, h3⟩ := r
        exact .inl ⟨a, xs, h1, SqL.of h2, fun p hp => outP_of (out := .newL (cutD ds lo' hi')) m1 o3 p3 p _ hp (h3.cut _ _)⟩
      | tup ds =>
        obtain ⟨a, xs, h1, h2, h3⟩ := id r
        have p3 : PostE X.K F E (fun h => T h ∧ KAt X.K σ h k x) σ Q (outO (if HT.sIx ds.length 0 lo' = 0 ∧ HT.sIx ds.length ds.length hi' = ds.length then some (.same (.tup ds)) else some (.newT (cutD ds lo' hi'))) ρ3) := p3
        have hl := h3.len
        refine .inr ⟨a, xs, h1, SqT.mono wo_le h2, fun hw => ?_, fun hw p hp => ?_⟩
        · rw [hl] at hw
          rw [if_pos hw] at p3
          exact outP_of (out := .same (.tup ds)) m1 o3 p3 _ (by rw [← h1]; exact r)
        · rw [hl] at hw
          rw [if_neg hw] at p3
          exact outP_of (out := .newT (cutD ds lo' hi')) m1 o3 p3 p _ hp (h3.cut _ _)
      | non => exact p3.elim
      | bl _ => exact p3.elim
      | int _ => exact p3.elim
      | str _ => exact p3.elim
      | ins _ _ => exact p3.elim
      | dic _ => exact p3.elim
      | scr ns =>
        obtain ⟨a, h1, h2⟩ := id r
        exact .inl ⟨a, _, h1, wo_le.seq h2, fun p hp => outP_of (out := .newL (cutD (ns.map .int) lo' hi')) m1 o3 p3 p _ hp (RpL.cut (rpl_ints ns) _ _)⟩
/-! ### arguments -/
def consR (G : List Ent → R Kd) (GA : List Ent → R (List Kd)) (ρ : List Ent) : R (List Kd) := (fz (G ρ)).bind fun k ρ1 => (GA ρ1).bind fun ks ρ2 => .ok (k :: ks) ρ2
def consV (G : List Ent → R Kd) (GA : List Ent → R (List Kd)) (ρ : List Ent) : R (List Kd) := (toVa (G ρ)).bind fun k ρ1 => (GA ρ1).bind fun ks ρ2 => .ok (k :: ks) ρ2
theorem ja_nil : PA X [] (tA X.K F E fun ρ => .ok [] ρ) := paI pa_nil fun σ H Q ⟨ρ, T, m, o, p⟩ => p [] H (o.to ⟨o.t, rfl⟩)
theorem ja_cons (h : PE X e (tE X.K F E G)) (hr : PA X es (tA X.K F E GA)) (hs : starEach (e :: es) X.env = (false, eval e X.env) :: starEach es X.env := by rfl) : PA X (e :: es) (tA X.K F E (consR G GA)) :=
  paI (pa_cons (je_fz h) hr hs) fun σ H Q ⟨ρ, T, m, o, p⟩ => by
    refine bdE (pf_A Q) m o p fun x H1 k ρ1 o1 p1 => ?_
    refine bdA (T := fun h => T h ∧ KAt X.K σ h k x) (pf_A Q) (m.and mono_kat) o1 ((pf_A Q).pw _ _ _ (fun _ z => z.1) p1) fun xs H2 ks ρ2 o2 p2 => ?_
    exact p2 _ H2 (o2.weak fun _ z => ⟨z.1, x, xs, rfl, z.1.2, z.2⟩)
theorem ja_consV (h : PE X e (tE X.K F E G)) (hr : PA X es (tA X.K F E GA)) (hs : starEach (e :: es) X.env = (false, eval e X.env) :: starEach es X.env := by rfl) : PA X (e :: es) (tA X.K F E (consV G GA)) :=
  paI (pa_cons (je_toVa h) hr hs) fun σ H Q ⟨ρ, T, m, o, p⟩ => by
    refine bdV (pf_A Q) m o p fun x H1 d ρ1 o1 p1 => ?_
    refine bdA (T := fun h => T h ∧ Rp X.K h d x) (pf_A Q) (m.and mono_rp) o1 ((pf_A Q).pw _ _ _ (fun _ z => z.1) p1) fun xs H2 ks ρ2 o2 p2 => ?_
    exact p2 _ H2 (o2.weak fun _ z => ⟨z.1, x, xs, rfl, z.1.2, z.2⟩)
/-- all of them shared data -/
def vas : List Kd → Option (List D)
  | [] => some []
  | .va d :: ks => (vas ks).map (d :: ·)
  | _ :: _ => none
theorem vas_rp {K : PySem.W.Frag} {σ : L2.St} {H : Hp} : ∀ {ks : List Kd} {ds : List D} {vs : List V}, vas ks = some ds → KAts K σ H ks vs → RpL K H ds vs
  | [], ds, vs, h, r => by cases h; exact r
  | .va d :: ks, ds, vs, h, ⟨y, ys, h1, h2, h3⟩ => by
    simp only [vas] at h
    cases q : vas ks with
    | none => rw [q] at h; cases h
    | some ds' =>
      rw [q] at h
      cases h
      exact ⟨y, ys, h1, h2, vas_rp q h3⟩
  | .ow d :: ks, ds, vs, h, _ => by cases h
  | .al i :: ks, ds, vs, h, _ => by cases h
def conts (ρ : List Ent) : List Kd → Option (List D)
  | [] => some []
  | k :: ks => match cont ρ k with
    | some d => (conts ρ ks).map (d :: ·)
    | none => none
def RpTops (K : PySem.W.Frag) (Hm H : Hp) : List D → List V → Prop
  | [], vs => vs = []
  | d :: ds, vs => ∃ y ys, vs = y :: ys ∧ RpTop K Hm H d y ∧ RpTops K Hm H ds ys
theorem kats_top {K : PySem.W.Frag} {σ : L2.St} {T : HT} {H : Hp} {ρ : List Ent} (m : Mono T) : ∀ {ks : List Kd} {vs : List V} {ds : List D}, Ok K F (fun h => T h ∧ KAts K σ h ks vs) H σ ρ → conts ρ ks = some ds → RpTops K (wo H (Ms F σ ρ)) H ds vs
  | [], vs, ds, o, c => by cases c; exact o.t.2
  | k :: ks, vs, ds, o, c => by
    obtain ⟨y, ys, h1, h2, h3⟩ := o.t.2
    simp only [conts] at c
    cases q : cont ρ k with
    | none => rw [q] at c; cases c
    | some d =>
      rw [q] at c
      simp only at c
      cases q2 : conts ρ ks with
      | none => rw [q2] at c; cases c
      | some ds' =>
        rw [q2] at c
        cases c
        exact ⟨y, ys, h1, kat_top (T := T) (o.to ⟨o.t.1, h2⟩) q, kats_top m (ks := ks) (o.to ⟨o.t.1, h3⟩) q2⟩
/-! ### displays -/
def listR (GA : List Ent → R (List Kd)) (ρ : List Ent) : R Kd := (GA ρ).bind fun ks ρ1 => match vas ks with
  | some ds => if ds.length ≤ big then outR (.newL ds) ρ1 else .bad
  | none => .bad
def tupR (GA : List Ent → R (List Kd)) (ρ : List Ent) : R Kd := (GA ρ).bind fun ks ρ1 => match vas ks with
  | some ds => if ds.length ≤ big then outR (.newT ds) ρ1 else .bad
  | none => .bad
theorem je_list (h : PA X es (tA X.K F E GA)) : PE X (.List es pos) (tE X.K F E (listR GA)) := peI (pe_lst h) fun σ H Q ⟨ρ, T, m, o, p⟩ => by
  refine bdA (pf_E Q) m o p fun vs H1 ks ρ1 o1 p1 => ?_
  split at p1
  · rename_i ds q
    split at p1
    · rename_i hz
      have r := vas_rp q o1.t.2
      exact ⟨big_ok (by rw [r.len]; exact hz), fun p hp => outP_of (out := .newL ds) m (o1.weak fun _ z => z.1) p1 p _ hp r⟩
    · exact p1.elim
  · exact p1.elim
theorem je_tup (h : PA X es (tA X.K F E GA)) {x1} : PE X (.Tuple es x1 pos) (tE X.K F E (tupR GA)) := peI (pe_tup h) fun σ H Q ⟨ρ, T, m, o, p⟩ => by
  refine bdA (pf_E Q) m o p fun vs H1 ks ρ1 o1 p1 => ?_
  split at p1
  · rename_i ds q
    split at p1
    · rename_i hz
      have r := vas_rp q o1.t.2
      exact ⟨big_ok (by rw [r.len]; exact hz), fun p hp => outP_of (out := .newT ds) m (o1.weak fun _ z => z.1) p1 p _ hp r⟩
    · exact p1.elim
  · exact p1.elim
/-! ### built-ins by values -/
def SndC (K : PySem.W.Frag) (r : List V → Hp → VK → Prop) (g : List D → Option Out) : Prop := ∀ (Hm H : Hp) (xs : List V) (ds : List D) (Q : VK) (out : Out), Same Hm H → RpTops K Hm H ds xs → g ds = some out → OutP K Hm H Q out → r xs H Q
def callR (g : List D → Option Out) (GA : List Ent → R (List Kd)) (ρ : List Ent) : R Kd := (GA ρ).bind fun ks ρ1 => match conts ρ1 ks with
  | some ds => outO (g ds) ρ1
  | none => .bad
theorem tCB_of {r : List V → Hp → VK → Prop} {g : List D → Option Out} {K : PySem.W.Frag} {σ : L2.St} {H : Hp} {Q : VK} (s : SndC K r g) (h : tE K F E (callR g GA) σ H Q) : tCB r (tA K F E GA) σ H Q := by
  obtain ⟨ρ, T, m, o, p⟩ := h
  refine bdA (pf_E Q) m o p fun vs H1 ks ρ1 o1 p1 => ?_
  split at p1
  · rename_i ds q
    cases hg : g ds with
    | none => rw [hg] at p1; exact p1.elim
    | some out =>
      rw [hg] at p1
      exact s _ _ _ _ _ _ wo_le (kats_top m o1 q) hg (outP_of m (o1.weak fun _ z => z.1) p1)
  · exact p1.elim
theorem je_callB {x : Str} {p : Pos} {id : String} {r : List V → Hp → VK → Prop} {g : List D → Option Out} (hc : CallR X (.builtin id) r) (s : SndC X.K r g) (hg : Gl X x) (hm : X.mg x = none) (hv : bootBuiltins x = some (.builtin id)) (ha : PA X (e :: es) (tA X.K F E GA)) (hn : x ≠ "__name__" := by decide)
    (hdb : (x == ("__debug__" : Str)) = false := by decide) (he : starEach (e :: es) X.env = (false, eval e X.env) :: starEach es X.env := by rfl) (hpl : (backTo pos (starEach es X.env)).any (·.1) = false := by rfl) : PE X (.Call (.Name x p) (e :: es) [] pos) (tE X.K F E (callR g GA)) :=
  peI (pe_callB hc hg hm hv ha hn hdb he hpl) fun _ _ _ h => tCB_of s h
theorem je_callTy {x : Str} {p : Pos} {id : String} {r : List V → Hp → VK → Prop} {g : List D → Option Out} (hc : CallR X (.type id) r) (s : SndC X.K r g) (hg : Gl X x) (hm : X.mg x = none) (hv : bootBuiltins x = some (.type id)) (ha : PA X (e :: es) (tA X.K F E GA)) (hn : x ≠ "__name__" := by decide)
    (hdb : (x == ("__debug__" : Str)) = false := by decide) (he : starEach (e :: es) X.env = (false, eval e X.env) :: starEach es X.env := by rfl) (hpl : (backTo pos (starEach es X.env)).any (·.1) = false := by rfl) : PE X (.Call (.Name x p) (e :: es) [] pos) (tE X.K F E (callR g GA)) :=
  peI (pe_callTy hc hg hm hv ha hn hdb he hpl) fun _ _ _ h => tCB_of s h
end
/-! ### the built-ins -/
section
variable {X : Cx} {K : PySem.W.Frag}
def lenD : List D → Option Out
  | [x] => (itemsD x).map fun ds => .same (.int (ds.length : Int))
  | _ => none
theorem snd_len : SndC K (fun xs H Q => ∃ p ys, xs = [.ref p] ∧ (SqL K H p ys ∨ SqT K H p ys) ∧ Q (.int ys.length) H) lenD := by
  intro Hm H xs ds Q out sm r hg post
  unfold lenD at hg
  split at hg
  · rename_i x
    cases q : itemsD x with
    | none => rw [q] at hg; cases hg
    | some ds =>
      rw [q] at hg
      cases hg
      obtain ⟨y, ys, h1, h2, h3⟩ := r
      obtain ⟨a, us, e1, e2, e3⟩ := items_of q sm h2
      refine ⟨a, us, ?_, e2, by rw [e3.len]; exact post _ rfl⟩
      rw [h1, show ys = [] from h3, e1]
  · cases hg
def listD : List D → Option Out
  | [x] => (itemsD x).map .newL
  | _ => none
theorem snd_list : SndC K (fun xs H Q => ∃ p ys, xs = [.ref p] ∧ (SqL K H p ys ∨ SqT K H p ys) ∧ ∀ l, H l = none → Q (.ref l) (upd H l (.lst ys))) listD := by
  intro Hm H xs ds Q out sm r hg post
  unfold listD at hg
  split at hg
  · rename_i x
    cases q : itemsD x with
    | none => rw [q] at hg; cases hg
    | some ds =>
      rw [q] at hg
      cases hg
      obtain ⟨y, ys, h1, h2, h3⟩ := r
      obtain ⟨a, us, e1, e2, e3⟩ := items_of q sm h2
      exact ⟨a, us, by rw [h1, show ys = [] from h3, e1], e2, fun l hl => post l us hl e3⟩
  · cases hg
def tupleD : List D → Option Out
  | [.lst ds] => some (.newT ds)
  | [.tup ds] => some (.same (.tup ds))
  | _ => none
theorem snd_tuple : SndC K (fun xs H Q => ∃ p ys, xs = [.ref p] ∧ ((SqL K H p ys ∧ ∀ l, H l = none → Q (.ref l) (upd H l (.tup ys))) ∨ (SqT K H p ys ∧ Q (.ref p) H))) tupleD := by
  intro Hm H xs ds Q out sm r hg post
  unfold tupleD at hg
  split at hg
  · cases hg
    obtain ⟨y, ys, h1, ⟨a, us, e1, e2, e3⟩, h3⟩ := r
    exact ⟨a, us, by rw [h1, show ys = [] from h3, e1], .inl ⟨SqL.of e2, fun l hl => post l us hl e3⟩⟩
  · cases hg
    obtain ⟨y, ys, h1, h2, h3⟩ := r
    obtain ⟨a, us, e1, e2, e3⟩ := h2
    exact ⟨a, us, by rw [h1, show ys = [] from h3, e1], .inr ⟨SqT.mono sm e2, post _ ⟨a, us, rfl, e2, e3⟩⟩⟩
  · cases hg
def intD : List D → Option Out
  | [.int i] => some (.same (.int i))
  | [.bl b] => some (.same (.int (if b then 1 else 0)))
  | _ => none
theorem snd_int : SndC K (fun xs H Q => (∃ i, xs = [.int i] ∧ Q (.int i) H) ∨ ∃ k, xs = [.bl k] ∧ Q (.int (if k then 1 else 0)) H) intD := by
  intro Hm H xs ds Q out sm r hg post
  unfold intD at hg
  split at hg
  · cases hg
    obtain ⟨y, ys, h1, h2, h3⟩ := r
    exact .inl ⟨_, by rw [h1, show ys = [] from h3, show y = _ from h2], post _ rfl⟩
  · cases hg
    obtain ⟨y, ys, h1, h2, h3⟩ := r
    exact .inr ⟨_, by rw [h1, show ys = [] from h3, show y = _ from h2], post _ rfl⟩
  · cases hg
def boolsD : List D → Option (List Bool)
  | [] => some []
  | .bl b :: ds => (boolsD ds).map (b :: ·)
  | _ :: _ => none
def intsD : List D → Option (List Int)
  | [] => some []
  | .int b :: ds => (intsD ds).map (b :: ·)
  | _ :: _ => none
theorem bools_rp {H : Hp} : ∀ {ds : List D} {bs : List Bool} {xs : List V}, boolsD ds = some bs → RpL K H ds xs → xs = bs.map V.bl
  | [], bs, xs, h, r => by cases h; exact r
  | .bl b :: ds, bs, xs, h, ⟨y, ys, h1, h2, h3⟩ => by
    simp only [boolsD] at h
    cases q : boolsD ds with
    | none => rw [q] at h; cases h
    | some bs' =>
      rw [q] at h
      cases h
      rw [h1, show y = _ from h2, bools_rp q h3]
      rfl
  | .non :: ds, bs, xs, h, _ => by cases h
  | .int _ :: ds, bs, xs, h, _ => by cases h
  | .str _ :: ds, bs, xs, h, _ => by cases h
  | .lst _ :: ds, bs, xs, h, _ => by cases h
  | .tup _ :: ds, bs, xs, h, _ => by cases h
  | .ins _ _ :: ds, bs, xs, h, _ => by cases h
  | .dic _ :: ds, bs, xs, h, _ => by cases h
  | .scr _ :: ds, bs, xs, h, _ => by cases h
theorem ints_rp {H : Hp} : ∀ {ds : List D} {bs : List Int} {xs : List V}, intsD ds = some bs → RpL K H ds xs → xs = bs.map V.int
  | [], bs, xs, h, r => by cases h; exact r
  | .int b :: ds, bs, xs, h, ⟨y, ys, h1, h2, h3⟩ => by
    simp only [intsD] at h
    cases q : intsD ds with
    | none => rw [q] at h; cases h
    | some bs' =>
      rw [q] at h
      cases h
      rw [h1, show y = _ from h2, ints_rp q h3]
      rfl
  | .non :: ds, bs, xs, h, _ => by cases h
  | .bl _ :: ds, bs, xs, h, _ => by cases h
  | .str _ :: ds, bs, xs, h, _ => by cases h
  | .lst _ :: ds, bs, xs, h, _ => by cases h
  | .tup _ :: ds, bs, xs, h, _ => by cases h
  | .ins _ _ :: ds, bs, xs, h, _ => by cases h
  | .dic _ :: ds, bs, xs, h, _ => by cases h
  | .scr _ :: ds, bs, xs, h, _ => by cases h
def allD : List D → Option Out
  | [.lst ds] => (boolsD ds).map fun bs => .same (.bl (bs.all id))
  | _ => none
def anyD : List D → Option Out
  | [.lst ds] => (boolsD ds).map fun bs => .same (.bl (bs.any id))
  | _ => none
def sumD : List D → Option Out
  | [.lst ds] => (intsD ds).map fun bs => .same (.int bs.sum)
  | _ => none
theorem snd_all : SndC K (rAll K) allD := by
  intro Hm H xs ds Q out sm r hg post
  unfold allD at hg
  split at hg
  · rename_i ds
    cases q : boolsD ds with
    | none => rw [q] at hg; cases hg
    | some bs =>
      rw [q] at hg
      cases hg
      obtain ⟨y, ys, h1, ⟨a, us, e1, e2, e3⟩, h3⟩ := r
      exact ⟨a, bs, by rw [h1, show ys = [] from h3, e1], SqL.of (by rw [← bools_rp q e3]; exact e2), post _ rfl⟩
  · cases hg
theorem snd_any : SndC K (rAny K) anyD := by
  intro Hm H xs ds Q out sm r hg post
  unfold anyD at hg
  split at hg
  · rename_i ds
    cases q : boolsD ds with
    | none => rw [q] at hg; cases hg
    | some bs =>
      rw [q] at hg
      cases hg
      obtain ⟨y, ys, h1, ⟨a, us, e1, e2, e3⟩, h3⟩ := r
      exact ⟨a, bs, by rw [h1, show ys = [] from h3, e1], SqL.of (by rw [← bools_rp q e3]; exact e2), post _ rfl⟩
  · cases hg
theorem snd_sum : SndC K (rSum K) sumD := by
  intro Hm H xs ds Q out sm r hg post
  unfold sumD at hg
  split at hg
  · rename_i ds
    cases q : intsD ds with
    | none => rw [q] at hg; cases hg
    | some bs =>
      rw [q] at hg
      cases hg
      obtain ⟨y, ys, h1, ⟨a, us, e1, e2, e3⟩, h3⟩ := r
      exact ⟨a, bs, by rw [h1, show ys = [] from h3, e1], SqL.of (by rw [← ints_rp q e3]; exact e2), post _ rfl⟩
  · cases hg
end
end DL

namespace DL
open PySem PySem.Spec PyProof.Rows L2

/-- a def's promise by its function on slots' tellings: its arguments' in, its result and its own arguments' out -/
def spD (K : PySem.W.Frag) (n : Nat) (G : List Ent → R Kd) : Sp := fun vs H Q E => vs.length = n ∧ ∃ (F : Fr) (es : List Ent) (T : HT), F.H0 = H ∧ F.ps = vs ∧ Mono T ∧ Ok K F T H (vs.map some) es ∧ PostE K F E T (vs.map some) Q (G es)

section
variable {K : PySem.W.Frag} {F F' : Fr} {T T2 U : HT} {H1 H' : Hp} {σ vs2 : List (Option V)} {ρ es2 : List Ent}
/-- behind a call that wrote nothing -/
theorem back0 (o1 : Ok K F T H1 σ ρ) (m : Mono T) (o2 : Ok K F' T2 H' vs2 es2) (h0 : F'.H0 = H1) (hw : ∀ a, ¬ F'.W a) (hm : ∀ a, Ms F σ ρ a → F'.M0 a) (m2 : Mono T2) : Ok K F T2 H' σ ρ := by
  have k : ∀ a o, H1 a = some o → H' a = some o := fun a o e => o2.kp a o (by rw [h0]; exact e) (hw a)
  have hs : Same (wo H1 (Ms F σ ρ)) (wo H' (Ms F σ ρ)) := wo_mono fun a o n e => ⟨n, k a o e⟩
  have c := o1.change m hs (fun a o _ _ e => k a o e) (fun a o e => ⟨o, k a o e⟩) o1.len (fun i e v h1 h2 => (o1.cells i e v h1 h2).move hs fun _ _ a o _ _ q => k a o q) o1.inj o1.w
  exact c.to (m2 _ _ (wo_mono fun a o n e => ⟨fun z => n (.inl (hm a z)), e⟩) o2.t)
theorem back0H {v : V} {d : D} (o1 : Ok K F T H1 σ ρ) (m : Mono T) (o2 : Ok K F' T2 H' (some v :: vs2) (.ow none d :: es2)) (h0 : F'.H0 = H1) (hw : ∀ a, ¬ F'.W a) (hm : ∀ a, Ms F σ ρ a → F'.M0 a) (m2 : Mono T2) : Ok K F T2 H' (some v :: σ) (.ow none d :: ρ) := by
  have k : ∀ a o, H1 a = some o → H' a = some o := fun a o e => o2.kp a o (by rw [h0]; exact e) (hw a)
  obtain ⟨p, e1, mu, r⟩ := o2.own (i := 0) (n := none) (d := d) rfl
  cases e1
  have hp : H1 p = none := by rw [← h0]; exact (o2.w 0 p none d rfl rfl).2.2.1 rfl
  have hs2 : Same (wo H' (Ms F' (some (.ref p) :: vs2) (.ow none d :: es2))) (wo H' (Ms F (some (.ref p) :: σ) (.ow none d :: ρ))) := wo_mono fun a o n e => ⟨fun z => by
    rcases z with z | z
    · exact n (.inl (hm a (.inl z)))
    · rcases z.of_cons with ⟨z, _⟩ | z
      · cases z; exact n (.inr Owns.head)
      · exact n (.inl (hm a (.inr z))), e⟩
  have hs : Same (wo H1 (Ms F σ ρ)) (wo H' (Ms F (some (.ref p) :: σ) (.ow none d :: ρ))) := wo_mono fun a o n e => ⟨fun z => by
    rcases z with z | z
    · exact n (.inl z)
    · rcases z.of_cons with ⟨z, _⟩ | z
      · cases z; rw [hp] at e; cases e
      · exact n (.inr z), k a o e⟩
  have np : ∀ (i : Nat) (n : Option Nat) (d' : D), ρ[i]? = some (Ent.ow n d') → ¬ σ[i]? = some (some (V.ref p)) := fun i n d' h1 h2 => o1.m_new hp (.inr ⟨i, n, d', h1, h2⟩)
  have c := o1.change (vs' := some (.ref p) :: σ) (es' := .ow none d :: ρ) m hs (fun a o _ _ e => k a o e) (fun a o e => ⟨o, k a o e⟩) (by simp [o1.len]) (fun i e v h1 h2 => ?_) (fun i j a n m' d1 d2 h1 h2 h3 h4 => ?_) fun i a n d1 h1 h2 => ?_
  · exact c.to (m2 _ _ hs2 o2.t)
  · cases i with
    | zero =>
      simp at h1 h2
      subst h1; subst h2
      exact ⟨_, rfl, mu, r.move hs2 mu fun _ _ _ q => q⟩
    | succ i => exact (o1.cells i e v (by simpa using h1) (by simpa using h2)).move hs fun _ _ a u _ _ q => k a u q
  · cases i with
    | zero =>
      cases j with
      | zero => rfl
      | succ j =>
        simp at h1 h3
        subst h3
        exact (np j m' d2 (by simpa using h2) (by simpa using h4)).elim
    | succ i =>
      cases j with
      | zero =>
        simp at h2 h4
        subst h4
        exact (np i n d1 (by simpa using h1) (by simpa using h3)).elim
      | succ j => rw [o1.inj i j a n m' d1 d2 (by simpa using h1) (by simpa using h2) (by simpa using h3) (by simpa using h4)]
  · cases i with
    | zero =>
      have h1 : Ent.ow none d = .ow n d1 := by simpa using h1
      have h2 : p = a := by simpa using h2
      cases h1
      subst h2
      exact ⟨fun z => o1.m_new hp (.inl z), .inr (o1.new_h0 hp), fun _ => o1.new_h0 hp, fun k z => nomatch z⟩
    | succ i => exact o1.w i a n d1 (by simpa using h1) (by simpa using h2)
/-- what a slot's own thing tells is changed -/
theorem Ok.setOw {b : Addr} {i : Nat} {n : Option Nat} {d d' : D} (o1 : Ok K F T H1 σ ρ) (m : Mono T) (hi : ρ[i]? = some (.ow n d)) (hv : σ[i]? = some (some (.ref b))) (k : ∀ a o, a ≠ b → H1 a = some o → H' a = some o) (hb : ∃ o, H' b = some o)
    (mu : isMut d') (r : Same (wo H1 (Ms F σ ρ)) (wo H' (Ms F σ (ρ.set i (.ow n d')))) → RpTop K (wo H' (Ms F σ (ρ.set i (.ow n d')))) H' d' (.ref b)) : Ok K F T H' σ (ρ.set i (.ow n d')) ∧ ∀ a, Ms F σ (ρ.set i (.ow n d')) a ↔ Ms F σ ρ a := by
  have hl : i < ρ.length := (List.getElem?_eq_some_iff.mp hi).1
  have back : ∀ {j : Nat} {l : Option Nat} {e : D}, (ρ.set i (.ow n d'))[j]? = some (.ow l e) → ∃ e', ρ[j]? = some (.ow l e') := fun {j l e} q => by
    by_cases hj : i = j
    · subst hj
      rw [List.getElem?_set_self hl] at q
      cases q
      exact ⟨d, hi⟩
    · rw [List.getElem?_set_ne hj] at q
      exact ⟨e, q⟩
  have hM : ∀ a, Ms F σ (ρ.set i (.ow n d')) a ↔ Ms F σ ρ a := fun a => by
    refine ⟨fun z => z.elim .inl fun ⟨j, l, e, h1, h2⟩ => ?_, fun z => z.elim .inl fun ⟨j, l, e, h1, h2⟩ => ?_⟩
    · obtain ⟨e', q⟩ := back h1
      exact .inr ⟨j, l, e', q, h2⟩
    · by_cases hj : i = j
      · subst hj
        exact .inr ⟨i, n, d', List.getElem?_set_self hl, h2⟩
      · exact .inr ⟨j, l, e, by rw [List.getElem?_set_ne hj]; exact h1, h2⟩
  have mb : Ms F σ ρ b := .inr ⟨i, n, d, hi, hv⟩
  have hs : Same (wo H1 (Ms F σ ρ)) (wo H' (Ms F σ (ρ.set i (.ow n d')))) := wo_mono fun a o q e => ⟨fun z => q ((hM a).mp z), k a o (fun z => q (z ▸ mb)) e⟩
  refine ⟨o1.change m hs (fun a o h0 nw e => k a o (fun z => ?_) e) (fun a o e => ?_) (by rw [List.length_set]; exact o1.len) (fun j e v h1 h2 => ?_) (fun j l a p q d1 d2 h1 h2 h3 h4 => ?_) fun j a l d1 h1 h2 => ?_, hM⟩
  · subst z
    rcases (o1.w i a n d hi hv).2.1 with z | z
    · exact nw z
    · rw [h0] at z; cases z
  · by_cases hab : a = b
    · subst hab; exact hb
    · exact ⟨o, k a o hab e⟩
  · by_cases hj : i = j
    · subst hj
      rw [List.getElem?_set_self hl] at h1
      cases h1
      rw [hv] at h2
      cases h2
      exact ⟨_, rfl, mu, r hs⟩
    · rw [List.getElem?_set_ne hj] at h1
      refine (o1.cells j e v h1 h2).move hs fun l e' a u ee ev q => k a u (fun z => ?_) q
      subst z; subst ee; subst ev
      exact hj (o1.inj i j a n l d e' hi h1 hv h2)
  · obtain ⟨e1, q1⟩ := back h1
    obtain ⟨e2, q2⟩ := back h2
    exact o1.inj j l a p q e1 e2 q1 q2 h3 h4
  · obtain ⟨e1, q1⟩ := back h1
    exact o1.w j a l e1 q1 h2
end

/-! ### a call, all arguments shared -/
def retU (ρ : List Ent) : R Kd → R Kd
  | .ok (.va d) _ => .ok (.va d) ρ
  | .ok (.ow d) _ => .ok (.ow d) ρ
  | .ex x _ => .ex x ρ
  | _ => .bad
def callU (n : Nat) (G : List Ent → R Kd) (dds : List D) (GA : List Ent → R (List Kd)) (ρ : List Ent) : R Kd := (GA ρ).bind fun ks ρ1 => match vas ks with
  | some ds => if (ds ++ dds).length = n then retU ρ1 (G ((ds ++ dds).map .va)) else .bad
  | none => .bad
theorem vas_no {ds : List D} {i : Nat} {n : Option Nat} {d : D} (h : (ds.map Ent.va)[i]? = some (.ow n d)) : False := by
  rw [List.getElem?_map] at h
  cases q : ds[i]? with
  | none => rw [q] at h; cases h
  | some e => rw [q] at h; cases h
section
variable {K : PySem.W.Frag} {F : Fr} {E : XK} {T : HT} {H1 : Hp} {σ : L2.St} {ρ : List Ent} {ds : List D} {vs : List V} {Q : VK} {G : List Ent → R Kd}
theorem ok_vas (o1 : Ok K F T H1 σ ρ) (m : Mono T) (r : RpL K (wo H1 (Ms F σ ρ)) ds vs) : Ok K ⟨Ms F σ ρ, fun _ => False, H1, vs⟩ T H1 (vs.map some) (ds.map .va) := by
  have hs : Same (wo H1 (Ms F σ ρ)) (wo H1 (Ms ⟨Ms F σ ρ, fun _ => False, H1, vs⟩ (vs.map some) (ds.map .va))) := wo_mono fun a o n e => ⟨fun z => z.elim n fun ⟨i, l, d, h1, _⟩ => vas_no h1, e⟩
  refine ⟨by rw [List.length_map, List.length_map, r.len], fun i e v h1 h2 => ?_, fun i j a n l d e h1 => (vas_no h1).elim, fun i a n d h1 => (vas_no h1).elim, fun a o e _ => e, fun a o e => ⟨o, e⟩, fun a z => ⟨id, o1.m_some z⟩, fun a z => z.elim, m _ _ hs o1.t⟩
  rw [List.getElem?_map] at h1 h2
  cases q : ds[i]? with
  | none => rw [q] at h1; cases h1
  | some d =>
    rw [q] at h1
    cases h1
    obtain ⟨x, e1, r1⟩ := r.get q
    rw [e1] at h2
    cases h2
    exact ⟨x, rfl, r1.mono hs⟩
/-- the promise is kept for shared arguments -/
theorem sp_vas {n : Nat} (o1 : Ok K F T H1 σ ρ) (m : Mono T) (r : RpL K (wo H1 (Ms F σ ρ)) ds vs) (hn : vs.length = n) (p : PostE K F E T σ Q (retU ρ (G (ds.map .va)))) : spD K n G vs H1 Q E := by
  refine ⟨hn, _, _, T, rfl, rfl, m, ok_vas o1 m r, ?_⟩
  cases hg : G (ds.map .va) with
  | ok k es' =>
    rw [hg] at p
    cases k with
    | va d => exact fun v H' o2 => p v H' (back0 o1 m o2 rfl (fun _ => id) (fun _ z => z) (m.and mono_kat))
    | ow d => exact fun v H' o2 => p v H' (back0H o1 m o2 rfl (fun _ => id) (fun _ z => z) m)
    | al i => exact p.elim
  | ex x es' =>
    rw [hg] at p
    exact fun d H' o2 => p d H' (back0 o1 m o2 rfl (fun _ => id) (fun _ z => z) (m.and fun _ _ e ⟨fs, h1, h2⟩ => ⟨fs, e _ _ h1, h2.mono e⟩))
  | bad => rw [hg] at p; exact p.elim
theorem mono_ext {x : Exn} {d : Addr} : Mono (ExT K x d) := fun _ _ e ⟨fs, h1, h2⟩ => ⟨fs, e _ _ h1, h2.mono e⟩
end
section
variable {X : Cx} {F : Fr} {E : XK} {CX : CXT} {k : Nat} {f : Addr} {fd : FuncData} {ps : List Str} {dvs : List V} {dds : List D} {dfs : List Value} {x : Str} {p pos : Pos} {e : Expr} {es : List Expr} {G Ga : List Ent → R Kd} {GA : List Ent → R (List Kd)}
theorem tCall_of {K : PySem.W.Frag} {σ : L2.St} {H : Hp} {Q : VK} {n : Nat} (hd : ∀ H, RpL K H dds dvs) (h : tE K F E (callU n G dds GA) σ H Q) : tCall (spD K n G) dvs E (tA K F E GA) σ H Q := by
  obtain ⟨ρ, T, m, o, p⟩ := h
  refine bdA (pf_E Q) m o p fun vs H1 ks ρ1 o1 p1 => ?_
  cases q : vas ks with
  | none => rw [q] at p1; exact p1.elim
  | some ds =>
    rw [q] at p1
    have p1 : PostE K F E T σ Q (if (ds ++ dds).length = n then retU ρ1 (G ((ds ++ dds).map .va)) else .bad) := p1
    split at p1
    · rename_i hn
      have r := (vas_rp q o1.t.2).append (hd _)
      exact sp_vas (o1.weak fun _ z => z.1) m r (by rw [r.len]; exact hn) p1
    · exact p1.elim
/-- f(e, ..) of shared arguments -/
theorem je_call {n : Nat} (hF : FnOk X.prog X.w X.K X.mg X.base CX k f fd ps (spD X.K n G)) (hr : Room k X.A) (hg : Gl X x) (hm : X.mg x = some (.ref f)) (hk : PySem.W.keepIn X.K (.ref f) = true) (hb : Binds X.K fd ps dfs) (hv : Vals dvs dfs) (hd : ∀ H, RpL X.K H dds dvs) (hx : Passes CX X E)
    (ha : PA X (e :: es) (tA X.K F E GA)) (hdb : (x == ("__debug__" : Str)) = false := by decide) (he : starEach (e :: es) X.env = (false, eval e X.env) :: starEach es X.env := by rfl) (hpl : (backTo pos (starEach es X.env)).any (·.1) = false := by rfl) :
    PE X (.Call (.Name x p) (e :: es) [] pos) (tE X.K F E (callU n G dds GA)) :=
  peI (pe_call hF hr hg hm hk hb hv hx ha hdb he hpl) fun _ _ _ h => tCall_of hd h
/-! ### a call whose first argument is a slot's own thing -/
def retB (i : Nat) (n : Option Nat) (ρ : List Ent) : R Kd → R Kd
  | .ok (.va d) (.ow (some 0) d' :: _) => .ok (.va d) (ρ.set i (.ow n d'))
  | .ok (.ow d) (.ow (some 0) d' :: _) => .ok (.ow d) (ρ.set i (.ow n d'))
  | .ex x (.ow (some 0) d' :: _) => .ex x (ρ.set i (.ow n d'))
  | _ => .bad
def ownR (n : Nat) (G : List Ent → R Kd) (i : Nat) (ds : List D) (ρ : List Ent) : R Kd := match ρ[i]? with
  | some (.ow l d) => if (ds.length + 1) = n then retB i l ρ (G (.ow (some 0) d :: ds.map .va)) else .bad
  | _ => .bad
def callB (n : Nat) (G : List Ent → R Kd) (dds : List D) (GA : List Ent → R (List Kd)) (ρ : List Ent) : R Kd := (GA ρ).bind fun ks ρ1 => match ks with
  | .al i :: ks => match vas ks with
    | some ds => ownR n G i (ds ++ dds) ρ1
    | none => .bad
  | _ => .bad
/-- the promise is kept where the first argument is a slot's own thing -/
theorem sp_own {K : PySem.W.Frag} {T : HT} {H1 : Hp} {σ : L2.St} {ρ : List Ent} {ds : List D} {v : V} {vs : List V} {Q : VK} {n i : Nat} (o1 : Ok K F T H1 σ ρ) (m : Mono T) (hv : σ[i]? = some (some v)) (r : RpL K (wo H1 (Ms F σ ρ)) ds vs) (p : PostE K F E T σ Q (ownR n G i ds ρ)) :
    spD K n G (v :: vs) H1 Q E := by
  unfold ownR at p
  split at p
  · rename_i l d hi
    split at p
    · rename_i hn
      obtain ⟨b, hb, mu, rt⟩ := o1.own hi
      rw [hv] at hb
      cases hb
      have mb : Ms F σ ρ b := .inr ⟨i, l, d, hi, hv⟩
      obtain ⟨ob, hob, nt⟩ := o1.m_some mb
      have hM : ∀ a, Ms ⟨fun a => Ms F σ ρ a ∧ a ≠ b, fun a => a = b, H1, .ref b :: vs⟩ (some (.ref b) :: vs.map some) (.ow (some 0) d :: ds.map .va) a → Ms F σ ρ a := fun a z => by
        rcases z with z | z
        · exact z.1
        · rcases z.of_cons with ⟨z, _⟩ | ⟨j, n', d', h1, _⟩
          · cases z; exact mb
          · exact (vas_no h1).elim
      have hs : Same (wo H1 (Ms F σ ρ)) (wo H1 (Ms ⟨fun a => Ms F σ ρ a ∧ a ≠ b, fun a => a = b, H1, .ref b :: vs⟩ (some (.ref b) :: vs.map some) (.ow (some 0) d :: ds.map .va))) := wo_mono fun a o n e => ⟨fun z => n (hM a z), e⟩
      have oc : Ok K ⟨fun a => Ms F σ ρ a ∧ a ≠ b, fun a => a = b, H1, .ref b :: vs⟩ T H1 (some (.ref b) :: vs.map some) (.ow (some 0) d :: ds.map .va) := by
        refine ⟨by rw [List.length_cons, List.length_cons, List.length_map, List.length_map, r.len], fun j e u h1 h2 => ?_, fun j j2 a n1 n2 d1 d2 h1 h2 h3 h4 => ?_, fun j a n1 d1 h1 h2 => ?_, fun a o e _ => e, fun a o e => ⟨o, e⟩, fun a z => ⟨z.2, o1.m_some z.1⟩, fun a z => ⟨ob, z ▸ hob⟩, m _ _ hs o1.t⟩
        · cases j with
          | zero =>
            simp at h1 h2
            subst h1; subst h2
            exact ⟨_, rfl, mu, rt.move hs mu fun _ _ _ q => q⟩
          | succ j =>
            have h1 : (ds.map Ent.va)[j]? = some e := by simpa using h1
            have h2 : (vs.map some)[j]? = some u := by simpa using h2
            rw [List.getElem?_map] at h1 h2
            cases q : ds[j]? with
            | none => rw [q] at h1; cases h1
            | some d =>
              rw [q] at h1
              cases h1
              obtain ⟨x, e1, r1⟩ := r.get q
              rw [e1] at h2
              cases h2
              exact ⟨x, rfl, r1.mono hs⟩
        · cases j with
          | zero => cases j2 with
            | zero => rfl
            | succ j2 => exact (vas_no (show (ds.map Ent.va)[j2]? = some (.ow n2 d2) by simpa using h2)).elim
          | succ j => exact (vas_no (show (ds.map Ent.va)[j]? = some (.ow n1 d1) by simpa using h1)).elim
        · cases j with
          | zero =>
            have h1 : Ent.ow (some 0) d = .ow n1 d1 := by simpa using h1
            have h2 : b = a := by simpa using h2
            cases h1
            subst h2
            exact ⟨fun z => z.2 rfl, .inl rfl, (fun z => nomatch z), fun k z => by cases z; rfl⟩
          | succ j => exact (vas_no (show (ds.map Ent.va)[j]? = some (.ow n1 d1) by simpa using h1)).elim
      refine ⟨by rw [List.length_cons, r.len]; exact hn, _, _, T, rfl, rfl, m, oc, ?_⟩
      -- behind it
      have after : ∀ {T2 : HT} {H' : Hp} {d' : D} {es2 : List Ent}, Mono T2 → Ok K ⟨fun a => Ms F σ ρ a ∧ a ≠ b, fun a => a = b, H1, .ref b :: vs⟩ T2 H' ((V.ref b :: vs).map some) (.ow (some 0) d' :: es2) → Ok K F T2 H' σ (ρ.set i (.ow l d')) := fun {T2 H' d' es2} m2 o2 => by
        obtain ⟨b', e1, mu', r'⟩ := o2.own (i := 0) (n := some 0) (d := d') rfl
        cases e1
        have kk : ∀ a o, a ≠ b → H1 a = some o → H' a = some o := fun a o nb e => o2.kp a o e nb
        obtain ⟨ob', hob', _⟩ := o2.own_some (a := b) ⟨0, some 0, d', rfl, rfl⟩
        have mle : ∀ a, Ms F σ ρ a → Ms ⟨fun a => Ms F σ ρ a ∧ a ≠ b, fun a => a = b, H1, .ref b :: vs⟩ ((V.ref b :: vs).map some) (.ow (some 0) d' :: es2) a := fun a z => by
          by_cases hab : a = b
          · subst hab; exact .inr ⟨0, some 0, d', rfl, rfl⟩
          · exact .inl ⟨z, hab⟩
        obtain ⟨o3, hM3⟩ := o1.setOw (H' := H') (d' := d') m hi hv kk ⟨ob', hob'⟩ mu' fun _ => r'.move (wo_mono fun a o q e => ⟨fun z => q (mle a (by
          rcases z with z | ⟨j, l', e', z1, z2⟩
          · exact .inl z
          · by_cases hj : i = j
            · subst hj
              exact .inr ⟨i, l, d, hi, z2⟩
            · exact .inr ⟨j, l', e', by rw [List.getElem?_set_ne hj] at z1; exact z1, z2⟩)), e⟩) mu' fun _ _ _ q => q
        exact o3.to (m2 _ _ (wo_mono fun a o q e => ⟨fun z => q (mle a ((hM3 a).mp z)), e⟩) o2.t)
      have afterH : ∀ {T2 : HT} {H' : Hp} {w : V} {d1 d' : D} {es2 : List Ent}, Mono T2 → Ok K ⟨fun a => Ms F σ ρ a ∧ a ≠ b, fun a => a = b, H1, .ref b :: vs⟩ T2 H' (some w :: (V.ref b :: vs).map some) (.ow none d1 :: .ow (some 0) d' :: es2) → Ok K F T2 H' (some w :: σ) (.ow none d1 :: ρ.set i (.ow l d')) := fun {T2 H' w d1 d' es2} m2 o2 => by
        obtain ⟨q, e0, mq, rq⟩ := o2.own (i := 0) (n := none) (d := d1) rfl
        cases e0
        have hq : H1 q = none := (o2.w 0 q none d1 rfl rfl).2.2.1 rfl
        have qb : q ≠ b := fun z => by rw [z, hob] at hq; cases hq
        obtain ⟨b', e1, mu', r'⟩ := o2.own (i := 1) (n := some 0) (d := d') rfl
        cases e1
        have kk : ∀ a o, a ≠ b → H1 a = some o → H' a = some o := fun a o nb e => o2.kp a o e nb
        obtain ⟨ob', hob', _⟩ := o2.own_some (a := b) ⟨1, some 0, d', rfl, rfl⟩
        have mle : ∀ a, Ms F σ ρ a → Ms ⟨fun a => Ms F σ ρ a ∧ a ≠ b, fun a => a = b, H1, .ref b :: vs⟩ (some (V.ref q) :: (V.ref b :: vs).map some) (.ow none d1 :: .ow (some 0) d' :: es2) a := fun a z => by
          by_cases hab : a = b
          · subst hab; exact .inr ⟨1, some 0, d', rfl, rfl⟩
          · exact .inl ⟨z, hab⟩
        have back : ∀ a, Ms F σ (ρ.set i (.ow l d')) a → Ms F σ ρ a := fun a z => by
          rcases z with z | ⟨j, l', e', z1, z2⟩
          · exact .inl z
          · by_cases hj : i = j
            · subst hj
              exact .inr ⟨i, l, d, hi, z2⟩
            · exact .inr ⟨j, l', e', by rw [List.getElem?_set_ne hj] at z1; exact z1, z2⟩
        obtain ⟨o3, hM3⟩ := o1.setOw (H' := H') (d' := d') m hi hv kk ⟨ob', hob'⟩ mu' fun _ => r'.move (wo_mono fun a o q e => ⟨fun z => q (mle a (back a z)), e⟩) mu' fun _ _ _ q => q
        -- the head joins
        have hs3 : Same (wo H' (Ms F σ (ρ.set i (.ow l d')))) (wo H' (Ms F σ (ρ.set i (.ow l d')))) := fun _ _ e => e
        have nq : ∀ (j : Nat) (n : Option Nat) (d2 : D), (ρ.set i (.ow l d'))[j]? = some (Ent.ow n d2) → ¬ σ[j]? = some (some (V.ref q)) := fun j n d2 h1 h2 => o1.m_new hq (back q (.inr ⟨j, n, d2, h1, h2⟩))
        have hsh : Same (wo H' (Ms ⟨fun a => Ms F σ ρ a ∧ a ≠ b, fun a => a = b, H1, .ref b :: vs⟩ (some (V.ref q) :: (V.ref b :: vs).map some) (.ow none d1 :: .ow (some 0) d' :: es2))) (wo H' (Ms F (some (V.ref q) :: σ) (.ow none d1 :: ρ.set i (.ow l d')))) := wo_mono fun a o n e => ⟨fun z => by
          rcases z with z | z
          · exact n (mle a (.inl z))
          · rcases z.of_cons with ⟨z, _⟩ | z
            · cases z; exact n (.inr ⟨0, none, d1, rfl, rfl⟩)
            · exact n (mle a (back a (.inr z))), e⟩
        have hs1 : Same (wo H1 (Ms F σ ρ)) (wo H' (Ms F (some (V.ref q) :: σ) (.ow none d1 :: ρ.set i (.ow l d')))) := wo_mono fun a o n e => ⟨fun z => by
          rcases z with z | z
          · exact n (.inl z)
          · rcases z.of_cons with ⟨z, _⟩ | z
            · cases z; rw [hq] at e; cases e
            · exact n (back a (.inr z)), kk a o (fun z => n (z ▸ mb)) e⟩
        have hl : i < ρ.length := (List.getElem?_eq_some_iff.mp hi).1
        have c := o1.change (vs' := some (V.ref q) :: σ) (es' := .ow none d1 :: ρ.set i (.ow l d')) m hs1 (fun a o h0 nw e => o3.kp a o h0 nw) (fun a o e => by
            by_cases hab : a = b
            · subst hab; exact ⟨ob', hob'⟩
            · exact ⟨o, kk a o hab e⟩) (by simp [o1.len]) (fun j e u h1 h2 => ?_) (fun j j2 a n1 n2 e1 e2 h1 h2 h3 h4 => ?_) fun j a n1 e1 h1 h2 => ?_
        · exact c.to (m2 _ _ hsh o2.t)
        · cases j with
          | zero =>
            simp at h1 h2
            subst h1; subst h2
            exact ⟨_, rfl, mq, rq.move hsh mq fun _ _ _ q => q⟩
          | succ j =>
            have h1 : (ρ.set i (.ow l d'))[j]? = some e := by simpa using h1
            have h2 : σ[j]? = some u := by simpa using h2
            by_cases hj : i = j
            · subst hj
              rw [List.getElem?_set_self hl] at h1
              cases h1
              rw [hv] at h2
              cases h2
              exact ⟨_, rfl, mu', r'.move hsh mu' fun _ _ _ q => q⟩
            · rw [List.getElem?_set_ne hj] at h1
              refine (o1.cells j e u h1 h2).move hs1 fun n2 e2 a u2 ee ev q => kk a u2 (fun z => ?_) q
              subst z; subst ee; subst ev
              exact hj (o1.inj i j a l n2 d e2 hi h1 hv h2)
        · cases j with
          | zero =>
            cases j2 with
            | zero => rfl
            | succ j2 =>
              simp at h1 h3
              subst h3
              exact (nq j2 n2 e2 (by simpa using h2) (by simpa using h4)).elim
          | succ j =>
            cases j2 with
            | zero =>
              simp at h2 h4
              subst h4
              exact (nq j n1 e1 (by simpa using h1) (by simpa using h3)).elim
            | succ j2 => rw [o3.inj j j2 a n1 n2 e1 e2 (by simpa using h1) (by simpa using h2) (by simpa using h3) (by simpa using h4)]
        · cases j with
          | zero =>
            have h1 : Ent.ow none d1 = .ow n1 e1 := by simpa using h1
            have h2 : q = a := by simpa using h2
            cases h1
            subst h2
            exact ⟨fun z => o1.m_new hq (.inl z), .inr (o1.new_h0 hq), fun _ => o1.new_h0 hq, fun k z => nomatch z⟩
          | succ j => exact o3.w j a n1 e1 (by simpa using h1) (by simpa using h2)
      cases hg : G (.ow (some 0) d :: ds.map .va) with
      | bad => rw [hg] at p; exact p.elim
      | ex x es' =>
        rw [hg] at p
        match es', p with
        | .ow (some 0) d' :: es2, p => exact fun dd H' o2 => p dd H' (after (m.and mono_ext) o2)
        | [], p => exact p.elim
        | .no :: _, p => exact p.elim
        | .va _ :: _, p => exact p.elim
        | .ow none _ :: _, p => exact p.elim
        | .ow (some (_ + 1)) _ :: _, p => exact p.elim
      | ok k es' =>
        rw [hg] at p
        cases k with
        | al j => exact (show False by cases es' <;> exact p).elim
        | va d0 =>
          match es', p with
          | .ow (some 0) d' :: es2, p => exact fun u H' o2 => p u H' (after (m.and mono_kat) o2)
          | [], p => exact p.elim
          | .no :: _, p => exact p.elim
          | .va _ :: _, p => exact p.elim
          | .ow none _ :: _, p => exact p.elim
          | .ow (some (_ + 1)) _ :: _, p => exact p.elim
        | ow d0 =>
          match es', p with
          | .ow (some 0) d' :: es2, p => exact fun u H' o2 => p u H' (afterH m o2)
          | [], p => exact p.elim
          | .no :: _, p => exact p.elim
          | .va _ :: _, p => exact p.elim
          | .ow none _ :: _, p => exact p.elim
          | .ow (some (_ + 1)) _ :: _, p => exact p.elim
    · exact p.elim
  · exact p.elim
theorem tCallB_of {K : PySem.W.Frag} {σ : L2.St} {H : Hp} {Q : VK} {n : Nat} (hd : ∀ H, RpL K H dds dvs) (h : tE K F E (callB n G dds GA) σ H Q) : tCall (spD K n G) dvs E (tA K F E GA) σ H Q := by
  obtain ⟨ρ, T, m, o, p⟩ := h
  refine bdA (pf_E Q) m o p fun vs H1 ks ρ1 o1 p1 => ?_
  split at p1
  · rename_i i ks'
    obtain ⟨y, ys, e1, h2, h3⟩ := o1.t.2
    cases q : vas ks' with
    | none => rw [q] at p1; exact p1.elim
    | some ds =>
      rw [q] at p1
      subst e1
      have r := (vas_rp q h3).append (hd _)
      exact sp_own (o1.weak fun _ z => z.1) m h2 r p1
  · exact p1.elim
theorem je_callB1 {n : Nat} (hF : FnOk X.prog X.w X.K X.mg X.base CX k f fd ps (spD X.K n G)) (hr : Room k X.A) (hg : Gl X x) (hm : X.mg x = some (.ref f)) (hk : PySem.W.keepIn X.K (.ref f) = true) (hb : Binds X.K fd ps dfs) (hv : Vals dvs dfs) (hd : ∀ H, RpL X.K H dds dvs) (hx : Passes CX X E)
    (ha : PA X (e :: es) (tA X.K F E GA)) (hdb : (x == ("__debug__" : Str)) = false := by decide) (he : starEach (e :: es) X.env = (false, eval e X.env) :: starEach es X.env := by rfl) (hpl : (backTo pos (starEach es X.env)).any (·.1) = false := by rfl) :
    PE X (.Call (.Name x p) (e :: es) [] pos) (tE X.K F E (callB n G dds GA)) :=
  peI (pe_call hF hr hg hm hk hb hv hx ha hdb he hpl) fun _ _ _ h => tCallB_of hd h
end
end DL

namespace DL
open PySem PySem.Spec PyProof.Rows L2

section
variable {K : PySem.W.Frag} {F F' : Fr} {E : XK} {T T2 U : HT} {H H' : Hp} {σ vs vs' : List (Option V)} {ρ es es' : List Ent}
/-- fewer slots, slots at other places -/
theorem Ok.sub (h : Ok K F T H vs es) (m : Mono T) (len : vs'.length = es'.length) (φ : Nat → Nat) (hφ : ∀ (j : Nat) (e : Ent) (v : Option V), es'[j]? = some e → e ≠ .no → vs'[j]? = some v → es[φ j]? = some e ∧ vs[φ j]? = some v) (inj : ∀ i j, φ i = φ j → i = j) : Ok K F T H vs' es' := by
  have ne : ∀ {n : Option Nat} {d : D}, Ent.ow n d ≠ .no := fun z => by cases z
  have hs : Same (wo H (Ms F vs es)) (wo H (Ms F vs' es')) := wo_mono fun a o q e => ⟨fun z => q (z.elim .inl fun ⟨j, n, d, h1, h2⟩ => by
    obtain ⟨k1, k2⟩ := hφ j _ _ h1 ne h2
    exact .inr ⟨φ j, n, d, k1, k2⟩), e⟩
  refine h.change m hs (fun _ _ _ _ e => e) (fun a o e => ⟨o, e⟩) len (fun j e v h1 h2 => ?_) (fun i j a n l d e h1 h2 h3 h4 => ?_) fun i a n d h1 h2 => ?_
  · cases e with
    | no => exact True.intro
    | va d =>
      obtain ⟨k1, k2⟩ := hφ j _ _ h1 (fun z => by cases z) h2
      exact (h.cells _ _ _ k1 k2).move hs fun _ _ _ _ _ _ q => q
    | ow n d =>
      obtain ⟨k1, k2⟩ := hφ j _ _ h1 ne h2
      exact (h.cells _ _ _ k1 k2).move hs fun _ _ _ _ _ _ q => q
  · obtain ⟨k1, k2⟩ := hφ i _ _ h1 ne h3
    obtain ⟨k3, k4⟩ := hφ j _ _ h2 ne h4
    exact inj _ _ (h.inj _ _ a n l d e k1 k3 k2 k4)
  · obtain ⟨k1, k2⟩ := hφ i _ _ h1 ne h2
    exact h.w _ a n d k1 k2
/-- a slot takes shared data -/
theorem Ok.setVa {i : Nat} {v : V} {d : D} (h : Ok K F (fun h => T h ∧ Rp K h d v) H σ ρ) (m : Mono T) : Ok K F T H (σ.set i (some v)) (ρ.set i (.va d)) := by
  have ne : ∀ {n : Option Nat} {e : D} {j : Nat}, (ρ.set i (.va d))[j]? = some (.ow n e) → i ≠ j ∧ ρ[j]? = some (.ow n e) := fun {n e j} q => by
    by_cases hj : i = j
    · subst hj
      by_cases hl : i < ρ.length
      · rw [List.getElem?_set_self hl] at q; cases q
      · rw [List.getElem?_eq_none (by rw [List.length_set]; omega)] at q; cases q
    · rw [List.getElem?_set_ne hj] at q
      exact ⟨hj, q⟩
  have hs : Same (wo H (Ms F σ ρ)) (wo H (Ms F (σ.set i (some v)) (ρ.set i (.va d)))) := wo_mono fun a o q e => ⟨fun z => q (z.elim .inl fun z => .inr (z.of_set (e := .va d) True.intro)), e⟩
  have c := h.change (vs' := σ.set i (some v)) (es' := ρ.set i (.va d)) (m.and mono_rp) hs (fun _ _ _ _ e => e) (fun a o e => ⟨o, e⟩) (by rw [List.length_set, List.length_set]; exact h.len) (fun j e u h1 h2 => ?_) (fun j l a n k d1 d2 h1 h2 h3 h4 => ?_) fun j a n d1 h1 h2 => ?_
  · exact c.weak fun _ z => z.1
  · by_cases hj : i = j
    · subst hj
      have hl : i < ρ.length := by have := (List.getElem?_eq_some_iff.mp h1).1; rw [List.length_set] at this; exact this
      rw [List.getElem?_set_self hl] at h1
      rw [List.getElem?_set_self (by rw [h.len]; exact hl)] at h2
      cases h1; cases h2
      exact ⟨v, rfl, h.t.2.mono hs⟩
    · rw [List.getElem?_set_ne hj] at h1 h2
      exact (h.cells j e u h1 h2).move hs fun _ _ _ _ _ _ q => q
  · obtain ⟨n1, q1⟩ := ne h1
    obtain ⟨n2, q2⟩ := ne h2
    rw [List.getElem?_set_ne n1] at h3
    rw [List.getElem?_set_ne n2] at h4
    exact h.inj j l a n k d1 d2 q1 q2 h3 h4
  · obtain ⟨n1, q1⟩ := ne h1
    rw [List.getElem?_set_ne n1] at h2
    exact h.w j a n d1 q1 h2
/-- a slot takes the head's own thing -/
theorem Ok.setHd {i : Nat} {v : V} {n : Option Nat} {d : D} (h : Ok K F T H (some v :: σ) (.ow n d :: ρ)) (m : Mono T) : Ok K F T H (σ.set i (some v)) (ρ.set i (.ow n d)) := by
  have hlen : σ.length = ρ.length := by simpa using h.len
  refine h.sub m (by rw [List.length_set, List.length_set]; exact hlen) (fun j => if j = i then 0 else j + 1) (fun j e u h1 _ h2 => ?_) (fun a b q => ?_)
  · by_cases hj : i = j
    · subst hj
      have hl : i < ρ.length := by have := (List.getElem?_eq_some_iff.mp h1).1; rw [List.length_set] at this; exact this
      rw [List.getElem?_set_self hl] at h1
      rw [List.getElem?_set_self (by rw [hlen]; exact hl)] at h2
      cases h1; cases h2
      rw [if_pos rfl]
      exact ⟨rfl, rfl⟩
    · rw [List.getElem?_set_ne hj] at h1 h2
      rw [if_neg (fun z => hj z.symm)]
      exact ⟨by simpa using h1, by simpa using h2⟩
  · by_cases ha : a = i
    · by_cases hb : b = i
      · rw [ha, hb]
      · simp only [ha, if_true, if_neg hb] at q
        omega
    · by_cases hb : b = i
      · simp only [hb, if_true, if_neg ha] at q
        omega
      · simp only [if_neg ha, if_neg hb] at q
        omega
/-- the head is dropped -/
theorem Ok.tail {v : Option V} {e : Ent} (h : Ok K F T H (v :: σ) (e :: ρ)) (m : Mono T) : Ok K F T H σ ρ :=
  h.sub m (by simpa using h.len) (· + 1) (fun j e u h1 _ h2 => ⟨by simpa using h1, by simpa using h2⟩) fun a b q => by omega
end

/-! ### blocks and statements -/
def seqR (A B : List Ent → R Fl) (ρ : List Ent) : R Fl := (A ρ).bind fun fl ρ1 => match fl with
  | .nx => B ρ1
  | fl => .ok fl ρ1
def setR (i : Nat) (G : List Ent → R Kd) (ρ : List Ent) : R Fl := (toVa (G ρ)).bind fun k ρ1 => match k with
  | .va d => .ok .nx (ρ1.set i (.va d))
  | _ => .bad
def setO (i : Nat) (G : List Ent → R Kd) (ρ : List Ent) : R Fl := (G ρ).bind fun k ρ1 => match k with
  | .ow d => .ok .nx (ρ1.set i (.ow none d))
  | _ => .bad
def retR (G : List Ent → R Kd) (ρ : List Ent) : R Fl := (G ρ).bind fun k ρ1 => match k with
  | .ow d => .ok (.rt (.ow d)) ρ1
  | .va d => .ok (.rt (.va d)) ρ1
  | .al _ => .bad
def dropR (G : List Ent → R Kd) (ρ : List Ent) : R Fl := (G ρ).bind fun _ ρ1 => .ok .nx ρ1
def ifS (A : List Ent → R Bool) (B C : List Ent → R Fl) (ρ : List Ent) : R Fl := (A ρ).bind fun b ρ1 => if b then B ρ1 else C ρ1
section
variable {X : Cx} {F : Fr} {E : XK} {e c : Expr} {st : Stmt} {rest s1 s2 : List Stmt} {pos pos' : Pos} {G : List Ent → R Kd} {A : List Ent → R Bool} {B C : List Ent → R Fl}
theorem PostS.nxD {K : PySem.W.Frag} {T : HT} {σ : L2.St} {D D' : Ends} {r : R Fl} (h : ∀ ρ, r ≠ .ok .nx ρ) (p : PostS K F E T σ D r) (h1 : D'.rt = D.rt) (h2 : D'.bk = D.bk) (h3 : D'.ct = D.ct) : PostS K F E T σ D' r := by
  obtain ⟨a1, a2, a3, a4⟩ := D
  obtain ⟨b1, b2, b3, b4⟩ := D'
  simp only at h1 h2 h3
  subst h1; subst h2; subst h3
  cases r with
  | ok fl ρ =>
    cases fl with
    | nx => exact absurd rfl (h ρ)
    | bk => exact p
    | ct => exact p
    | rt k => cases k <;> exact p
  | ex x ρ => exact p
  | bad => exact p
theorem js_nil : PSs X [] (tS X.K F E fun ρ => .ok .nx ρ) := pssI pss_nil fun D σ H ⟨ρ, T, m, o, p⟩ => p σ H o
theorem js_one (h : PS X st (tS X.K F E B)) : PSs X [st] (tS X.K F E B) := pss_one h
theorem js_cons (h : PS X st (tS X.K F E B)) (hr : PSs X rest (tS X.K F E C)) : PSs X (st :: rest) (tS X.K F E (seqR B C)) :=
  pssI (pss_cons h hr) fun D σ H ⟨ρ, T, m, o, p⟩ => by
    refine ⟨ρ, T, m, o, ?_⟩
    have p : PostS X.K F E T σ D ((B ρ).bind fun fl ρ1 => match fl with
      | .nx => C ρ1
      | fl => .ok fl ρ1) := p
    cases q : B ρ with
    | ok fl ρ1 =>
      rw [q] at p
      cases fl with
      | nx =>
        refine fun σ' H' o' => ⟨ρ1, T, m, o', ?_⟩
        have p : PostS X.K F E T σ D (C ρ1) := p
        cases q2 : C ρ1 with
        | ok fl2 ρ2 =>
          rw [q2] at p
          cases fl2 with
          | nx => exact p
          | bk => exact p
          | ct => exact p
          | rt k => cases k <;> exact p
        | ex x ρ2 => rw [q2] at p; exact p
        | bad => rw [q2] at p; exact p.elim
      | bk => exact p
      | ct => exact p
      | rt k => cases k <;> exact p
    | ex x ρ1 => rw [q] at p; exact p
    | bad => rw [q] at p; exact p.elim
theorem js_pass : PS X (.Pass pos) (tS X.K F E fun ρ => .ok .nx ρ) := psI ps_pass fun D σ H ⟨ρ, T, m, o, p⟩ => p σ H o
theorem js_break : PS X (.Break pos) (tS X.K F E fun ρ => .ok .bk ρ) := psI ps_break fun D σ H ⟨ρ, T, m, o, p⟩ => p σ H o
theorem js_continue : PS X (.Continue pos) (tS X.K F E fun ρ => .ok .ct ρ) := psI ps_continue fun D σ H ⟨ρ, T, m, o, p⟩ => p σ H o
theorem js_doc {x j} : PS X (.Expr (.Constant (.str x) j pos) pos') (tS X.K F E fun ρ => .ok .nx ρ) := psI ps_doc fun D σ H ⟨ρ, T, m, o, p⟩ => p σ H o
theorem js_if (hc : PT X c (tT X.K F E A)) (h1 : PSs X s1 (tS X.K F E B)) (h2 : PSs X s2 (tS X.K F E C)) : PS X (.If c s1 s2 pos) (tS X.K F E (ifS A B C)) :=
  psI (ps_if hc h1 h2) fun D σ H ⟨ρ, T, m, o, p⟩ => bdB (pf_S D) m o p fun b H1 ρ1 o1 p1 => by
    cases b with
    | true => exact ⟨ρ1, T, m, o1, p1⟩
    | false => exact ⟨ρ1, T, m, o1, p1⟩
theorem js_set (i : Nat) {x : Str} (hN : X.N.Nodup) (he : PE X e (tE X.K F E G)) (hi : X.N[i]? = some x := by rfl) (hx : Loc X.env.scope x := by first | exact Or.inl rfl | exact Or.inr rfl) (hs : swapsWith e (some (.Name x pos')) pos.line X.env = pure false := by rfl)
    (hf : X.fn x = true ∨ X.env.scope.names.lookup x = some .local := by first | exact .inl rfl | exact .inr rfl | assumption) : PS X (.Assign [.Name x pos'] e pos) (tS X.K F E (setR i G)) :=
  psI (ps_set hN hi hx (je_toVa he) hs hf) fun D σ H ⟨ρ, T, m, o, p⟩ => bdV (pf_S D) m o p fun x H1 d ρ1 o1 p1 => p1 _ H1 (o1.setVa m)
theorem js_setO (i : Nat) {x : Str} (hN : X.N.Nodup) (he : PE X e (tE X.K F E G)) (hi : X.N[i]? = some x := by rfl) (hx : Loc X.env.scope x := by first | exact Or.inl rfl | exact Or.inr rfl) (hs : swapsWith e (some (.Name x pos')) pos.line X.env = pure false := by rfl)
    (hf : X.fn x = true ∨ X.env.scope.names.lookup x = some .local := by first | exact .inl rfl | exact .inr rfl | assumption) : PS X (.Assign [.Name x pos'] e pos) (tS X.K F E (setO i G)) :=
  psI (ps_set hN hi hx he hs hf) fun D σ H ⟨ρ, T, m, o, p⟩ => by
    refine ⟨ρ, T, m, o, ?_⟩
    have p : PostS X.K F E T σ D ((G ρ).bind fun k ρ1 => match k with
      | .ow d => .ok .nx (ρ1.set i (.ow none d))
      | _ => .bad) := p
    cases q : G ρ with
    | ok k ρ1 =>
      rw [q] at p
      cases k with
      | ow d => exact fun v H' o' => p _ H' (o'.setHd m)
      | va d => exact p.elim
      | al j => exact p.elim
    | ex x ρ1 => rw [q] at p; exact fun d H' o' => p d σ H' o'
    | bad => rw [q] at p; exact p.elim
theorem js_ret (he : PE X e (tE X.K F E G)) : PS X (.Return (some e) pos) (tS X.K F E (retR G)) :=
  psI (ps_ret he) fun D σ H ⟨ρ, T, m, o, p⟩ => by
    refine ⟨ρ, T, m, o, ?_⟩
    have p : PostS X.K F E T σ D ((G ρ).bind fun k ρ1 => match k with
      | .ow d => .ok (.rt (.ow d)) ρ1
      | .va d => .ok (.rt (.va d)) ρ1
      | .al _ => .bad) := p
    cases q : G ρ with
    | ok k ρ1 =>
      rw [q] at p
      cases k with
      | ow d => exact fun v H' o' => p v σ H' o'
      | va d => exact fun v H' o' => p v σ H' o'
      | al j => exact p.elim
    | ex x ρ1 => rw [q] at p; exact fun d H' o' => p d σ H' o'
    | bad => rw [q] at p; exact p.elim
theorem js_retN : PS X (.Return none pos) (tS X.K F E fun ρ => .ok (.rt (.va .non)) ρ) := psI ps_retN fun D σ H ⟨ρ, T, m, o, p⟩ => p .non σ H (o.to ⟨o.t, rfl⟩)
theorem js_expr (he : PE X e (tE X.K F E G)) (hs : swapsWith e none pos.line X.env = pure false := by rfl) : PS X (.Expr e pos) (tS X.K F E (dropR G)) :=
  psI (ps_expr he hs) fun D σ H ⟨ρ, T, m, o, p⟩ => by
    refine ⟨ρ, T, m, o, ?_⟩
    have p : PostS X.K F E T σ D ((G ρ).bind fun _ ρ1 => .ok .nx ρ1) := p
    cases q : G ρ with
    | ok k ρ1 =>
      rw [q] at p
      cases k with
      | ow d => exact fun v H' o' => p _ H' (o'.tail m)
      | va d => exact fun v H' o' => p _ H' (o'.weak fun _ z => z.1)
      | al j => exact fun v H' o' => p _ H' (o'.weak fun _ z => z.1)
    | ex x ρ1 => rw [q] at p; exact fun d H' o' => p d σ H' o'
    | bad => rw [q] at p; exact p.elim
/-! changing a slot's own list -/
def lstAt (i : Nat) (ρ : List Ent) : Bool := match ρ[i]? with
  | some (.ow _ (.lst _)) => true
  | _ => false
def appR (Gx G : List Ent → R Kd) (ρ : List Ent) : R Kd := (Gx ρ).bind fun k ρ0 => match k with
  | .al i => if lstAt i ρ0 then (toVa (G ρ0)).bind fun k ρ1 => match k with
    | .va d => match ρ1[i]? with
      | some (.ow n (.lst ds)) => if ds.length < big then .ok (.va .non) (ρ1.set i (.ow n (.lst (ds ++ [d])))) else .bad
      | _ => .bad
    | _ => .bad
    else .bad
  | _ => .bad
theorem je_append {o : Expr} {apos : Pos} {Gx : List Ent → R Kd} (ho : PE X o (tE X.K F E Gx)) (he : PE X e (tE X.K F E G))
    (hbase : attributeBase o "append" X.env (eval o X.env) = eval o X.env := by rfl)
    (hfew : ((backTo pos (starEach [e] X.env)).all (fun x => !x.1) && (backToKw pos (keywordEach [] X.env)).all (fun x => x.1.isSome)
      && decide ([e].length + ([] : List Keyword).length + (if ([] : List Keyword).isEmpty then 0 else 1) < 30)) = true := by rfl)
    (hline : (apos.endLine == pos.line) = true := by rfl) (hs : starEach [e] X.env = (false, eval e X.env) :: starEach [] X.env := by rfl) (hplain : (backTo pos (starEach [] X.env)).any (·.1) = false := by rfl) :
    PE X (.Call (.Attribute o "append" apos) [e] [] pos) (tE X.K F E (appR Gx G)) :=
  peI (pe_bm PySem.F.plainAttrs_list PySem.F.slot_list_append PySem.F.type_list_append mt_append ho (pa_cons (je_toVa he) pa_nil hs) hbase hfew hline hs hplain) fun σ H Q ⟨ρ, T, m, o, p⟩ => by
    refine ⟨ρ, T, m, o, ?_⟩
    unfold appR at p
    cases q : Gx ρ with
    | bad => rw [q] at p; exact p.elim
    | ex x ρ1 => rw [q] at p; exact p
    | ok k ρ0 =>
      rw [q] at p
      cases k with
      | va d => exact p.elim
      | ow d => exact p.elim
      | al i =>
        intro v H0 o0
        have hv : σ[i]? = some (some v) := o0.t.2
        have p : PostE X.K F E T σ Q (if lstAt i ρ0 then (toVa (G ρ0)).bind fun k ρ1 => match k with
          | .va d => match ρ1[i]? with
            | some (.ow n (.lst ds)) => if ds.length < big then .ok (.va .non) (ρ1.set i (.ow n (.lst (ds ++ [d])))) else .bad
            | _ => .bad
          | _ => .bad
          else .bad) := p
        split at p
        case isFalse => exact p.elim
        rename_i hl
        -- the receiver is a list as it stands
        have ty : tyV X.K "list" v H0 := by
          unfold lstAt at hl
          split at hl
          · rename_i n ds hi
            obtain ⟨a, h1, mu, a', xs, h2, h3, h4⟩ := o0.own hi
            rw [hv] at h1
            cases h1
            cases h2
            exact .inl ⟨rfl, xs, SqL.of h3⟩
          · cases hl
        refine ⟨ty, bdV (pf_E Q) m (o0.weak fun _ z => z.1) p fun x H1 d ρ1 o1 p1 => ?_⟩
        have p1 : PostE X.K F E T σ Q (match ρ1[i]? with
          | some (.ow n (.lst ds)) => if ds.length < big then .ok (.va .non) (ρ1.set i (.ow n (.lst (ds ++ [d])))) else .bad
          | _ => .bad) := p1
        split at p1
        · rename_i n ds hi
          split at p1
          · rename_i hz
            obtain ⟨a, h1, mu, a', xs, h2, h3, h4⟩ := o1.own hi
            rw [hv] at h1
            cases h1
            cases h2
            refine ⟨a, xs, x, rfl, rfl, h3, big_lt (by rw [h4.len]; exact hz), ?_⟩
            obtain ⟨o2, _⟩ := o1.setOw (H' := upd H1 a (.lst (xs ++ [x]))) (d' := .lst (ds ++ [d])) (m.and mono_rp) hi hv (fun b o nb e => by rw [upd_ne nb]; exact e) ⟨_, upd_same⟩ True.intro fun s => ⟨a, _, rfl, upd_same, (h4.mono s).append (RpL.one (o1.t.2.mono s))⟩
            exact p1 _ _ (o2.weak fun _ z => ⟨z.1, rfl⟩)
          · exact p1.elim
        · exact p1.elim
end
end DL

namespace DL
open PySem PySem.Spec PyProof.Rows L2

/-! ### x[i] = e of a slot's own list -/
def setIx (Gx Gi G : List Ent → R Kd) (ρ : List Ent) : R Fl := (toVa (G ρ)).bind fun k ρ0 => match k with
  | .va d => (Gx ρ0).bind fun kx ρ1 => match kx with
    | .al i => (fz (Gi ρ1)).bind fun ki ρ2 => match cont ρ2 ki with
      | some (.int z) => match ρ2[i]? with
        | some (.ow n (.lst ds)) => match ixN ds.length z with
          | some j => .ok .nx (ρ2.set i (.ow n (.lst (ds.set j d))))
          | none => .bad
        | _ => .bad
      | _ => .bad
    | _ => .bad
  | _ => .bad
section
variable {X : Cx} {F : Fr} {E : XK} {e o ix : Expr} {pos p2 : Pos} {G Gx Gi : List Ent → R Kd}
theorem js_setIx (he : PE X e (tE X.K F E G)) (ho : PE X o (tE X.K F E Gx)) (hi : PE X ix (tE X.K F E Gi)) (hs : swapsWithSole [.Subscript o ix p2] e pos.line X.env = pure false := by rfl) (hw : swappedStores [.Subscript o ix p2] e X.env = pure none := by rfl)
    (h1 : (assignEach [.Subscript o ix p2] X.env).map (·.2) = [assign (.Subscript o ix p2) X.env] := by rfl)
    (ha : ∀ v, assign (.Subscript o ix p2) X.env v = (do
      let ov ← holding [v] (eval o X.env)
      let iv ← holding [v, ov] (eval ix X.env)
      standAt p2
      holding [v, ov, iv] (setItem ov iv v)
      release [v, ov, iv] []) := by intro _; rfl) : PS X (.Assign [.Subscript o ix p2] e pos) (tS X.K F E (setIx Gx Gi G)) :=
  psI (ps_asg (je_toVa he) (pg_sub ho (je_fz hi) set_list ha) hs hw h1) fun D σ H ⟨ρ, T, m, o, p⟩ => bdV (pf_S D) m o p fun x H1 d ρ0 o0 p0 => by
    have m0 : Mono fun h => T h ∧ Rp X.K h d x := m.and mono_rp
    have p0 : PostS X.K F E T σ D ((Gx ρ0).bind fun kx ρ1 => match kx with
      | .al i => (fz (Gi ρ1)).bind fun ki ρ2 => match cont ρ2 ki with
        | some (.int z) => match ρ2[i]? with
          | some (.ow n (.lst ds)) => match ixN ds.length z with
            | some j => .ok .nx (ρ2.set i (.ow n (.lst (ds.set j d))))
            | none => .bad
          | _ => .bad
        | _ => .bad
      | _ => .bad) := p0
    refine ⟨ρ0, _, m0, o0, ?_⟩
    cases q : Gx ρ0 with
    | bad => rw [q] at p0; exact p0.elim
    | ex y ρ1 => rw [q] at p0; exact fun d' H' o' => p0 d' σ H' (o'.weak fun _ z => ⟨z.1.1, z.2⟩)
    | ok k ρ1 =>
      rw [q] at p0
      cases k with
      | va d' => exact p0.elim
      | ow d' => exact p0.elim
      | al i =>
        intro v H2 o2
        have hv : σ[i]? = some (some v) := o2.t.2
        have p0 : PostS X.K F E T σ D ((fz (Gi ρ1)).bind fun ki ρ2 => match cont ρ2 ki with
          | some (.int z) => match ρ2[i]? with
            | some (.ow n (.lst ds)) => match ixN ds.length z with
              | some j => .ok .nx (ρ2.set i (.ow n (.lst (ds.set j d))))
              | none => .bad
            | _ => .bad
          | _ => .bad) := p0
        refine bdE (T := fun h => T h ∧ Rp X.K h d x) (pf_S D) m0 (o2.weak fun _ z => z.1) ((pf_S D).pw _ _ _ (fun _ z => z.1) p0) fun w H3 ki ρ2 o3 p3 => ?_
        split at p3
        · rename_i z c
          split at p3
          · rename_i n ds hi
            split at p3
            · rename_i j hj
              have rz := kat_top (T := fun h => T h ∧ Rp X.K h d x) o3 c
              obtain ⟨a, h1, mu, a', xs, h2, h3, h4⟩ := o3.own hi
              rw [hv] at h1
              cases h1
              cases h2
              refine ⟨a, xs, z, j, rfl, rz, h3, by rw [h4.len]; exact hj, ?_⟩
              obtain ⟨o4, _⟩ := o3.setOw (H' := upd H3 a (.lst (xs.set j x))) (d' := .lst (ds.set j d)) (m0.and mono_kat) hi hv (fun b o nb e => by rw [upd_ne nb]; exact e) ⟨_, upd_same⟩ True.intro fun s => ⟨a, _, rfl, upd_same, RpL.set j (h4.mono s) (o3.t.1.2.mono s)⟩
              exact p3 _ _ (o4.weak fun _ z => z.1)
            · exact p3.elim
          · exact p3.elim
        · exact p3.elim
end

/-! ### what is walked -/
structure WalkD (K : PySem.W.Frag) (J : It) (ds : List D) (TG : HT) : Prop where
  stop : ∀ (H : Hp) (M : Addr → Prop), TG (wo H M) → J.stop ds.length H
  go : ∀ (i : Nat) (d : D) (H : Hp) (M : Addr → Prop), ds[i]? = some d → TG (wo H M) → J.go i H
  yld : ∀ (i : Nat) (d : D) (x : V) (H H' : Hp) (F : Fr) (vs : List (Option V)) (es : List Ent) (T : HT), ds[i]? = some d → Mono T → Ok K F (fun h => T h ∧ TG h) H vs es → J.yld i H x H' → Ok K F (fun h => (T h ∧ TG h) ∧ Rp K h d x) H' vs es
def PostI (K : PySem.W.Frag) (F : Fr) (E : XK) (T : HT) (σ : L2.St) (Rr : It → Hp → Prop) : R (List D) → Prop
  | .ok ds ρ => ∀ (J : It) (H' : Hp) (TG : HT), Mono TG → WalkD K J ds TG → Ok K F (fun h => T h ∧ TG h) H' σ ρ → Rr J H'
  | .ex x ρ => PostX K F E T σ x ρ
  | .bad => False
def tI (K : PySem.W.Frag) (F : Fr) (E : XK) (G : List Ent → R (List D)) : TI := fun σ H Rr => ∃ ρ T, Mono T ∧ Ok K F T H σ ρ ∧ PostI K F E T σ Rr (G ρ)
theorem piI {X : Cx} {tg e : Expr} {t t' : TI} (h : PI X tg e t) (w : ∀ σ H Q, t' σ H Q → t σ H Q) : PI X tg e t' := ⟨fun pins s σ H Q I q => h.run pins s σ H Q I (w σ H Q q)⟩
section
variable {K : PySem.W.Frag}
theorem walkD_list {a : Addr} {xs : List V} {ds : List D} : WalkD K (Itl K a) ds (fun h => h a = some (.lst xs) ∧ RpL K h ds xs) where
  stop := fun H M z => ⟨xs, SqL.of ((wo_some z.1).2), by rw [z.2.len]; exact Nat.le_refl _⟩
  go := fun i d H M q z => by
    obtain ⟨x, e, _⟩ := z.2.get q
    exact ⟨xs, x, SqL.of ((wo_some z.1).2), e⟩
  yld := fun i d x H H' F vs es T q m o y => by
    obtain ⟨e1, e2⟩ := y
    subst e1
    have h1 := e2 xs (SqL.of ((wo_some o.t.2.1).2))
    obtain ⟨x', e3, r⟩ := o.t.2.2.get q
    rw [h1] at e3
    cases e3
    exact o.to ⟨o.t, r⟩
theorem walkD_tup {a : Addr} {xs : List V} {ds : List D} : WalkD K (Itt K a) ds (fun h => SqT K h a xs ∧ RpL K h ds xs) where
  stop := fun H M z => ⟨xs, SqT.mono wo_le z.1, by rw [z.2.len]; exact Nat.le_refl _⟩
  go := fun i d H M q z => by
    obtain ⟨x, e, _⟩ := z.2.get q
    exact ⟨xs, x, SqT.mono wo_le z.1, e⟩
  yld := fun i d x H H' F vs es T q m o y => by
    obtain ⟨e1, e2⟩ := y
    subst e1
    have h1 := e2 xs (SqT.mono wo_le o.t.2.1)
    obtain ⟨x', e3, r⟩ := o.t.2.2.get q
    rw [h1] at e3
    cases e3
    exact o.to ⟨o.t, r⟩
def rangeD (lo : Int) (n : Nat) : List D := (List.range n).map fun i => .int (lo + (i : Nat))
theorem walkD_range {lo : Int} {n : Nat} : WalkD K (Itr lo n) (rangeD lo n) (fun _ => True) where
  stop := fun H M z => by show n ≤ (rangeD lo n).length; unfold rangeD; simp
  go := fun i d H M q z => by
    have := (List.getElem?_eq_some_iff.mp q).1
    unfold rangeD at this
    show i < n
    simpa using this
  yld := fun i d x H H' F vs es T q m o y => by
    obtain ⟨e1, e2⟩ := y
    subst e1
    refine o.to ⟨o.t, ?_⟩
    unfold rangeD at q
    rw [List.getElem?_map] at q
    cases h : (List.range n)[i]? with
    | none => rw [h] at q; cases q
    | some j =>
      rw [h] at q
      cases q
      have := List.getElem?_eq_some_iff.mp h
      simp at this
      rw [e2, ← this.2]
      rfl
/-- a pair is made anew -/
theorem Ok.newPair {F : Fr} {T : HT} {H : Hp} {vs : List (Option V)} {es : List Ent} {p : Addr} {x y : V} {d e : D} (o : Ok K F T H vs es) (m : Mono T) (hp : H p = none) (r1 : Rp K (wo H (Ms F vs es)) d x) (r2 : Rp K (wo H (Ms F vs es)) e y) :
    Ok K F (fun h => T h ∧ Rp K h (.tup [d, e]) (.ref p)) (upd H p (.tup [x, y])) vs es := by
  obtain ⟨o', s, hw⟩ := o.new (o := .tup [x, y]) m hp
  exact o'.to ⟨o'.t, p, _, rfl, .inl (.inl hw), x, [y], rfl, r1.mono s, y, [], rfl, r2.mono s, rfl⟩
def zipD (xs ys : List D) : List D := (xs.zip ys).map fun p => .tup [p.1, p.2]
theorem zipD_get {xs ys : List D} {i : Nat} {d : D} (h : (zipD xs ys)[i]? = some d) : ∃ x y, xs[i]? = some x ∧ ys[i]? = some y ∧ d = .tup [x, y] := by
  unfold zipD at h
  rw [List.getElem?_map] at h
  cases q : (xs.zip ys)[i]? with
  | none => rw [q] at h; cases h
  | some p =>
    rw [q] at h
    cases h
    have := List.getElem?_zip_eq_some.mp q
    exact ⟨p.1, p.2, this.1, this.2, rfl⟩
theorem zipD_len (xs ys : List D) : (zipD xs ys).length = min xs.length ys.length := by unfold zipD; simp
theorem walkD_zip {a b : Addr} {xs ys : List V} {ds es : List D} : WalkD K (Itz K a b) (zipD ds es) (fun h => (h a = some (.lst xs) ∧ RpL K h ds xs) ∧ (h b = some (.lst ys) ∧ RpL K h es ys)) where
  stop := fun H M z => (walk_zip rfl).stops H ⟨SqL.of ((wo_some z.1.1).2), SqL.of ((wo_some z.2.1).2)⟩ |> fun h => by rw [zipD_len, ← z.1.2.len, ← z.2.2.len]; exact h
  go := fun i d H M q z => by
    refine (walk_zip (n := min xs.length ys.length) rfl).goes i H ?_ ⟨SqL.of ((wo_some z.1.1).2), SqL.of ((wo_some z.2.1).2)⟩
    have := (List.getElem?_eq_some_iff.mp q).1
    rw [zipD_len, ← z.1.2.len, ← z.2.2.len] at this
    exact this
  yld := fun i d x H H' F vs es' T q m o y => by
    have hl := (List.getElem?_eq_some_iff.mp q).1
    rw [zipD_len, ← o.t.2.1.2.len, ← o.t.2.2.2.len] at hl
    obtain ⟨p, u, v, e1, hp, e2, e3, e4⟩ := (walk_zip (K := K) (a := a) (b := b) (xs := xs) (ys := ys) (n := min xs.length ys.length) rfl).yields i H x H' hl ⟨SqL.of ((wo_some o.t.2.1.1).2), SqL.of ((wo_some o.t.2.2.1).2)⟩ y
    obtain ⟨d1, d2, q1, q2, q3⟩ := zipD_get q
    subst e1; subst e2; subst q3
    obtain ⟨u', k1, r1⟩ := o.t.2.1.2.get q1
    obtain ⟨v', k2, r2⟩ := o.t.2.2.2.get q2
    have e3 : xs[i]? = some u := e3
    have e4 : ys[i]? = some v := e4
    rw [e3] at k1
    rw [e4] at k2
    cases k1; cases k2
    exact o.newPair (m.and fun h h' s z => ⟨⟨s _ _ z.1.1, z.1.2.mono s⟩, s _ _ z.2.1, z.2.2.mono s⟩) hp r1 r2
def enumD (xs : List D) : List D := xs.mapIdx fun i d => .tup [.int (i : Nat), d]
theorem enumD_get {xs : List D} {i : Nat} {d : D} (h : (enumD xs)[i]? = some d) : ∃ x, xs[i]? = some x ∧ d = .tup [.int (i : Nat), x] := by
  unfold enumD at h
  rw [List.getElem?_mapIdx] at h
  cases q : xs[i]? with
  | none => rw [q] at h; cases h
  | some p => rw [q] at h; cases h; exact ⟨p, rfl, rfl⟩
theorem walkD_enum {a : Addr} {xs : List V} {ds : List D} : WalkD K (Ite K a) (enumD ds) (fun h => h a = some (.lst xs) ∧ RpL K h ds xs) where
  stop := fun H M z => by
    have := (walk_enum (K := K) (a := a) (xs := xs)).stops H (SqL.of ((wo_some z.1).2))
    rw [show (enumD ds).length = xs.length by unfold enumD; rw [z.2.len]; simp]
    exact this
  go := fun i d H M q z => by
    refine (walk_enum (K := K) (a := a) (xs := xs)).goes i H ?_ (SqL.of ((wo_some z.1).2))
    have := (List.getElem?_eq_some_iff.mp q).1
    unfold enumD at this
    rw [z.2.len]
    simpa using this
  yld := fun i d x H H' F vs es' T q m o y => by
    have hl := (List.getElem?_eq_some_iff.mp q).1
    have hl : i < xs.length := by unfold enumD at hl; rw [o.t.2.2.len]; simpa using hl
    obtain ⟨p, u, v, e1, hp, e2, e3, e4⟩ := (walk_enum (K := K) (a := a) (xs := xs)).yields i H x H' hl (SqL.of ((wo_some o.t.2.1).2)) y
    obtain ⟨d2, q2, q3⟩ := enumD_get q
    subst e1; subst e2; subst q3
    obtain ⟨v', k2, r2⟩ := o.t.2.2.get q2
    have e4 : xs[i]? = some v := e4
    rw [e4] at k2
    cases k2; cases e3
    exact o.newPair (m.and fun h h' s z => ⟨s _ _ z.1, z.2.mono s⟩) hp rfl r2
end
def seqI (G : List Ent → R Kd) (ρ : List Ent) : R (List D) := (toVa (G ρ)).bind fun k ρ1 => match k with
  | .va d => match itemsD d with
    | some ds => .ok ds ρ1
    | none => .bad
  | _ => .bad
def rng1I (GA : List Ent → R (List Kd)) (ρ : List Ent) : R (List D) := (GA ρ).bind fun ks ρ1 => match ks with
  | [.va (.int j)] => if -(2 ^ 62) ≤ j ∧ j < 2 ^ 62 then .ok (rangeD 0 j.toNat) ρ1 else .bad
  | _ => .bad
def rng2I (GA : List Ent → R (List Kd)) (ρ : List Ent) : R (List D) := (GA ρ).bind fun ks ρ1 => match ks with
  | [.va (.int i), .va (.int j)] => if -(2 ^ 62) ≤ i ∧ i < 2 ^ 62 ∧ -(2 ^ 62) ≤ j ∧ j < 2 ^ 62 then .ok (rangeD i (j - i).toNat) ρ1 else .bad
  | _ => .bad
def zipI (GA : List Ent → R (List Kd)) (ρ : List Ent) : R (List D) := (GA ρ).bind fun ks ρ1 => match ks with
  | [.va (.lst xs), .va (.lst ys)] => .ok (zipD xs ys) ρ1
  | [.va (.tup xs), .va (.tup ys)] => .ok (zipD xs ys) ρ1
  | _ => .bad
def enumI (GA : List Ent → R (List Kd)) (ρ : List Ent) : R (List D) := (GA ρ).bind fun ks ρ1 => match ks with
  | [.va (.lst xs)] => .ok (enumD xs) ρ1
  | _ => .bad
section
variable {X : Cx} {F : Fr} {E : XK} {e a b tg : Expr} {pos p : Pos} {G : List Ent → R Kd} {GA : List Ent → R (List Kd)}
theorem pf_I {K : PySem.W.Frag} {σ : L2.St} (Q : It → Hp → Prop) : PF K F E σ (fun T r => PostI K F E T σ Q r) := ⟨fun _ _ _ p => p, fun _ p => p, fun T T' r w p => by
  cases r with
  | ok ds ρ' => exact fun J H' TG mg wk o => p J H' TG mg wk (o.weak fun h z => ⟨w h z.1, z.2⟩)
  | ex x ρ' => exact PostX.weak p w
  | bad => exact p⟩
theorem ji_seq (he : PE X e (tE X.K F E G)) : PI X tg e (tI X.K F E (seqI G)) := by
  refine ⟨fun pins s σ H Rr I ⟨ρ, T, m, o, p⟩ => ?_⟩
  have he' := je_toVa he
  have p : PostI X.K F E T σ Rr ((toVa (G ρ)).bind fun k ρ1 => match k with
    | .va d => match itemsD d with
      | some ds => .ok ds ρ1
      | none => .bad
    | _ => .bad) := p
  cases q : toVa (G ρ) with
  | ok k ρ1 =>
    rw [q] at p
    cases k with
    | va d =>
      cases d with
      | lst ds =>
        refine (pi_list he').run pins s σ H Rr I ⟨ρ, T, m, o, ?_⟩
        show PostE X.K F E T σ _ (toVa (G ρ))
        rw [q]
        intro v H' o'
        obtain ⟨a, xs, e1, e2, e3⟩ := o'.t.2
        exact ⟨a, e1, ⟨xs, SqL.of ((wo_some e2).2)⟩, p _ H' _ (fun h h' s z => ⟨s _ _ z.1, z.2.mono s⟩) walkD_list (o'.to ⟨o'.t.1, e2, e3⟩)⟩
      | tup ds =>
        refine (pi_tup he').run pins s σ H Rr I ⟨ρ, T, m, o, ?_⟩
        show PostE X.K F E T σ _ (toVa (G ρ))
        rw [q]
        intro v H' o'
        obtain ⟨a, xs, e1, e2, e3⟩ := o'.t.2
        exact ⟨a, e1, ⟨xs, SqT.mono wo_le e2⟩, p _ H' _ (fun h h' s z => ⟨SqT.mono s z.1, z.2.mono s⟩) walkD_tup (o'.to ⟨o'.t.1, e2, e3⟩)⟩
      | non => exact p.elim
      | bl _ => exact p.elim
      | int _ => exact p.elim
      | str _ => exact p.elim
      | ins _ _ => exact p.elim
      | dic _ => exact p.elim
      | scr _ => exact p.elim
    | ow d => exact p.elim
    | al i => exact p.elim
  | ex x ρ1 =>
    rw [q] at p
    refine (pi_list he').run pins s σ H Rr I ⟨ρ, T, m, o, ?_⟩
    show PostE X.K F E T σ _ (toVa (G ρ))
    rw [q]
    exact p
  | bad => rw [q] at p; exact p.elim
theorem ji_range1 (hg : Gl X "range") (hm : X.mg "range" = none) (ha : PA X [a] (tA X.K F E GA)) (hs : starEach [a] X.env = [(false, eval a X.env)] := by rfl) : PI X tg (.Call (.Name "range" p) [a] [] pos) (tI X.K F E (rng1I GA)) :=
  piI (pi_range1 hg hm ha hs) fun σ H Rr ⟨ρ, T, m, o, p⟩ => bdA (pf_I Rr) m o p fun vs H1 ks ρ1 o1 p1 => by
    split at p1
    · rename_i j
      split at p1
      · rename_i hj
        obtain ⟨y, ys, e1, e2, e3⟩ := o1.t.2
        exact ⟨j, by rw [e1, show ys = [] from e3, show y = _ from e2], hj.1, hj.2, p1 _ _ _ (fun _ _ _ z => z) walkD_range (o1.weak fun _ z => ⟨z.1, True.intro⟩)⟩
      · exact p1.elim
    · exact p1.elim
theorem ji_range2 (hg : Gl X "range") (hm : X.mg "range" = none) (ha : PA X [a, b] (tA X.K F E GA)) (hs : starEach [a, b] X.env = [(false, eval a X.env), (false, eval b X.env)] := by rfl) (hs2 : starEach [b] X.env = [(false, eval b X.env)] := by rfl) : PI X tg (.Call (.Name "range" p) [a, b] [] pos) (tI X.K F E (rng2I GA)) :=
  piI (pi_range2 hg hm ha hs hs2) fun σ H Rr ⟨ρ, T, m, o, p⟩ => bdA (pf_I Rr) m o p fun vs H1 ks ρ1 o1 p1 => by
    split at p1
    · rename_i i j
      split at p1
      · rename_i hj
        obtain ⟨y, ys, e1, e2, y2, ys2, e3, e4, e5⟩ := o1.t.2
        exact ⟨i, j, by rw [e1, e3, show ys2 = [] from e5, show y = _ from e2, show y2 = _ from e4], hj, p1 _ _ _ (fun _ _ _ z => z) walkD_range (o1.weak fun _ z => ⟨z.1, True.intro⟩)⟩
      · exact p1.elim
    · exact p1.elim
end
end DL

namespace DL
open PySem PySem.Spec PyProof.Rows L2

/-! ### zip, enumerate -/
section
variable {K : PySem.W.Frag}
theorem walkD_zipT {a b : Addr} {xs ys : List V} {ds es : List D} : WalkD K (RZ.ItzT K a b) (zipD ds es) (fun h => (SqT K h a xs ∧ RpL K h ds xs) ∧ (SqT K h b ys ∧ RpL K h es ys)) where
  stop := fun H M z => ⟨xs, ys, SqT.mono wo_le z.1.1, SqT.mono wo_le z.2.1, by rw [zipD_len, ← z.1.2.len, ← z.2.2.len]; omega⟩
  go := fun i d H M q z => by
    obtain ⟨d1, d2, q1, q2, _⟩ := zipD_get q
    obtain ⟨u, k1, _⟩ := z.1.2.get q1
    obtain ⟨v, k2, _⟩ := z.2.2.get q2
    exact ⟨xs, ys, u, v, SqT.mono wo_le z.1.1, SqT.mono wo_le z.2.1, k1, k2⟩
  yld := fun i d x H H' F vs es' T q m o y => by
    obtain ⟨p, u, v, e1, hp, e2, e3, e4⟩ := y
    obtain ⟨d1, d2, q1, q2, q3⟩ := zipD_get q
    subst e1; subst e2; subst q3
    obtain ⟨u', k1, r1⟩ := o.t.2.1.2.get q1
    obtain ⟨v', k2, r2⟩ := o.t.2.2.2.get q2
    have e3 := e3 xs (SqT.mono wo_le o.t.2.1.1)
    have e4 := e4 ys (SqT.mono wo_le o.t.2.2.1)
    rw [e3] at k1
    rw [e4] at k2
    cases k1; cases k2
    exact o.newPair (m.and fun h h' s z => ⟨⟨SqT.mono s z.1.1, z.1.2.mono s⟩, SqT.mono s z.2.1, z.2.2.mono s⟩) hp r1 r2
end
section
variable {X : Cx} {F : Fr} {E : XK} {e a b tg : Expr} {pos p tpos : Pos} {elts : List Expr} {kk : Nat} {G : List Ent → R Kd} {GA : List Ent → R (List Kd)}
theorem ji_zip (hg : Gl X "zip") (hm : X.mg "zip" = none) (ha : PA X [a, b] (tA X.K F E GA)) (hs : starEach [a, b] X.env = (false, eval a X.env) :: starEach [b] X.env := by rfl) (hpl : (backTo pos (starEach [b] X.env)).any (·.1) = false := by rfl) :
    PI X (.Tuple elts kk tpos) (.Call (.Name "zip" p) [a, b] [] pos) (tI X.K F E (zipI GA)) :=
  piI (RZ.pi_zipA hg hm ha hs hpl) fun σ H Rr ⟨ρ, T, m, o, p⟩ => bdA (pf_I Rr) m o p fun vs H1 ks ρ1 o1 p1 => by
    split at p1
    · rename_i xs ys
      obtain ⟨y, ys', e1, ⟨a1, us, f1, f2, f3⟩, y2, ys2, e3, ⟨a2, ws, g1, g2, g3⟩, e5⟩ := o1.t.2
      exact ⟨a1, a2, us, ws, by rw [e1, e3, show ys2 = [] from e5, f1, g1], .inl ⟨SqL.of ((wo_some f2).2), SqL.of ((wo_some g2).2), p1 _ _ _ (fun h h' s z => ⟨⟨s _ _ z.1.1, z.1.2.mono s⟩, s _ _ z.2.1, z.2.2.mono s⟩) walkD_zip (o1.to ⟨o1.t.1, ⟨f2, f3⟩, g2, g3⟩)⟩⟩
    · rename_i xs ys
      obtain ⟨y, ys', e1, ⟨a1, us, f1, f2, f3⟩, y2, ys2, e3, ⟨a2, ws, g1, g2, g3⟩, e5⟩ := o1.t.2
      exact ⟨a1, a2, us, ws, by rw [e1, e3, show ys2 = [] from e5, f1, g1], .inr ⟨SqT.mono wo_le f2, SqT.mono wo_le g2, p1 _ _ _ (fun h h' s z => ⟨⟨SqT.mono s z.1.1, z.1.2.mono s⟩, SqT.mono s z.2.1, z.2.2.mono s⟩) walkD_zipT (o1.to ⟨o1.t.1, ⟨f2, f3⟩, g2, g3⟩)⟩⟩
    · exact p1.elim
theorem ji_enum (hg : Gl X "enumerate") (hm : X.mg "enumerate" = none) (ha : PA X [a] (tA X.K F E GA)) (hs : starEach [a] X.env = [(false, eval a X.env)] := by rfl) :
    PI X (.Tuple elts kk tpos) (.Call (.Name "enumerate" p) [a] [] pos) (tI X.K F E (enumI GA)) :=
  piI (pi_enum hg hm ha hs) fun σ H Rr ⟨ρ, T, m, o, p⟩ => bdA (pf_I Rr) m o p fun vs H1 ks ρ1 o1 p1 => by
    split at p1
    · rename_i xs
      obtain ⟨y, ys', e1, ⟨a1, us, f1, f2, f3⟩, e5⟩ := o1.t.2
      exact ⟨a1, us, by rw [e1, show ys' = [] from e5, f1], SqL.of ((wo_some f2).2), p1 _ _ _ (fun h h' s z => ⟨s _ _ z.1, z.2.mono s⟩) walkD_enum (o1.to ⟨o1.t.1, f2, f3⟩)⟩
    · exact p1.elim
end

/-! ### targets: what is stored where -/
def TgD (K : PySem.W.Frag) (g : TG) (js : List Nat) (f : D → List Ent → Option (List Ent)) : Prop :=
  ∀ (F : Fr) (d : D) (v : V) (σ : L2.St) (H : Hp) (ρ ρ' : List Ent) (T : HT) (Q : L2.St → Hp → Prop), Mono T → Ok K F (fun h => T h ∧ Rp K h d v) H σ ρ → f d ρ = some ρ' → (∀ σ' H', (∀ i, i ∉ js → σ'[i]? = σ[i]?) → σ'.length = σ.length → Ok K F T H' σ' ρ' → Q σ' H') → g v σ H Q
def nameT (i : Nat) (d : D) (ρ : List Ent) : Option (List Ent) := some (ρ.set i (.va d))
theorem tgD_name {K : PySem.W.Frag} (i : Nat) : TgD K (gName i) [i] (nameT i) := fun F d v σ H ρ ρ' T Q m o e q => by
  cases e
  exact q _ H (fun j hj => List.getElem?_set_ne (fun z => hj (by rw [z]; exact List.mem_singleton.mpr rfl))) (List.length_set ..) (o.setVa m)
def pairT (f1 f2 : D → List Ent → Option (List Ent)) (d : D) (ρ : List Ent) : Option (List Ent) := match d with
  | .tup [d1, d2] => match f1 d1 ρ with
    | some ρ1 => f2 d2 ρ1
    | none => none
  | _ => none
theorem tgD_pair {K : PySem.W.Frag} {g1 g2 : TG} {js1 js2 : List Nat} {f1 f2 : D → List Ent → Option (List Ent)} (h1 : TgD K g1 js1 f1) (h2 : TgD K g2 js2 f2) : TgD K (gTup K 2 (gCons g1 (gCons g2 gNil))) (js1 ++ js2) (pairT f1 f2) := fun F d v σ H ρ ρ' T Q m o e q => by
  unfold pairT at e
  split at e
  · rename_i d1 d2
    cases e1 : f1 d1 ρ with
    | none => rw [e1] at e; cases e
    | some ρ1 =>
      rw [e1] at e
      obtain ⟨a, xs, k1, k2, x1, xs1, k3, r1, x2, xs2, k4, r2, k5⟩ := o.t.2
      refine ⟨a, xs, k1, SqT.mono wo_le k2, by rw [k3, k4, show xs2 = [] from k5]; rfl, x1, xs1, k3, ?_⟩
      refine h1 F d1 x1 σ H ρ ρ1 (fun h => T h ∧ Rp K h d2 x2) _ (m.and mono_rp) (o.to ⟨⟨o.t.1, r2⟩, r1⟩) e1 fun σ1 H1 s1 l1 o1 => ?_
      refine ⟨x2, xs2, k4, h2 F d2 x2 σ1 H1 ρ1 ρ' T _ m o1 e fun σ2 H2 s2 l2 o2 => ⟨k5, q σ2 H2 (fun i hi => ?_) (l2.trans l1) o2⟩⟩
      rw [s2 i (fun z => hi (List.mem_append_right _ z)), s1 i (fun z => hi (List.mem_append_left _ z))]
  · cases e
section
variable {X : Cx} {F : Fr} {E : XK} {pos : Pos} {e1 e2 : Expr} {k : Nat} {g1 g2 : TG}
theorem jg_name (i : Nat) {x : Str} (hN : X.N.Nodup) (hi : X.N[i]? = some x := by rfl) (hx : Loc X.env.scope x := by first | exact Or.inl rfl | exact Or.inr rfl) (hf : X.fn x = true ∨ X.env.scope.names.lookup x = some .local := by first | exact .inl rfl | exact .inr rfl | assumption) : PG X (.Name x pos) (gName i) := pg_name hN hi hx hf
theorem jg_pair (hc : X.calm = true) (h1 : PG X e1 g1) (h2 : PG X e2 g2) (hs1 : (assignEach [e1, e2] X.env).map (·.2) = assign e1 X.env :: (assignEach [e2] X.env).map (·.2) := by rfl) (hs2 : (assignEach [e2] X.env).map (·.2) = assign e2 X.env :: (assignEach [] X.env).map (·.2) := by rfl)
    (hn : (assignEach [e1, e2] X.env).length = 2 := by rfl) (hst : (assignEach [e1, e2] X.env).findIdx? (·.1) = none := by rfl) : PG X (.Tuple [e1, e2] k pos) (gTup X.K 2 (gCons g1 (gCons g2 gNil))) := pg_tup hc (pgs_cons h1 (pgs_cons h2 pgs_nil hs2) hs1) hn hst
end
/-! ### for -/
def forR (f : D → List Ent → Option (List Ent)) (B : List Ent → R Fl) : List D → List Ent → R Fl
  | [], ρ => .ok .nx ρ
  | d :: ds, ρ => match f d ρ with
    | some ρ1 => match B ρ1 with
      | .ok .nx ρ2 => forR f B ds ρ2
      | .ok .ct ρ2 => forR f B ds ρ2
      | .ok .bk ρ2 => .ok .nx ρ2
      | r => r
    | none => .bad
def forS (Gi : List Ent → R (List D)) (f : D → List Ent → Option (List Ent)) (B : List Ent → R Fl) (ρ : List Ent) : R Fl := (Gi ρ).bind fun ds ρ1 => forR f B ds ρ1
section
variable {X : Cx} {F : Fr} {E : XK} {e iter tg c : Expr} {body : List Stmt} {pos : Pos} {Gi : List Ent → R (List D)} {f : D → List Ent → Option (List Ent)} {B : List Ent → R Fl} {g : TG} {js : List Nat} {A : List Ent → R Bool}
theorem bdI {β : Type} {K : PySem.W.Frag} {σ : L2.St} {T : HT} {H : Hp} {ρ : List Ent} {P : HT → R β → Prop} (pf : PF K F E σ P) {h : List D → List Ent → R β} (m : Mono T) (o : Ok K F T H σ ρ) (p : P T ((Gi ρ).bind h)) {Q2 : It → Hp → Prop}
    (c : ∀ J H1 TG ds ρ1, Mono TG → WalkD K J ds TG → Ok K F (fun h => T h ∧ TG h) H1 σ ρ1 → P T (h ds ρ1) → Q2 J H1) : tI K F E Gi σ H Q2 := by
  refine ⟨ρ, T, m, o, ?_⟩
  cases hg : Gi ρ with
  | ok k ρ' => rw [hg] at p; exact fun J H' TG mg wk o' => c J H' TG k ρ' mg wk o' p
  | ex x ρ' => rw [hg] at p; exact pf.px _ _ _ p
  | bad => rw [hg] at p; exact (pf.pb _ p).elim
theorem PostS.irr {K : PySem.W.Frag} {T : HT} {σ σ' : L2.St} {D : Ends} {r : R Fl} (p : PostS K F E T σ D r) : PostS K F E T σ' D r := by
  cases r with
  | ok fl ρ => cases fl with
    | nx => exact p
    | bk => exact p
    | ct => exact p
    | rt k => cases k <;> exact p
  | ex x ρ => exact p
  | bad => exact p
theorem js_for (hp : PassesOwn (model X.prog X.w) X.A X.env X.xe) (hc : X.calm = true) (hi : PI X tg iter (tI X.K F E Gi)) (hg : PG X tg g) (ht : TgD X.K g js f) (hb : PSs X body (tS X.K F E B)) (hs : ∀ x, foldedSetIterable iter X.env x = pure x := by intro _; rfl) :
    PS X (.For tg iter body [] pos) (tS X.K F E (forS Gi f B)) :=
  psI (ps_for hp hc hi hg hb hs) fun D σ H ⟨ρ, T, m, o, p⟩ => bdI (pf_S D) m o p fun J H1 TG ds ρ1 mg wk o1 p1 => by
    refine ⟨fun i n σ H => n = ds.length - i ∧ i ≤ ds.length ∧ ∃ ρ, Ok X.K F (fun h => T h ∧ TG h) H σ ρ ∧ PostS X.K F E T σ D (forR f B (ds.drop i) ρ), ⟨ds.length, by simp, Nat.zero_le _, ρ1, o1, p1.irr⟩, ?_⟩
    rintro i n σ2 H2 ⟨rfl, hi, ρ2, o2, p2⟩
    by_cases hlt : i < ds.length
    · have hd : ds[i]? = some ds[i] := by simp [hlt]
      rw [List.drop_eq_getElem_cons hlt] at p2
      simp only [forR] at p2
      cases e1 : f ds[i] ρ2 with
      | none => rw [e1] at p2; exact p2.elim
      | some ρ3 =>
        rw [e1] at p2
        simp only at p2
        refine .inr ⟨wk.go i _ H2 _ hd o2.t.2, fun σ' H' => ds.length - (i + 1) < ds.length - i ∧ ∃ ρ, Ok X.K F (fun h => T h ∧ TG h) H' σ' ρ ∧ PostS X.K F E T σ' D (forR f B (ds.drop (i + 1)) ρ), fun σ' H' ⟨h1, h2⟩ => ⟨ds.length - (i + 1), h1, rfl, hlt, h2⟩, fun x H' y => ?_⟩
        have o3 := wk.yld i _ x H2 H' F σ2 ρ2 T hd m o2 y
        refine ht F ds[i] x σ2 H' ρ2 ρ3 (fun h => T h ∧ TG h) _ (m.and mg) o3 e1 fun σ4 H4 _ _ o4 => ⟨ρ3, _, m.and mg, o4, ?_⟩
        cases e2 : B ρ3 with
        | bad => rw [e2] at p2; exact p2.elim
        | ex x ρ5 => rw [e2] at p2; exact fun d σ' H' o' => p2 d σ' H' (o'.weak fun _ z => ⟨z.1.1, z.2⟩)
        | ok fl ρ5 =>
          rw [e2] at p2
          cases fl with
          | nx => exact fun σ' H' o' => ⟨by omega, ρ5, o', p2.irr⟩
          | ct => exact fun σ' H' o' => ⟨by omega, ρ5, o', p2.irr⟩
          | bk => exact fun σ' H' o' => p2 σ' H' (o'.weak fun _ z => z.1)
          | rt k => cases k with
            | ow d => exact fun v σ' H' o' => p2 v σ' H' (o'.weak fun _ z => z.1)
            | va d => exact fun v σ' H' o' => p2 v σ' H' (o'.weak fun _ z => ⟨z.1.1, z.2⟩)
            | al j => exact p2.elim
    · have e : i = ds.length := by omega
      subst e
      rw [List.drop_length] at p2
      exact .inl ⟨wk.stop H2 _ o2.t.2, p2 σ2 H2 (o2.weak fun _ z => z.1)⟩
/-! ### while -/
def whileR (A : List Ent → R Bool) (B : List Ent → R Fl) : Nat → List Ent → R Fl
  | 0, _ => .bad
  | n + 1, ρ => (A ρ).bind fun b ρ1 => if b then match B ρ1 with
    | .ok .nx ρ2 => whileR A B n ρ2
    | .ok .ct ρ2 => whileR A B n ρ2
    | .ok .bk ρ2 => .ok .nx ρ2
    | r => r
    else .ok .nx ρ1
theorem js_while (fuel : List Ent → Nat) (hp : PassesOwn (model X.prog X.w) X.A X.env X.xe) (hc : PT X c (tT X.K F E A)) (hb : PSs X body (tS X.K F E B)) : PS X (.While c body [] pos) (tS X.K F E fun ρ => whileR A B (fuel ρ) ρ) :=
  psI (ps_while hp hc hb) fun D σ H ⟨ρ, T, m, o, p⟩ => by
    refine ⟨fun n σ H => ∃ ρ, Ok X.K F T H σ ρ ∧ PostS X.K F E T σ D (whileR A B n ρ), ⟨fuel ρ, ρ, o, p⟩, ?_⟩
    rintro n σ1 H1 ⟨ρ1, o1, p1⟩
    cases n with
    | zero => exact p1.elim
    | succ n =>
      refine bdB (pf_S D) m o1 p1 fun b H2 ρ2 o2 p2 => ?_
      cases b with
      | false =>
        rw [if_neg Bool.false_ne_true]
        exact p2 σ1 H2 o2
      | true =>
        rw [if_pos rfl]
        have p2 : PostS X.K F E T σ1 D (match B ρ2 with
          | .ok .nx ρ2 => whileR A B n ρ2
          | .ok .ct ρ2 => whileR A B n ρ2
          | .ok .bk ρ2 => .ok .nx ρ2
          | r => r) := p2
        refine ⟨fun σ' H' => ∃ ρ, Ok X.K F T H' σ' ρ ∧ PostS X.K F E T σ' D (whileR A B n ρ), fun σ' H' h => ⟨n, Nat.lt_succ_self n, h⟩, ρ2, T, m, o2, ?_⟩
        cases e2 : B ρ2 with
        | bad => rw [e2] at p2; exact p2.elim
        | ex x ρ5 => rw [e2] at p2; exact p2
        | ok fl ρ5 =>
          rw [e2] at p2
          cases fl with
          | nx => exact fun σ' H' o' => ⟨ρ5, o', p2.irr⟩
          | ct => exact fun σ' H' o' => ⟨ρ5, o', p2.irr⟩
          | bk => exact p2
          | rt k => cases k <;> exact p2
end
end DL

namespace DL
open PySem PySem.Spec PyProof.Rows L2

/-! ### list comprehensions -/
def wipeE (ρ : List Ent) : List Nat → List Ent
  | [] => ρ
  | v :: vs => (wipeE ρ vs).set v .no
theorem wipeE_len (ρ : List Ent) : ∀ vs : List Nat, (wipeE ρ vs).length = ρ.length
  | [] => rfl
  | v :: vs => by unfold wipeE; rw [List.length_set, wipeE_len ρ vs]
theorem wipeE_get {ρ : List Ent} {j : Nat} {e : Ent} (ne : e ≠ .no) : ∀ {vs : List Nat}, (wipeE ρ vs)[j]? = some e → ρ[j]? = some e ∧ j ∉ vs
  | [], h => ⟨h, List.not_mem_nil⟩
  | v :: vs, h => by
    unfold wipeE at h
    by_cases hj : v = j
    · subst hj
      by_cases hl : v < (wipeE ρ vs).length
      · rw [List.getElem?_set_self hl] at h
        cases h
        exact absurd rfl ne
      · rw [List.getElem?_eq_none (by rw [List.length_set]; omega)] at h
        cases h
    · rw [List.getElem?_set_ne hj] at h
      obtain ⟨h1, h2⟩ := wipeE_get ne h
      exact ⟨h1, fun z => (List.mem_cons.mp z).elim (fun z => hj z.symm) h2⟩
theorem wipe_eq {σ σ' : L2.St} (hl : σ'.length = σ.length) {vs : List Nat} (h : ∀ i, i ∉ vs → σ'[i]? = σ[i]?) : wipe σ' vs = wipe σ vs := by
  apply List.ext_getElem?
  intro i
  by_cases hi : i ∈ vs
  · rw [wipe_in hl hi]
  · rw [wipe_out hi, wipe_out hi, h i hi]
where
  wipe_in {σ σ' : L2.St} (hl : σ'.length = σ.length) {i : Nat} : ∀ {vs : List Nat}, i ∈ vs → (wipe σ' vs)[i]? = (wipe σ vs)[i]?
    | v :: vs, h => by
      unfold wipe
      by_cases hv : v = i
      · subst hv
        by_cases hb : v < σ.length
        · rw [List.getElem?_set_self (by rw [wipe_length, hl]; exact hb), List.getElem?_set_self (by rw [wipe_length]; exact hb)]
        · rw [List.getElem?_eq_none (by rw [List.length_set, wipe_length]; omega), List.getElem?_eq_none (by rw [List.length_set, wipe_length]; omega)]
      · rw [List.getElem?_set_ne hv, List.getElem?_set_ne hv]
        exact wipe_in hl ((List.mem_cons.mp h).elim (fun z => absurd z.symm hv) id)
def noX {α : Type} : R α → R α
  | .ex _ _ => .bad
  | r => r
def lcLoop (f : D → List Ent → Option (List Ent)) (A : List Ent → R Bool) (G : List Ent → R Kd) (vs : List Nat) : List D → List D → List Ent → R (List D)
  | [], acc, ρ => .ok acc ρ
  | d :: ds, acc, ρ => match f d (wipeE ρ vs) with
    | some ρ1 => (noX (A ρ1)).bind fun b ρ2 => if b then (noX (toVa (G ρ2))).bind fun k ρ3 => match k with
        | .va e => if acc.length < big then lcLoop f A G vs ds (acc ++ [e]) ρ3 else .bad
        | _ => .bad
      else lcLoop f A G vs ds acc ρ2
    | none => .bad
def lcR (Gi : List Ent → R (List D)) (f : D → List Ent → Option (List Ent)) (A : List Ent → R Bool) (G : List Ent → R Kd) (vs : List Nat) (ρ : List Ent) : R Kd := (Gi ρ).bind fun ds ρ1 => (lcLoop f A G vs ds [] ρ1).bind fun acc ρ2 => .ok (.ow (.lst acc)) (wipeE ρ2 vs)
/-- the frame within a comprehension: the list that grows is not seen -/
def frD (F : Fr) (L : Addr) (xs : List V) : Fr := ⟨fun a => F.M0 a ∨ a = L, F.W, upd F.H0 L (.lst xs), F.ps⟩
section
variable {K : PySem.W.Frag} {F : Fr} {T : HT} {H : Hp} {σ : List (Option V)} {ρ : List Ent} {L : Addr} {xs ys : List V}
theorem ms_frD {a : Addr} : Ms (frD F L xs) σ ρ a ↔ Ms F σ ρ a ∨ a = L := by
  constructor
  · rintro ((z | z) | z)
    · exact .inl (.inl z)
    · exact .inr z
    · exact .inl (.inr z)
  · rintro ((z | z) | z)
    · exact .inl (.inl z)
    · exact .inr z
    · exact .inl (.inr z)
theorem Ok.enter (o : Ok K F T H σ ρ) (m : Mono T) (hL : H L = none) : Ok K (frD F L []) T (upd H L (.lst [])) σ ρ := by
  have h0 := o.new_h0 hL
  have nm := o.m_new hL
  have k : ∀ a u, H a = some u → upd H L (.lst []) a = some u := fun a u e => by rw [upd_ne (ne_of_none e hL)]; exact e
  have hs : Same (wo H (Ms F σ ρ)) (wo (upd H L (.lst [])) (Ms (frD F L []) σ ρ)) := wo_mono fun a u n e => ⟨fun z => (ms_frD.mp z).elim n fun z => (by rw [z, hL] at e; cases e), k a u e⟩
  refine ⟨o.len, fun i e v h1 h2 => (o.cells i e v h1 h2).move hs fun _ _ a u _ _ q => k a u q, o.inj, fun i a n d h1 h2 => ?_, fun a u e n => ?_, fun a u e => ?_, fun a z => ?_, fun a z => ?_, m _ _ hs o.t⟩
  · obtain ⟨w1, w2, w3, w4⟩ := o.w i a n d h1 h2
    have ne : a ≠ L := fun z => nm (z ▸ .inr ⟨i, n, d, h1, h2⟩)
    exact ⟨fun z => z.elim w1 ne, w2.elim .inl fun z => .inr (by show upd F.H0 L _ a = none; rw [upd_ne ne]; exact z), fun z => (by show upd F.H0 L _ a = none; rw [upd_ne ne]; exact w3 z), w4⟩
  · by_cases ha : a = L
    · subst ha
      have e : upd F.H0 a (.lst []) a = some u := e
      rw [upd_same] at e ⊢
      exact e
    · have e : upd F.H0 L (.lst []) a = some u := e
      rw [upd_ne ha] at e ⊢
      exact o.kp a u e n
  · by_cases ha : a = L
    · subst ha; exact ⟨_, upd_same⟩
    · have e : upd F.H0 L (.lst []) a = some u := e
      rw [upd_ne ha] at e ⊢
      exact o.tr a u e
  · rcases z with z | z
    · obtain ⟨q1, o', q2, q3⟩ := o.m0 a z
      have ne : a ≠ L := fun w => by rw [w, h0] at q2; cases q2
      exact ⟨q1, o', (by show upd F.H0 L _ a = _; rw [upd_ne ne]; exact q2), q3⟩
    · subst z
      exact ⟨fun w => (by obtain ⟨o', q⟩ := o.wt a w; rw [h0] at q; cases q), _, upd_same, fun ys z => (by cases z)⟩
  · obtain ⟨o', q⟩ := o.wt a z
    have ne : a ≠ L := fun w => by rw [w, h0] at q; cases q
    exact ⟨o', by show upd F.H0 L _ a = _; rw [upd_ne ne]; exact q⟩
theorem Ok.at_L (o : Ok K (frD F L xs) T H σ ρ) : H L = some (.lst xs) := o.kp L _ (by show upd F.H0 L _ L = _; rw [upd_same]) (o.m0 L (.inr rfl)).1
/-- the list grows -/
theorem Ok.turn (o : Ok K (frD F L xs) T H σ ρ) (m : Mono T) : Ok K (frD F L ys) T (upd H L (.lst ys)) σ ρ := by
  have hL := o.at_L
  have mL : Ms (frD F L xs) σ ρ L := .inl (.inr rfl)
  have hs : Same (wo H (Ms (frD F L xs) σ ρ)) (wo (upd H L (.lst ys)) (Ms (frD F L ys) σ ρ)) := wo_mono fun a u n e => ⟨fun z => n (ms_frD.mpr (ms_frD.mp z)), (by rw [upd_ne (fun z : a = L => n (by rw [z]; exact mL))]; exact e)⟩
  have nL : ∀ (i : Nat) (n : Option Nat) (d : D), ρ[i]? = some (Ent.ow n d) → ∀ a : Addr, σ[i]? = some (some (V.ref a)) → a ≠ L := fun i n d h1 a h2 z => (o.w i a n d h1 h2).1 (.inr z)
  refine ⟨o.len, fun i e v h1 h2 => (o.cells i e v h1 h2).move hs fun n d a u ee ev q => (by subst ee; subst ev; rw [upd_ne (nL i n d h1 a h2)]; exact q), o.inj, fun i a n d h1 h2 => ?_, fun a u e n => ?_, fun a u e => ?_, fun a z => ?_, fun a z => ?_, m _ _ hs o.t⟩
  · obtain ⟨w1, w2, w3, w4⟩ := o.w i a n d h1 h2
    have ne := nL i n d h1 a h2
    refine ⟨w1, w2.elim .inl fun z => .inr ?_, fun z => ?_, w4⟩
    · have z : upd F.H0 L (.lst xs) a = none := z
      show upd F.H0 L _ a = none
      rw [upd_ne ne] at z ⊢
      exact z
    · have z : upd F.H0 L (.lst xs) a = none := w3 z
      show upd F.H0 L _ a = none
      rw [upd_ne ne] at z ⊢
      exact z
  · have e : upd F.H0 L (.lst ys) a = some u := e
    by_cases ha : a = L
    · subst ha
      rw [upd_same] at e ⊢
      exact e
    · rw [upd_ne ha] at e ⊢
      exact o.kp a u (by show upd F.H0 L _ a = _; rw [upd_ne ha]; exact e) n
  · have e : upd F.H0 L (.lst ys) a = some u := e
    by_cases ha : a = L
    · subst ha; exact ⟨_, upd_same⟩
    · rw [upd_ne ha] at e ⊢
      exact o.tr a u (by show upd F.H0 L _ a = _; rw [upd_ne ha]; exact e)
  · obtain ⟨q1, o', q2, q3⟩ := o.m0 a z
    refine ⟨q1, ?_⟩
    by_cases ha : a = L
    · subst ha; exact ⟨_, upd_same, fun ys z => (by cases z)⟩
    · have q2 : upd F.H0 L (.lst xs) a = some o' := q2
      rw [upd_ne ha] at q2
      exact ⟨o', (by show upd F.H0 L _ a = _; rw [upd_ne ha]; exact q2), q3⟩
  · obtain ⟨o', q⟩ := o.wt a z
    by_cases ha : a = L
    · subst ha; exact ⟨_, upd_same⟩
    · have q : upd F.H0 L (.lst xs) a = some o' := q
      rw [upd_ne ha] at q
      exact ⟨o', by show upd F.H0 L _ a = _; rw [upd_ne ha]; exact q⟩
/-- it is handed on -/
theorem Ok.leave {ds : List D} (o : Ok K (frD F L xs) T H σ ρ) (m : Mono T) (r : RpL K (wo H (Ms (frD F L xs) σ ρ)) ds xs) (h0 : F.H0 L = none) (hm : ¬ F.M0 L) (m0 : ∀ a, F.M0 a → ¬ F.W a ∧ ∃ o, F.H0 a = some o ∧ ∀ xs, o ≠ .tup xs) (wt : ∀ a, F.W a → ∃ o, F.H0 a = some o) : Ok K F T H (some (.ref L) :: σ) (.ow none (.lst ds) :: ρ) := by
  have hL := o.at_L
  have nL : ∀ (i : Nat) (n : Option Nat) (d : D), ρ[i]? = some (Ent.ow n d) → ∀ a : Addr, σ[i]? = some (some (V.ref a)) → a ≠ L := fun i n d h1 a h2 z => (o.w i a n d h1 h2).1 (.inr z)
  have hs : Same (wo H (Ms (frD F L xs) σ ρ)) (wo H (Ms F (some (.ref L) :: σ) (.ow none (.lst ds) :: ρ))) := wo_mono fun a u n e => ⟨fun z => n (by
    rcases z with z | z
    · exact .inl (.inl z)
    · rcases z.of_cons with ⟨z, _⟩ | z
      · cases z; exact .inl (.inr rfl)
      · exact .inr z), e⟩
  have back : ∀ a, a ≠ L → upd F.H0 L (.lst xs) a = F.H0 a := fun a ha => upd_ne ha
  refine ⟨by simp [o.len], fun i e v h1 h2 => ?_, fun i j a n l d1 d2 h1 h2 h3 h4 => ?_, fun i a n d h1 h2 => ?_, fun a u e n => ?_, fun a u e => ?_, m0, wt, m _ _ hs o.t⟩
  · cases i with
    | zero =>
      simp at h1 h2
      subst h1; subst h2
      exact ⟨_, rfl, True.intro, L, xs, rfl, hL, r.mono hs⟩
    | succ i => exact (o.cells i e v (by simpa using h1) (by simpa using h2)).move hs fun _ _ _ _ _ _ q => q
  · cases i with
    | zero =>
      cases j with
      | zero => rfl
      | succ j =>
        simp at h3
        exact (nL j l d2 (by simpa using h2) a (by simpa using h4) h3.symm).elim
    | succ i =>
      cases j with
      | zero =>
        simp at h4
        exact (nL i n d1 (by simpa using h1) a (by simpa using h3) h4.symm).elim
      | succ j => rw [o.inj i j a n l d1 d2 (by simpa using h1) (by simpa using h2) (by simpa using h3) (by simpa using h4)]
  · cases i with
    | zero =>
      have h1 : Ent.ow none (.lst ds) = .ow n d := by simpa using h1
      have h2 : L = a := by simpa using h2
      cases h1
      subst h2
      exact ⟨hm, .inr h0, fun _ => h0, fun k z => nomatch z⟩
    | succ i =>
      have k1 : ρ[i]? = some (.ow n d) := by simpa using h1
      have k2 : σ[i]? = some (some (.ref a)) := by simpa using h2
      have ne := nL i n d k1 a k2
      obtain ⟨w1, w2, w3, w4⟩ := o.w i a n d k1 k2
      exact ⟨fun z => w1 (.inl z), w2.elim .inl fun z => .inr ((back a ne).symm.trans z), fun z => (back a ne).symm.trans (w3 z), w4⟩
  · have ne : a ≠ L := fun z => by rw [z, h0] at e; cases e
    exact o.kp a u ((back a ne).trans e) n
  · have ne : a ≠ L := fun z => by rw [z, h0] at e; cases e
    exact o.tr a u ((back a ne).trans e)
end
end DL

namespace DL
open PySem PySem.Spec PyProof.Rows L2

theorem ptsI {X : Cx} {e : List Expr} {t t' : TT} (h : PTs X e t) (w : ∀ σ H Q, t' σ H Q → t σ H Q) : PTs X e t' := ⟨fun pins s σ H Q I q => h.run pins s σ H Q I (w σ H Q q)⟩
abbrev noE : XK := fun _ _ _ => False
section
variable {X : Cx} {F : Fr} {E : XK} {c : Expr} {A : List Ent → R Bool}
theorem jts_nil : PTs X [] (tT X.K F E fun ρ => .ok true ρ) := ptsI pts_nil fun σ H Q ⟨ρ, T, m, o, p⟩ => p H o
theorem jts_one (h : PT X c (tT X.K F E A)) : PTs X [c] (tT X.K F E A) := pts_one h
end
section
variable {K : PySem.W.Frag} {F : Fr} {E : XK} {T : HT} {σ : L2.St} {Q : VK}
theorem PostE.bindNX {α : Type} {r : R α} {f : α → List Ent → R Kd} (p : PostE K F E T σ Q ((noX r).bind f)) : ∃ a ρ, r = .ok a ρ ∧ PostE K F E T σ Q (f a ρ) := by
  cases r with
  | ok a ρ => exact ⟨a, ρ, rfl, p⟩
  | ex x ρ => exact p.elim
  | bad => exact p.elim
theorem R.bind_assoc {α β γ : Type} (r : R α) (f : α → List Ent → R β) (g : β → List Ent → R γ) : (r.bind f).bind g = r.bind fun a ρ => (f a ρ).bind g := by cases r <;> rfl
/-- the reading of a comprehension -/
theorem tLc_of {Gi : List Ent → R (List D)} {f : D → List Ent → Option (List Ent)} {A : List Ent → R Bool} {G : List Ent → R Kd} {vs js : List Nat} {g : TG} {H : Hp} (ht : TgD K g js f) (hv : ∀ i ∈ js, i ∈ vs) (h : tE K F E (lcR Gi f A G vs) σ H Q) :
    tLc (tI K F E Gi) g (fun σ H Q => ∃ F', tT K F' noE A σ H Q) (fun σ H Q => ∃ F', tE K F' noE (fun ρ => toVa (G ρ)) σ H Q) vs σ H Q := by
  obtain ⟨ρ, T, m, o, p⟩ := h
  refine bdI (pf_E Q) m o p fun J H1 TG ds ρ1 mg wk o1 p1 => ?_
  intro L hL
  have h0 := o1.new_h0 hL
  have hm : ¬ F.M0 L := fun z => o1.m_new hL (.inl z)
  have hm0 := o1.m0
  have hwt := o1.wt
  have p1 : PostE K F E T σ Q ((lcLoop f A G vs ds [] ρ1).bind fun acc ρ2 => .ok (.ow (.lst acc)) (wipeE ρ2 vs)) := p1
  -- entries that are wiped
  have wip : ∀ {F' : Fr} {T' : HT} {H' : Hp} {σ2 : L2.St} {ρ2 : List Ent}, Ok K F' T' H' σ2 ρ2 → Mono T' → Ok K F' T' H' (wipe σ2 vs) (wipeE ρ2 vs) := fun {F' T' H' σ2 ρ2} o2 m2 =>
    o2.sub m2 (by rw [wipe_length, wipeE_len]; exact o2.len) id (fun j e v h1 ne h2 => by
      obtain ⟨k1, k2⟩ := wipeE_get ne h1
      rw [wipe_out k2] at h2
      exact ⟨k1, h2⟩) fun _ _ z => z
  let W : Nat → Nat → Hp → Prop := fun i n H2 => n = ds.length - i ∧ i ≤ ds.length ∧ ∃ (acc : List D) (ρ2 : List Ent) (xs : List V),
    Ok K (frD F L xs) (fun h => (T h ∧ TG h) ∧ RpL K h acc xs) H2 (wipe σ vs) (wipeE ρ2 vs) ∧ PostE K F E T σ Q ((lcLoop f A G vs (ds.drop i) acc ρ2).bind fun acc ρ2 => .ok (.ow (.lst acc)) (wipeE ρ2 vs))
  refine ⟨W, ⟨ds.length, by simp, Nat.zero_le _, [], ρ1, [], ?_, p1⟩, ?_⟩
  · have o2 := wip (o1.enter (L := L) (m.and mg) hL) (m.and mg)
    exact o2.to ⟨o2.t, rfl⟩
  · rintro i n H2 ⟨rfl, hi, acc, ρ2, xs, o2, p2⟩
    have m2 : ∀ {acc : List D} {xs : List V}, Mono fun h => (T h ∧ TG h) ∧ RpL K h acc xs := (m.and mg).and mono_rpl
    by_cases hlt : i < ds.length
    · have hd : ds[i]? = some ds[i] := by simp [hlt]
      rw [List.drop_eq_getElem_cons hlt] at p2
      simp only [lcLoop] at p2
      cases e1 : f ds[i] (wipeE ρ2 vs) with
      | none => rw [e1] at p2; exact p2.elim
      | some ρ3 =>
        rw [e1] at p2
        simp only at p2
        rw [R.bind_assoc] at p2
        refine .inr ⟨wk.go i _ H2 _ hd o2.t.1.2, fun H' => ds.length - (i + 1) < ds.length - i ∧ W (i + 1) (ds.length - (i + 1)) H', fun H' ⟨h1, h2⟩ => ⟨_, h1, h2⟩, fun x H' y => ?_⟩
        have o3 := wk.yld i _ x H2 H' (frD F L xs) (wipe σ vs) (wipeE ρ2 vs) (fun h => T h ∧ RpL K h acc xs) hd (m.and mono_rpl) (o2.weak fun _ z => ⟨⟨z.1.1, z.2⟩, z.1.2⟩) y
        refine ht (frD F L xs) ds[i] x (wipe σ vs) H' (wipeE ρ2 vs) ρ3 (fun h => (T h ∧ TG h) ∧ RpL K h acc xs) _ m2 (o3.weak fun _ z => ⟨⟨⟨z.1.1.1, z.1.2⟩, z.1.1.2⟩, z.2⟩) e1 fun σ4 H4 s4 l4 o4 => ?_
        have hw : wipe σ4 vs = wipe σ vs := by
          have w2 : wipe (wipe σ vs) vs = wipe σ vs := wipe_eq (wipe_length σ vs) fun i hi => wipe_out hi
          exact (wipe_eq l4 fun i hi => s4 i fun z => hi (hv i z)).trans w2
        refine ⟨hw, frD F L xs, ρ3, _, m2, o4, ?_⟩
        obtain ⟨b, ρ5, e5, p5⟩ := p2.bindNX
        rw [e5]
        intro H5 o5
        cases b with
        | false =>
          rw [if_neg Bool.false_ne_true]
          refine ⟨by omega, rfl, hlt, acc, ρ5, xs, ?_, p5⟩
          have := wip o5 m2
          rw [hw] at this
          exact this
        | true =>
          rw [if_pos rfl]
          have p5 : PostE K F E T σ Q (((noX (toVa (G ρ5))).bind fun k ρ3 => match k with
            | .va e => if acc.length < big then lcLoop f A G vs (ds.drop (i + 1)) (acc ++ [e]) ρ3 else .bad
            | _ => .bad).bind fun acc ρ2 => .ok (.ow (.lst acc)) (wipeE ρ2 vs)) := p5
          rw [R.bind_assoc] at p5
          obtain ⟨k, ρ6, e6, p6⟩ := p5.bindNX
          refine ⟨frD F L xs, ρ5, _, m2, o5, ?_⟩
          show PostE K (frD F L xs) noE _ σ4 _ (toVa (G ρ5))
          rw [e6]
          cases k with
          | ow d => exact p6.elim
          | al j => exact p6.elim
          | va d =>
            intro w H6 o6
            have p6 : PostE K F E T σ Q ((if acc.length < big then lcLoop f A G vs (ds.drop (i + 1)) (acc ++ [d]) ρ6 else .bad).bind fun acc ρ2 => .ok (.ow (.lst acc)) (wipeE ρ2 vs)) := p6
            split at p6
            · rename_i hz
              have hx : xs.length = acc.length := o6.t.1.2.len
              refine ⟨xs, o6.at_L, big_lt (by rw [hx]; exact hz), by omega, rfl, hlt, acc ++ [d], ρ6, xs ++ [w], ?_, p6⟩
              have o7 := (o6.weak (U := fun h => (T h ∧ TG h) ∧ RpL K h (acc ++ [d]) (xs ++ [w])) fun _ z => ⟨z.1.1, z.1.2.append (RpL.one z.2)⟩).turn (ys := xs ++ [w]) m2
              have := wip o7 m2
              rw [hw] at this
              exact this
            · exact p6.elim
    · have e : i = ds.length := by omega
      subst e
      rw [List.drop_length] at p2
      refine .inl ⟨wk.stop H2 _ o2.t.1.2, ?_⟩
      have o3 := o2.leave m2 o2.t.2 h0 hm hm0 hwt
      refine p2 _ H2 ((o3.weak fun _ z => z.1.1).sub m (by rw [List.length_cons, List.length_cons, wipeE_len]; have := o2.len; rw [wipe_length, wipeE_len] at this; rw [this]) id (fun j e v h1 ne h2 => ?_) fun _ _ z => z)
      cases j with
      | zero => exact ⟨h1, h2⟩
      | succ j =>
        have h1 : (wipeE ρ2 vs)[j]? = some e := by simpa using h1
        have h2 : σ[j]? = some v := by simpa using h2
        obtain ⟨k1, k2⟩ := wipeE_get ne h1
        exact ⟨by simpa using h1, by show (wipe σ vs)[j]? = some v; rw [wipe_out k2]; exact h2⟩
end
section
variable {X : Cx} {F : Fr} {E : XK} {elt tg iter : Expr} {ifs : List Expr} {scope : Scope} {own : List (Str × Nat)} {pos : Pos} {g : TG} {Gi : List Ent → R (List D)} {f : D → List Ent → Option (List Ent)} {A : List Ent → R Bool} {G : List Ent → R Kd} {js : List Nat}
theorem PE.union {e : Expr} {G : List Ent → R Kd} (h : ∀ F', PE X e (tE X.K F' E G)) : PE X e (fun σ H Q => ∃ F', tE X.K F' E G σ H Q) := ⟨fun pins s σ H Q I ⟨F', q⟩ => (h F').run pins s σ H Q I q⟩
theorem PTs.union {e : List Expr} {A : List Ent → R Bool} (h : ∀ F', PTs X e (tT X.K F' E A)) : PTs X e (fun σ H Q => ∃ F', tT X.K F' E A σ H Q) := ⟨fun pins s σ H Q I ⟨F', q⟩ => (h F').run pins s σ H Q I q⟩
theorem je_lc (hc : X.calm = true) (hN : X.N.Nodup) (hi : PI X tg iter (tI X.K F E Gi)) (ok : BlkOk X.N X.env.scope scope own)
    (hg : ∀ (s : Shared) (H : Hp) (C : Addr) (cl : List (Str × Addr)) (fp : List Addr), PG (X.blk s H scope (compEnvC scope cl C X.env) fp) tg g) (ht : TgD X.K g js f) (hv : ∀ i ∈ js, i ∈ own.map (·.2))
    (hA : ∀ (s : Shared) (H : Hp) (C : Addr) (cl : List (Str × Addr)) (fp : List Addr) (F' : Fr), PTs (X.blk s H scope (compEnvC scope cl C X.env) fp) ifs (tT X.K F' noE A))
    (hG : ∀ (s : Shared) (H : Hp) (C : Addr) (cl : List (Str × Addr)) (fp : List Addr) (F' : Fr), PE (X.blk s H scope (compEnvC scope cl C X.env) fp) elt (tE X.K F' noE G)) (hs : ∀ x, foldedSetIterable iter X.env x = pure x := by intro _; rfl) :
    PE X (.ListComp elt [⟨tg, iter, ifs, 0⟩] scope pos) (tE X.K F E (lcR Gi f A G (own.map (·.2)))) :=
  peI (pe_lc hc hN hi ok hg (fun s H C cl fp => PTs.union (X := X.blk s H scope (compEnvC scope cl C X.env) fp) fun F' => hA s H C cl fp F') (fun s H C cl fp => PE.union (X := X.blk s H scope (compEnvC scope cl C X.env) fp) fun F' => je_toVa (X := X.blk s H scope (compEnvC scope cl C X.env) fp) (hG s H C cl fp F')) hs) fun σ H Q h => tLc_of ht hv h
theorem tAsg_va {K : PySem.W.Frag} {i : Nat} {te : TE} {G : List Ent → R Kd} (w : ∀ σ H Q, tE K F E G σ H Q → te σ H Q) {D : Ends} {σ : L2.St} {H : Hp} (h : tS K F E (setR i G) D σ H) : tAsg te (gName i) D σ H := by
  obtain ⟨ρ, T, m, o, p⟩ := h
  refine w σ H _ ?_
  obtain ⟨ρ', T', m', o', p'⟩ := bdV (Q2 := fun x H1 => D.nx (σ.set i (some x)) H1) (pf_S D) m o p fun x H1 d ρ1 o1 p1 => p1 _ H1 (o1.setVa m)
  refine ⟨ρ', T', m', o', ?_⟩
  have p' : PostE K F E T' σ (fun x H1 => D.nx (σ.set i (some x)) H1) (toVa (G ρ')) := p'
  cases r : G ρ' with
  | ok k ρ2 =>
    rw [r] at p'
    cases k with
    | ow d => exact fun v H' o' => p' v H' (o'.freezeHd m')
    | va d => exact p'
    | al j =>
      intro v H' o2
      have hv : σ[j]? = some (some v) := o2.t.2
      have p' : PostE K F E T' σ (fun x H1 => D.nx (σ.set i (some x)) H1) (match ρ2[j]? with
        | some (.ow _ d) => .ok (.va d) (ρ2.set j (.va d))
        | some (.va d) => .ok (.va d) ρ2
        | _ => .bad) := p'
      split at p'
      · rename_i d q
        exact p' v H' ((o2.freeze (m'.and mono_kat) q hv).weak fun _ z => ⟨z.1.1, z.2⟩)
      · rename_i d q
        obtain ⟨v', h1, h2⟩ := o2.va q
        rw [hv] at h1
        cases h1
        exact p' v H' (o2.to ⟨o2.t.1, h2⟩)
      · exact p'.elim
  | ex x ρ2 => rw [r] at p'; exact p'
  | bad => rw [r] at p'; exact p'.elim
theorem tAsg_ow {K : PySem.W.Frag} {i : Nat} {te : TE} {G : List Ent → R Kd} (w : ∀ σ H Q, tE K F E G σ H Q → te σ H Q) {D : Ends} {σ : L2.St} {H : Hp} (h : tS K F E (setO i G) D σ H) : tAsg te (gName i) D σ H := by
  obtain ⟨ρ, T, m, o, p⟩ := h
  refine w σ H _ ⟨ρ, T, m, o, ?_⟩
  have p : PostS K F E T σ D ((G ρ).bind fun k ρ1 => match k with
    | .ow d => .ok .nx (ρ1.set i (.ow none d))
    | _ => .bad) := p
  cases q : G ρ with
  | ok k ρ1 =>
    rw [q] at p
    cases k with
    | ow d => exact fun v H' o' => p _ H' (o'.setHd m)
    | va d => exact p.elim
    | al j => exact p.elim
  | ex x ρ1 => rw [q] at p; exact fun d H' o' => p d σ H' o'
  | bad => rw [q] at p; exact p.elim
/-- y = [..], y's slot not owning -/
theorem js_setLc {i : Nat} {y : Str} {py spos : Pos} (hc : X.calm = true) (hN : X.N.Nodup) (hsw : swapsWith (.ListComp elt [⟨tg, iter, ifs, 0⟩] scope pos) (some (.Name y py)) spos.line X.env = pure true) (hi : PI X tg iter (tI X.K F E Gi)) (ok : BlkOk X.N X.env.scope scope own)
    (hg : ∀ (s : Shared) (H : Hp) (C : Addr) (cl : List (Str × Addr)) (fp : List Addr), PG (X.blk s H scope (compEnvC scope cl C X.env) fp) tg g) (ht : TgD X.K g js f) (hv : ∀ i ∈ js, i ∈ own.map (·.2))
    (hA : ∀ (s : Shared) (H : Hp) (C : Addr) (cl : List (Str × Addr)) (fp : List Addr) (F' : Fr), PTs (X.blk s H scope (compEnvC scope cl C X.env) fp) ifs (tT X.K F' noE A))
    (hG : ∀ (s : Shared) (H : Hp) (C : Addr) (cl : List (Str × Addr)) (fp : List Addr) (F' : Fr), PE (X.blk s H scope (compEnvC scope cl C X.env) fp) elt (tE X.K F' noE G)) (hy : X.N[i]? = some y := by rfl) (hyl : X.env.scope.names.lookup y = some .local := by rfl) (hs : ∀ x, foldedSetIterable iter X.env x = pure x := by intro _; rfl) :
    PS X (.Assign [.Name y py] (.ListComp elt [⟨tg, iter, ifs, 0⟩] scope pos) spos) (tS X.K F E (setR i (lcR Gi f A G (own.map (·.2))))) :=
  psI (ps_setLc hc hN hy hyl hsw hi ok hg (fun s H C cl fp => PTs.union (X := X.blk s H scope (compEnvC scope cl C X.env) fp) fun F' => hA s H C cl fp F') (fun s H C cl fp => PE.union (X := X.blk s H scope (compEnvC scope cl C X.env) fp) fun F' => je_toVa (X := X.blk s H scope (compEnvC scope cl C X.env) fp) (hG s H C cl fp F')) hs)
    fun D σ H h => tAsg_va (fun _ _ _ h => tLc_of ht hv h) h
theorem js_setLcO {i : Nat} {y : Str} {py spos : Pos} (hc : X.calm = true) (hN : X.N.Nodup) (hsw : swapsWith (.ListComp elt [⟨tg, iter, ifs, 0⟩] scope pos) (some (.Name y py)) spos.line X.env = pure true) (hi : PI X tg iter (tI X.K F E Gi)) (ok : BlkOk X.N X.env.scope scope own)
    (hg : ∀ (s : Shared) (H : Hp) (C : Addr) (cl : List (Str × Addr)) (fp : List Addr), PG (X.blk s H scope (compEnvC scope cl C X.env) fp) tg g) (ht : TgD X.K g js f) (hv : ∀ i ∈ js, i ∈ own.map (·.2))
    (hA : ∀ (s : Shared) (H : Hp) (C : Addr) (cl : List (Str × Addr)) (fp : List Addr) (F' : Fr), PTs (X.blk s H scope (compEnvC scope cl C X.env) fp) ifs (tT X.K F' noE A))
    (hG : ∀ (s : Shared) (H : Hp) (C : Addr) (cl : List (Str × Addr)) (fp : List Addr) (F' : Fr), PE (X.blk s H scope (compEnvC scope cl C X.env) fp) elt (tE X.K F' noE G)) (hy : X.N[i]? = some y := by rfl) (hyl : X.env.scope.names.lookup y = some .local := by rfl) (hs : ∀ x, foldedSetIterable iter X.env x = pure x := by intro _; rfl) :
    PS X (.Assign [.Name y py] (.ListComp elt [⟨tg, iter, ifs, 0⟩] scope pos) spos) (tS X.K F E (setO i (lcR Gi f A G (own.map (·.2))))) :=
  psI (ps_setLc hc hN hy hyl hsw hi ok hg (fun s H C cl fp => PTs.union (X := X.blk s H scope (compEnvC scope cl C X.env) fp) fun F' => hA s H C cl fp F') (fun s H C cl fp => PE.union (X := X.blk s H scope (compEnvC scope cl C X.env) fp) fun F' => je_toVa (X := X.blk s H scope (compEnvC scope cl C X.env) fp) (hG s H C cl fp F')) hs)
    fun D σ H h => tAsg_ow (fun _ _ _ h => tLc_of ht hv h) h
end
end DL

namespace DL
open PySem PySem.Spec PyProof.Rows L2

/-! ### a def -/
def ownP (n : Nat) (ρ : List Ent) : List Ent := (List.range n).map fun j => match ρ[j]? with
  | some (Ent.ow (some k) d) => if k = j then Ent.ow (some j) d else .no
  | _ => Ent.no
def fin (n : Nat) : R Fl → R Kd
  | .ok .nx ρ => .ok (.va .non) (ownP n ρ)
  | .ok (.rt (.va d)) ρ => .ok (.va d) (ownP n ρ)
  | .ok (.rt (.ow d)) ρ => .ok (.ow d) (ownP n ρ)
  | .ex x ρ => .ex x (ownP n ρ)
  | _ => .bad
section
variable {K : PySem.W.Frag} {F : Fr} {E : XK} {T : HT} {H : Hp} {σ vs : List (Option V)} {ρ es : List Ent}
theorem ownP_get {n j : Nat} {e : Ent} (h : (ownP n ρ)[j]? = some e) (ne : e ≠ .no) : ∃ d, e = .ow (some j) d ∧ ρ[j]? = some (.ow (some j) d) := by
  unfold ownP at h
  rw [List.getElem?_map] at h
  cases q : (List.range n)[j]? with
  | none => rw [q] at h; cases h
  | some j' =>
    have hj : j' = j := by
      have := List.getElem?_eq_some_iff.mp q
      simp at this
      exact this.2.symm
    subst hj
    rw [q] at h
    have h : (match ρ[j']? with
      | some (.ow (some k) d) => if k = j' then Ent.ow (some j') d else .no
      | _ => .no) = e := Option.some.inj h
    split at h
    · rename_i k d q2
      by_cases hk : k = j'
      · subst hk
        rw [if_pos rfl] at h
        exact ⟨d, h.symm, q2⟩
      · rw [if_neg hk] at h
        exact absurd h.symm ne
    · exact absurd h.symm ne
theorem ownP_len {n : Nat} : (ownP n ρ).length = n := by unfold ownP; simp
theorem Ok.close {n : Nat} (o : Ok K F T H σ ρ) (m : Mono T) (hn : F.ps.length = n) : Ok K F T H (F.ps.map some) (ownP n ρ) :=
  o.sub m (by rw [List.length_map, ownP_len, hn]) id (fun j e v h1 ne h2 => by
    obtain ⟨d, e1, q⟩ := ownP_get h1 ne
    subst e1
    refine ⟨q, ?_⟩
    obtain ⟨a, h3, _⟩ := o.own q
    have h4 := (o.w j a (some j) d q h3).2.2.2 j rfl
    rw [List.getElem?_map, h4] at h2
    cases h2
    exact h3) fun _ _ z => z
theorem Ok.closeHd {n : Nat} {v : V} {d : D} (o : Ok K F T H (some v :: σ) (.ow none d :: ρ)) (m : Mono T) (hn : F.ps.length = n) : Ok K F T H (some v :: F.ps.map some) (.ow none d :: ownP n ρ) :=
  o.sub m (by rw [List.length_cons, List.length_cons, List.length_map, ownP_len, hn]) id (fun j e u h1 ne h2 => by
    cases j with
    | zero => exact ⟨h1, h2⟩
    | succ j =>
      obtain ⟨d', e1, q⟩ := ownP_get (show (ownP n ρ)[j]? = some e by simpa using h1) ne
      subst e1
      have q' : (Ent.ow none d :: ρ)[j + 1]? = some (.ow (some j) d') := by simpa using q
      refine ⟨q', ?_⟩
      obtain ⟨a, h3, _⟩ := o.own q'
      have h4 := (o.w (j + 1) a (some j) d' q' h3).2.2.2 j rfl
      have h2 : (F.ps.map some)[j]? = some u := by simpa using h2
      rw [List.getElem?_map, h4] at h2
      cases h2
      exact h3) fun _ _ z => z
theorem Ok.extd (o : Ok K F T H vs es) (m : Mono T) (k : Nat) : Ok K F T H (vs ++ List.replicate k none) (es ++ List.replicate k .no) :=
  o.sub m (by simp [o.len]) id (fun j e v h1 ne h2 => by
    have hj : j < es.length := by
      refine Nat.lt_of_not_le fun hle => ne ?_
      rw [List.getElem?_append_right hle] at h1
      have := List.getElem?_eq_some_iff.mp h1
      simp at this
      exact this.2.symm
    rw [List.getElem?_append_left hj] at h1
    rw [List.getElem?_append_left (by rw [o.len]; exact hj)] at h2
    exact ⟨h1, h2⟩) fun _ _ z => z
/-- what a body's end asks, by what the def's end asks -/
theorem postS_fin {n : Nat} {Q : VK} {r : R Fl} (hn : F.ps.length = n) (m : Mono T) (p : PostE K F E T (F.ps.map some) Q (fin n r)) : PostS K F E T σ { nx := fun _ H' => Q .non H', rt := Q } r := by
  cases r with
  | bad => exact p.elim
  | ex x ρ => exact fun d σ' H' o => p d H' (o.close (m.and mono_ext) hn)
  | ok fl ρ =>
    cases fl with
    | nx => exact fun σ' H' o => p .non H' ((o.close m hn).to ⟨(o.close m hn).t, rfl⟩)
    | bk => exact p.elim
    | ct => exact p.elim
    | rt k =>
      cases k with
      | va d => exact fun v σ' H' o => p v H' (o.close (m.and mono_rp) hn)
      | ow d => exact fun v σ' H' o => p v H' (o.closeHd m hn)
      | al j => exact p.elim
end
section
variable {P : Program} {w : World} {K : PySem.W.Frag} {mg : Str → Option Value} {base : Heap}
theorem pass_cx {N : List Str} {qual : Str} {sc : Scope} {f : Addr} {cdv : Value} {A : Around} {outer : List Env} {s : Shared} {H : Hp} {E : XK} : Passes (L2.CX P w) (cxOf (L2.CX P w) P w K mg base N qual sc f cdv A outer s H E) E :=
  passes_call (takes_of rfl rfl rfl rfl) fun _ _ _ _ z => z
/-- THE RULE for a def -/
theorem jf_ok {x qual : Str} {st : Stmt} {f : Addr} {fd : FuncData} {N ps : List Str} {k n : Nat} {G : List Ent → R Fl} {Gf : List Ent → R Kd} (F : Fun K x qual st f fd) (S : FnScope N ps (defScope st)) (hn : ps.length = n)
    (body : ∀ (cdv : Value) (A : Around) (outer : List Env) (s : Shared) (H : Hp) (E : XK) (Fm : Fr), Room k (A.deeper (envOfC qual (defScope st) s.heap.objs.size f cdv)) → PSs (cxOf (L2.CX P w) P w K mg base N qual (defScope st) f cdv A outer s H E) (defBody st) (tS K Fm E G))
    (eq : ∀ es, es.length = n → Gf es ≠ .bad → fin n (G (es ++ List.replicate (N.length - n) .no)) = Gf es) : FnOk P w K mg base (L2.CX P w) (k + 1) f fd ps (spD K n Gf) :=
  F.okX S (fun vs H Q E h => by rw [h.1, hn]) fun cdv A outer s H vs Q E hr ⟨hl, Fm, es, T, h0, hps, m, o, p⟩ => by
    refine ⟨_, body cdv A outer s H E Fm hr, es ++ List.replicate (N.length - n) .no, T, m, ?_, ?_⟩
    · unfold L2.start
      rw [hl]
      exact o.extd m _
    · subst hps
      refine postS_fin hl m ?_
      have he : es.length = n := by rw [← o.len, List.length_map, hl]
      have hb : Gf es ≠ .bad := fun z => by rw [z] at p; exact p
      rw [eq es he hb]
      exact p
end
end DL

namespace DL
open PySem PySem.Spec PyProof.Rows L2

/-! ### isinstance against built-in types -/
inductive Ty where
  | bool | int | str | list | tuple | dict
def Ty.nm : Ty → String
  | .bool => "bool" | .int => "int" | .str => "str" | .list => "list" | .tuple => "tuple" | .dict => "dict"
inductive Tg where
  | non | bool | int | str | list | tuple | dict
def Tg.nm : Tg → String
  | .non => "NoneType" | .bool => "bool" | .int => "int" | .str => "str" | .list => "list" | .tuple => "tuple" | .dict => "dict"
def tag : D → Option Tg
  | .non => some .non | .bl _ => some .bool | .int _ => some .int | .str _ => some .str | .lst _ => some .list | .tup _ => some .tuple | .dic _ => some .dict | .ins _ _ => none | .scr _ => some .list
def isTg : Tg → Ty → Bool
  | .bool, .bool => true | .bool, .int => true | .int, .int => true | .str, .str => true | .list, .list => true | .tuple, .tuple => true | .dict, .dict => true | _, _ => false
theorem kit_all : ∀ (g : Tg) (t : Ty), kitB g.nm t.nm = some (isTg g t)
  | .non, .bool | .non, .int | .non, .str | .non, .list | .non, .tuple | .non, .dict | .bool, .bool | .bool, .int | .bool, .str | .bool, .list | .bool, .tuple | .bool, .dict
  | .int, .bool | .int, .int | .int, .str | .int, .list | .int, .tuple | .int, .dict | .str, .bool | .str, .int | .str, .str | .str, .list | .str, .tuple | .str, .dict
  | .list, .bool | .list, .int | .list, .str | .list, .list | .list, .tuple | .list, .dict | .tuple, .bool | .tuple, .int | .tuple, .str | .tuple, .list | .tuple, .tuple | .tuple, .dict
  | .dict, .bool | .dict, .int | .dict, .str | .dict, .list | .dict, .tuple | .dict, .dict => by decide +kernel
theorem tyX_of {K : PySem.W.Frag} {H : Hp} {d : D} {v : V} {g : Tg} (h : tag d = some g) (r : Rp K H d v) : TyX K H v (.type g.nm) := by
  cases d with
  | non => cases h; rw [show v = .non from r]; exact .base .non
  | bl b => cases h; rw [show v = .bl b from r]; exact .base (.bl b)
  | int b => cases h; rw [show v = .int b from r]; exact .base (.int b)
  | str b => cases h; rw [show v = .str b from r]; exact .base (.str b)
  | lst b => cases h; obtain ⟨a, xs, e, h2, _⟩ := r; rw [e]; exact .base (.lst h2)
  | tup b =>
    cases h
    obtain ⟨a, xs, e, h2, _⟩ := r
    rw [e]
    rcases h2 with (h2 | ⟨o, h2⟩) | ⟨o, its, n, hk, hc, _⟩
    · exact .base (.tup h2)
    · exact .fTuple h2
    · exact .kTuple hk hc
  | dic b => cases h; obtain ⟨a, xs, e, h2, _⟩ := r; rw [e]; exact .base (.dK h2)
  | scr ns =>
    cases h
    obtain ⟨a, e, h2⟩ := r
    rw [e]
    rcases h2 with (h2 | ⟨o, h2⟩) | ⟨o, its, n, hk, hc, _⟩
    · exact .base (.lst h2)
    · exact .base (.frz h2)
    · exact .kList hk hc
  | ins _ _ => cases h
def isiR (ts : List Ty) (G : List Ent → R Kd) (ρ : List Ent) : R Kd := (fz (G ρ)).bind fun k ρ1 => match cont ρ1 k with
  | some d => match tag d with
    | some g => .ok (.va (.bl (ts.any (isTg g)))) ρ1
    | none => .bad
  | none => .bad
section
variable {X : Cx} {F : Fr} {E : XK} {e : Expr} {p pos p1 p2 p3 p4 : Pos} {G : List Ent → R Kd}
theorem kitAny_tys {K : PySem.W.Frag} {g : Tg} : ∀ ts : List Ty, PySem.W.kitAny K (.type g.nm) (ts.map fun t => Value.type t.nm) = some (ts.any (isTg g))
  | [] => rfl
  | t :: ts => kitAny_cons (b := isTg g t) (r := (t :: ts).any (isTg g)) (kit_ty (kit_all g t)) (fun hb => by rw [List.any_cons, hb, Bool.false_or]; exact kitAny_tys ts) fun hb => by rw [List.any_cons, hb, Bool.true_or]
theorem je_isi (t : Ty) {x : Str} (hx : x = Str.ofString t.nm) (hg : Gl X "isinstance") (hm : X.mg "isinstance" = none) (hgx : Gl X x) (hmx : X.mg x = none) (hv : bootBuiltins x = some (.type t.nm)) (he : PE X e (tE X.K F E G)) (hn : x ≠ "__name__" := by decide) (hd : (x == ("__debug__" : Str)) = false := by decide)
    (hs : starEach [e, .Name x p1] X.env = (false, eval e X.env) :: starEach [.Name x p1] X.env := by rfl) (hs2 : starEach [.Name x p1] X.env = (false, eval (.Name x p1) X.env) :: starEach [] X.env := by rfl) (hpl : (backTo pos (starEach [.Name x p1] X.env)).any (·.1) = false := by rfl) :
    PE X (.Call (.Name "isinstance" p) [e, .Name x p1] [] pos) (tE X.K F E (isiR [t] G)) :=
  peI (pe_callB call_isi hg hm boot_isinstance (pa_cons (je_fz he) (pa_cons (pe_bltn (v := .ty t.nm) hgx hmx hv rfl hn hd) pa_nil hs2) hs) (by decide) (by decide) hs hpl) fun σ H Q ⟨ρ, T, m, o, q⟩ => bdE (pf_E Q) m o q fun v H1 k ρ1 o1 q1 => by
    split at q1
    · rename_i d c
      split at q1
      · rename_i n hn
        exact ⟨v, .ty t.nm, .type n.nm, .type t.nm, _, rfl, .ty _, tyX_of hn ((kat_top o1 c).full wo_le), kit_ty (kit_all n t), q1 _ H1 (o1.to ⟨o1.t.1, by rw [List.any_cons, List.any_nil, Bool.or_false]; rfl⟩)⟩
      · exact q1.elim
    · exact q1.elim
theorem je_isi2 (t u : Ty) {x y : Str} (hx : x = Str.ofString t.nm) (hy : y = Str.ofString u.nm) (hg : Gl X "isinstance") (hm : X.mg "isinstance" = none) (hgx : Gl X x) (hmx : X.mg x = none) (hv : bootBuiltins x = some (.type t.nm)) (hgy : Gl X y) (hmy : X.mg y = none) (hvy : bootBuiltins y = some (.type u.nm))
    (he : PE X e (tE X.K F E G)) {kk : Nat} (hn : x ≠ "__name__" := by decide) (hd : (x == ("__debug__" : Str)) = false := by decide) (hn2 : y ≠ "__name__" := by decide) (hd2 : (y == ("__debug__" : Str)) = false := by decide)
    (hs : starEach [e, .Tuple [.Name x p1, .Name y p2] kk p3] X.env = (false, eval e X.env) :: starEach [.Tuple [.Name x p1, .Name y p2] kk p3] X.env := by rfl) (hs2 : starEach [.Tuple [.Name x p1, .Name y p2] kk p3] X.env = (false, eval (.Tuple [.Name x p1, .Name y p2] kk p3) X.env) :: starEach [] X.env := by rfl)
    (hs3 : starEach [.Name x p1, .Name y p2] X.env = (false, eval (.Name x p1) X.env) :: starEach [.Name y p2] X.env := by rfl) (hs4 : starEach [.Name y p2] X.env = (false, eval (.Name y p2) X.env) :: starEach [] X.env := by rfl)
    (hpl : (backTo pos (starEach [.Tuple [.Name x p1, .Name y p2] kk p3] X.env)).any (·.1) = false := by rfl) :
    PE X (.Call (.Name "isinstance" p) [e, .Tuple [.Name x p1, .Name y p2] kk p3] [] pos) (tE X.K F E (isiR [t, u] G)) :=
  peI (pe_callB call_isiT hg hm boot_isinstance (pa_cons (je_fz he) (pa_cons (pe_tup (pa_cons (pe_bltn (v := .ty t.nm) hgx hmx hv rfl hn hd) (pa_cons (pe_bltn (v := .ty u.nm) hgy hmy hvy rfl hn2 hd2) pa_nil hs4) hs3)) pa_nil hs2) hs) (by decide) (by decide) hs hpl) fun σ H Q ⟨ρ, T, m, o, q⟩ => bdE (pf_E Q) m o q fun v H1 k ρ1 o1 q1 => by
    split at q1
    · rename_i d c
      split at q1
      · rename_i n hn
        refine ⟨by show 2 ≤ sizeLine; decide, fun tp htp => ?_⟩
        obtain ⟨o2, s2, h2⟩ := o1.new (o := .tup [.ty t.nm, .ty u.nm]) (m.and mono_kat) htp
        have o2 := o2.weak (U := fun h => T h ∧ KAt X.K σ h k v) fun _ z => z
        exact ⟨v, tp, [.ty t.nm, .ty u.nm], .type n.nm, [.type t.nm, .type u.nm], _, rfl, upd_same, .cons (.ty _) (.cons (.ty _) .nil), tyX_of hn ((kat_top o2 c).full wo_le), kitAny_tys [t, u], q1 _ _ (o2.to ⟨o2.t.1, rfl⟩)⟩
      · exact q1.elim
    · exact q1.elim
end
/-! ### math.isqrt -/
def rIsqrt : List V → Hp → VK → Prop := fun vs H Q => ∃ a : Int, vs = [.int a] ∧ 0 ≤ a ∧ a < 2 ^ 64 ∧ Q (.int ((Float64.isqrt a.toNat : Nat) : Int)) H
theorem cr_isqrt {X : Cx} : CallR X (.builtin "math.isqrt") rIsqrt := by
  intro pins s σ H vs us Q I r h
  obtain ⟨a, rfl, h0, h1, q⟩ := h
  obtain ⟨u, rfl, t, rfl⟩ := vals1 r
  exact PySem.W.mg_isqrt h0 h1 ⟨.int _, H, I.tok _, ⟨_, rfl⟩, q⟩
def isqrtD : List D → Option Out
  | [.int a] => if 0 ≤ a ∧ a < 2 ^ 64 then some (.same (.int ((Float64.isqrt a.toNat : Nat) : Int))) else none
  | _ => none
theorem snd_isqrt {K : PySem.W.Frag} : SndC K rIsqrt isqrtD := by
  intro Hm H xs ds Q out sm r hg post
  unfold isqrtD at hg
  split at hg
  · split at hg
    · rename_i a hc
      cases hg
      obtain ⟨y, ys, h1, h2, h3⟩ := r
      exact ⟨a, by rw [h1, show ys = [] from h3, show y = _ from h2], hc.1, hc.2, post _ rfl⟩
    · cases hg
  · cases hg
section
variable {X : Cx} {F : Fr} {E : XK} {e : Expr} {es : List Expr} {x : Str} {p pos : Pos} {id : String} {r : List V → Hp → VK → Prop} {g : List D → Option Out} {GA : List Ent → R (List Kd)}
theorem je_callBf (hc : CallR X (.builtin id) r) (s : SndC X.K r g) (hg : Gl X x) (hm : X.mg x = some (.builtin id)) (ha : PA X (e :: es) (tA X.K F E GA)) (hdb : (x == ("__debug__" : Str)) = false := by decide)
    (he : starEach (e :: es) X.env = (false, eval e X.env) :: starEach es X.env := by rfl) (hpl : (backTo pos (starEach es X.env)).any (·.1) = false := by rfl) : PE X (.Call (.Name x p) (e :: es) [] pos) (tE X.K F E (callR g GA)) :=
  peI (pe_callBfun hc hg hm ha hdb he hpl) fun _ _ _ h => tCB_of s h
end
/-! ### instances -/
theorem RpF.look {K : PySem.W.Frag} {H : Hp} {f : Str} : ∀ {gs : List (Str × D)} {fs : List (Str × V)}, RpF K H gs fs → (∀ d, gs.lookup f = some d → ∃ v, fs.lookup f = some v ∧ Rp K H d v) ∧ (gs.lookup f = none → fs.lookup f = none)
  | [], fs, h => by
    rw [show fs = [] from h]
    exact ⟨(fun d q => nomatch q), fun _ => rfl⟩
  | (g, d) :: gs, fs, ⟨y, ys, h1, h2, h3⟩ => by
    rw [h1]
    have ih := RpF.look (f := f) h3
    simp only [List.lookup]
    cases q : f == g with
    | true => exact ⟨fun d' e => by cases e; exact ⟨y, rfl, h2⟩, fun e => by cases e⟩
    | false => exact ih
theorem RpF.len {K : PySem.W.Frag} {H : Hp} : ∀ {gs : List (Str × D)} {fs : List (Str × V)}, RpF K H gs fs → fs.length = gs.length
  | [], fs, h => by rw [show fs = [] from h]; rfl
  | (g, d) :: gs, fs, ⟨y, ys, h1, h2, h3⟩ => by rw [h1, List.length_cons, List.length_cons, RpF.len h3]
def putD (f : Str) (d : D) : List (Str × D) → List (Str × D)
  | [] => [(f, d)]
  | (g, e) :: r => if g = f then (g, d) :: r else (g, e) :: putD f d r
def fldR (C : Addr) (f : Str) (G : List Ent → R Kd) (ρ : List Ent) : R Kd := (fz (G ρ)).bind fun k ρ1 => match cont ρ1 k with
  | some (.ins C' gs) => if C' = C then match gs.lookup f with
    | some d => .ok (.va d) ρ1
    | none => .bad
    else .bad
  | _ => .bad
section
variable {X : Cx} {F : Fr} {E : XK} {e o : Expr} {es : List Expr} {pos apos p2 : Pos} {f m : Str} {C : Addr} {G Gx : List Ent → R Kd} {GA : List Ent → R (List Kd)}
theorem je_fld (c : Cls X.K C) (n : NoAttr X.K C f) (he : PE X e (tE X.K F E G)) (hb : attributeBase e f X.env (eval e X.env) = eval e X.env := by rfl) : PE X (.Attribute e f pos) (tE X.K F E (fldR C f G)) :=
  peI (pe_fld (je_fz he) hb) fun σ H Q ⟨ρ, T, m, o, q⟩ => bdE (pf_E Q) m o q fun v H1 k ρ1 o1 q1 => by
    split at q1
    · rename_i C' gs hc
      split at q1
      · rename_i hC
        subst hC
        obtain ⟨a, dx, fs, e1, e2, e3⟩ := kat_top o1 hc
        cases q2 : gs.lookup f with
        | none => rw [q2] at q1; exact q1.elim
        | some d =>
          rw [q2] at q1
          obtain ⟨w, h1, r⟩ := e3.look.1 d q2
          exact ⟨a, C', dx, fs, w, e1, e2, c, n, h1, q1 w H1 (o1.to ⟨o1.t.1, r⟩)⟩
      · exact q1.elim
    · exact q1.elim
/-! self.f = e of a slot's own instance -/
def setF (C : Addr) (f : Str) (Gx G : List Ent → R Kd) (ρ : List Ent) : R Fl := (toVa (G ρ)).bind fun k ρ0 => match k with
  | .va d => (Gx ρ0).bind fun kx ρ1 => match kx with
    | .al i => match ρ1[i]? with
      | some (.ow n (.ins C' gs)) => if C' = C ∧ gs.length < 900 then .ok .nx (ρ1.set i (.ow n (.ins C (putD f d gs)))) else .bad
      | _ => .bad
    | _ => .bad
  | _ => .bad
theorem RpF.put {K : PySem.W.Frag} {H : Hp} {f : Str} {d : D} {v : V} (r : Rp K H d v) : ∀ {gs : List (Str × D)} {fs : List (Str × V)}, RpF K H gs fs → RpF K H (putD f d gs) (putF f v fs)
  | [], fs, h => by rw [show fs = [] from h]; exact ⟨v, [], rfl, r, rfl⟩
  | (g, e) :: gs, fs, ⟨y, ys, h1, h2, h3⟩ => by
    rw [h1]
    show RpF K H (if g = f then (g, d) :: gs else (g, e) :: putD f d gs) (if g = f then (g, v) :: ys else (g, y) :: putF f v ys)
    by_cases hg : g = f
    · rw [if_pos hg, if_pos hg]
      exact ⟨v, ys, rfl, r, h3⟩
    · rw [if_neg hg, if_neg hg]
      exact ⟨y, putF f v ys, rfl, h2, RpF.put r h3⟩
theorem js_setF (c : Cls X.K C) (nf : NoAttr X.K C f) (ho : PE X o (tE X.K F E Gx)) (he : PE X e (tE X.K F E G)) (hs : swapsWith e (some (.Attribute o f p2)) pos.line X.env = pure false := by rfl) : PS X (.Assign [.Attribute o f p2] e pos) (tS X.K F E (setF C f Gx G)) :=
  psI (ps_fld ho (je_toVa he) hs) fun D σ H ⟨ρ, T, m, o, p⟩ => bdV (pf_S D) m o p fun x H1 d ρ0 o0 p0 => by
    have m0 : Mono fun h => T h ∧ Rp X.K h d x := m.and mono_rp
    have p0 : PostS X.K F E T σ D ((Gx ρ0).bind fun kx ρ1 => match kx with
      | .al i => match ρ1[i]? with
        | some (.ow n (.ins C' gs)) => if C' = C ∧ gs.length < 900 then .ok .nx (ρ1.set i (.ow n (.ins C (putD f d gs)))) else .bad
        | _ => .bad
      | _ => .bad) := p0
    refine ⟨ρ0, _, m0, o0, ?_⟩
    cases q : Gx ρ0 with
    | bad => rw [q] at p0; exact p0.elim
    | ex y ρ1 => rw [q] at p0; exact fun d' H' o' => p0 d' σ H' (o'.weak fun _ z => ⟨z.1.1, z.2⟩)
    | ok k ρ1 =>
      rw [q] at p0
      cases k with
      | va d' => exact p0.elim
      | ow d' => exact p0.elim
      | al i =>
        intro v H2 o2
        have hv : σ[i]? = some (some v) := o2.t.2
        have p0 : PostS X.K F E T σ D (match ρ1[i]? with
          | some (.ow n (.ins C' gs)) => if C' = C ∧ gs.length < 900 then .ok .nx (ρ1.set i (.ow n (.ins C (putD f d gs)))) else .bad
          | _ => .bad) := p0
        split at p0
        · rename_i n C' gs hi
          split at p0
          · rename_i hz
            obtain ⟨hC, hz⟩ := hz
            subst hC
            obtain ⟨a, h1, mu, a', dx, fs, h2, h3, h4⟩ := o2.own hi
            rw [hv] at h1
            cases h1
            cases h2
            refine ⟨a, C', dx, fs, rfl, h3, c, nf, by rw [h4.len]; omega, ?_⟩
            obtain ⟨o4, _⟩ := o2.setOw (H' := upd H2 a (.ins C' dx (putF f x fs))) (d' := .ins C' (putD f d gs)) (m0.and mono_kat) hi hv (fun b o nb e => by rw [upd_ne nb]; exact e) ⟨_, upd_same⟩ True.intro fun s => ⟨a, dx, _, rfl, upd_same, RpF.put (o2.t.1.2.mono s) (h4.mono s)⟩
            exact p0 _ _ (o4.weak fun _ z => z.1.1)
          · exact p0.elim
        · exact p0.elim
end
end DL

namespace DL
open PySem PySem.Spec PyProof.Rows L2

/-- a def of the text, known by its function on data -/
def FnD (P : Program) (w : World) (K : PySem.W.Frag) (mg : Str → Option Value) (base : Heap) (x : Str) (k n : Nat) (G : List Ent → R Kd) : Prop :=
  ∃ (f : Addr) (fd : FuncData) (ps : List Str), FnOk P w K mg base (L2.CX P w) k f fd ps (spD K n G) ∧ mg x = some (.ref f) ∧ PySem.W.keepIn K (.ref f) = true ∧ Binds K fd ps []
def cR (d : D) (ρ : List Ent) : R Kd := .ok (.va d) ρ
def nilA (ρ : List Ent) : R (List Kd) := .ok [] ρ
def nxS (ρ : List Ent) : R Fl := .ok .nx ρ
def yesT (ρ : List Ent) : R Bool := .ok true ρ
section
variable {X : Cx} {F : Fr} {E : XK} {k n : Nat} {x : Str} {p pos : Pos} {e : Expr} {es : List Expr} {G : List Ent → R Kd} {GA : List Ent → R (List Kd)}
/-- f(e, ..), all arguments shared -/
theorem je_f (h : FnD X.prog X.w X.K X.mg X.base x k n G) (hr : Room k X.A) (hx : Passes (L2.CX X.prog X.w) X E) (ha : PA X (e :: es) (tA X.K F E GA)) (hg : Gl X x := by rfl) (hdb : (x == ("__debug__" : Str)) = false := by decide) (he : starEach (e :: es) X.env = (false, eval e X.env) :: starEach es X.env := by rfl) (hpl : (backTo pos (starEach es X.env)).any (·.1) = false := by rfl) :
    PE X (.Call (.Name x p) (e :: es) [] pos) (tE X.K F E (callU n G [] GA)) := by
  obtain ⟨f, fd, ps, h1, h2, h3, h4⟩ := h
  exact je_call h1 hr hg h2 h3 h4 .nil (fun _ => rfl) hx ha hdb he hpl
/-- f(b, e, ..), b a slot's own thing -/
theorem je_fB (h : FnD X.prog X.w X.K X.mg X.base x k n G) (hr : Room k X.A) (hx : Passes (L2.CX X.prog X.w) X E) (ha : PA X (e :: es) (tA X.K F E GA)) (hg : Gl X x := by rfl) (hdb : (x == ("__debug__" : Str)) = false := by decide) (he : starEach (e :: es) X.env = (false, eval e X.env) :: starEach es X.env := by rfl) (hpl : (backTo pos (starEach es X.env)).any (·.1) = false := by rfl) :
    PE X (.Call (.Name x p) (e :: es) [] pos) (tE X.K F E (callB n G [] GA)) := by
  obtain ⟨f, fd, ps, h1, h2, h3, h4⟩ := h
  exact je_callB1 h1 hr hg h2 h3 h4 .nil (fun _ => rfl) hx ha hdb he hpl
/-- f() -/
theorem je_f0 (h : FnD X.prog X.w X.K X.mg X.base x k n G) (hr : Room k X.A) (hx : Passes (L2.CX X.prog X.w) X E) (hg : Gl X x := by rfl) (hdb : (x == ("__debug__" : Str)) = false := by decide) :
    PE X (.Call (.Name x p) [] [] pos) (tE X.K F E (callU n G [] nilA)) := by
  obtain ⟨f, fd, ps, h1, h2, h3, h4⟩ := h
  refine peI (pe_call0 h1 hr hg h2 h3 h4 .nil hx hdb) fun σ H Q ⟨ρ, T, m, o, p⟩ => ?_
  have p : PostE X.K F E T σ Q (if ([] : List D).length = n then retU ρ (G []) else .bad) := p
  split at p
  · rename_i hn
    exact sp_vas (ds := []) o m rfl hn p
  · exact p.elim
/-! keyword calls: the keywords' values in the parameters' places -/
theorem pk_one {nm : Option Str} {kpos : Pos} {kws : List Keyword} (h : PE X e (tE X.K F E G)) (hr : PK X kws (tA X.K F E GA)) : PK X (⟨nm, e, kpos⟩ :: kws) (tA X.K F E (consV G GA)) :=
  ⟨fun pos pins s σ H Q I ⟨ρ, T, m, o, p⟩ => (pk_cons (je_toVa h) hr).run pos pins s σ H Q I (by
    refine bdV (pf_A Q) m o p fun x H1 d ρ1 o1 p1 => ?_
    refine bdA (T := fun h => T h ∧ Rp X.K h d x) (pf_A Q) (m.and mono_rp) o1 ((pf_A Q).pw _ _ _ (fun _ z => z.1) p1) fun xs H2 ks ρ2 o2 p2 => ?_
    exact p2 _ H2 (o2.weak fun _ z => ⟨z.1, x, xs, rfl, z.1.2, z.2⟩))⟩
theorem pk_end : PK X [] (tA X.K F E nilA) := ⟨fun pos pins s σ H Q I ⟨ρ, T, m, o, p⟩ => pk_nil.run pos pins s σ H Q I (p [] H (o.to ⟨o.t, rfl⟩))⟩
/-! constants -/
theorem jc_glob {d : D} {v : V} {u : Value} (hm : X.mg x = some u) (r : RelV v u) (h : ∀ K H, Rp K H d v) (hg : Gl X x := by rfl) (hd : (x == ("__debug__" : Str)) = false := by decide) : PE X (.Name x pos) (tE X.K F E (cR d)) := je_const (pe_glob hg hm r hd) h
theorem jc_int {i j pos} : PE X (.Constant (.int i) j pos) (tE X.K F E (cR (.int i))) := je_int
theorem jc_bl {i j pos} : PE X (.Constant (.bool i) j pos) (tE X.K F E (cR (.bl i))) := je_bl
theorem jc_non {j pos} : PE X (.Constant .none j pos) (tE X.K F E (cR .non)) := je_non
theorem jc_str {i j pos} : PE X (.Constant (.str i) j pos) (tE X.K F E (cR (.str i))) := je_str
theorem jn_nil : PA X [] (tA X.K F E nilA) := ja_nil
theorem jy_nil : PTs X [] (tT X.K F E yesT) := jts_nil
theorem jx_nil : PSs X [] (tS X.K F E nxS) := js_nil
end
/-! -a -/
def negD : D → Option Out
  | .int i => some (.same (.int (-i)))
  | _ => none
def unR (g : D → Option Out) (G : List Ent → R Kd) (ρ : List Ent) : R Kd := (fz (G ρ)).bind fun k ρ1 => match cont ρ1 k with
  | some d => outO (g d) ρ1
  | none => .bad
section
variable {X : Cx} {F : Fr} {E : XK} {pos : Pos} {e : Expr} {G : List Ent → R Kd}
theorem je_neg (he : PE X e (tE X.K F E G)) : PE X (.UnaryOp .USub e pos) (tE X.K F E (unR negD G)) :=
  peI (pe_un un_neg (je_fz he)) fun σ H Q ⟨ρ, T, m, o, p⟩ => bdE (pf_E Q) m o p fun x H1 k ρ1 o1 p1 => by
    split at p1
    · rename_i d c
      have r := kat_top o1 c
      cases d with
      | int i => exact ⟨i, r, p1 _ H1 (o1.to ⟨o1.t.1, rfl⟩)⟩
      | non => exact p1.elim
      | bl _ => exact p1.elim
      | str _ => exact p1.elim
      | lst _ => exact p1.elim
      | tup _ => exact p1.elim
      | ins _ _ => exact p1.elim
      | dic _ => exact p1.elim
      | scr _ => exact p1.elim
    · exact p1.elim
end
/-! ### a, b = x, y -/
def parVV (i j : Nat) (Ga Gb : List Ent → R Kd) (ρ : List Ent) : R Fl := (toVa (Ga ρ)).bind fun k1 ρ1 => (toVa (Gb ρ1)).bind fun k2 ρ2 => match k1, k2 with
  | .va d1, .va d2 => .ok .nx ((ρ2.set i (.va d1)).set j (.va d2))
  | _, _ => .bad
def parVO (i j : Nat) (Ga Gb : List Ent → R Kd) (ρ : List Ent) : R Fl := (toVa (Ga ρ)).bind fun k1 ρ1 => (Gb ρ1).bind fun k2 ρ2 => match k1, k2 with
  | .va d1, .ow d2 => .ok .nx ((ρ2.set i (.va d1)).set j (.ow none d2))
  | _, _ => .bad
def par3VVV (i j l : Nat) (Ga Gb Gc : List Ent → R Kd) (ρ : List Ent) : R Fl := (toVa (Ga ρ)).bind fun k1 ρ1 => (toVa (Gb ρ1)).bind fun k2 ρ2 => (toVa (Gc ρ2)).bind fun k3 ρ3 => match k1, k2, k3 with
  | .va d1, .va d2, .va d3 => .ok .nx (((ρ3.set i (.va d1)).set j (.va d2)).set l (.va d3))
  | _, _, _ => .bad
def par3VVO (i j l : Nat) (Ga Gb Gc : List Ent → R Kd) (ρ : List Ent) : R Fl := (toVa (Ga ρ)).bind fun k1 ρ1 => (toVa (Gb ρ1)).bind fun k2 ρ2 => (Gc ρ2).bind fun k3 ρ3 => match k1, k2, k3 with
  | .va d1, .va d2, .ow d3 => .ok .nx (((ρ3.set i (.va d1)).set j (.va d2)).set l (.ow none d3))
  | _, _, _ => .bad
section
variable {K : PySem.W.Frag} {F : Fr} {T : HT} {H : Hp} {σ : List (Option V)} {ρ : List Ent}
/-- a slot under the head takes shared data -/
theorem Ok.setVaHd {i : Nat} {v w : V} {n : Option Nat} {d d2 : D} (h : Ok K F (fun h => T h ∧ Rp K h d v) H (some w :: σ) (.ow n d2 :: ρ)) (m : Mono T) : Ok K F T H (some w :: σ.set i (some v)) (.ow n d2 :: ρ.set i (.va d)) :=
  Ok.setVa (i := i + 1) h m
end
section
variable {X : Cx} {F : Fr} {E : XK} {a b c : Expr} {x y z : Str} {px py pz pt pos : Pos} {kt k2 : Nat} {pt2 : Pos} {Ga Gb Gc : List Ent → R Kd}
theorem js_parVV (i j : Nat) (hc : X.calm = true) (hN : X.N.Nodup) (ha : PE X a (tE X.K F E Ga)) (hb : PE X b (tE X.K F E Gb)) (hw : swappedStores [.Tuple [.Name x px, .Name y py] kt pt] (.Tuple [a, b] k2 pt2) X.env = pure (some [x, y]))
    (hi : X.N[i]? = some x := by rfl) (hj : X.N[j]? = some y := by rfl) (hij : i ≠ j := by decide) (hx : X.env.scope.names.lookup x = some .local := by rfl) (hy : X.env.scope.names.lookup y = some .local := by rfl)
    (hs1 : starEach [a, b] X.env = (false, eval a X.env) :: starEach [b] X.env := by rfl) (hs2 : starEach [b] X.env = (false, eval b X.env) :: starEach [] X.env := by rfl) (hs : swapsWithSole [.Tuple [.Name x px, .Name y py] kt pt] (.Tuple [a, b] k2 pt2) pos.line X.env = pure false := by rfl) :
    PS X (.Assign [.Tuple [.Name x px, .Name y py] kt pt] (.Tuple [a, b] k2 pt2) pos) (tS X.K F E (parVV i j Ga Gb)) :=
  psI (ps_par hc hN hi hj hij hx hy (pa_cons (je_toVa ha) (pa_cons (je_toVa hb) pa_nil hs2) hs1) hw hs) fun D σ H ⟨ρ, T, m, o, p⟩ => by
    refine bdV (pf_S D) m o p fun u H1 d1 ρ1 o1 p1 => ?_
    refine bdV (T := fun h => T h ∧ Rp X.K h d1 u) (pf_S D) (m.and mono_rp) o1 ((pf_S D).pw _ _ _ (fun _ z => z.1) p1) fun v H2 d2 ρ2 o2 p2 => ?_
    exact ⟨u, v, rfl, p2 _ H2 ((((o2.weak (U := fun h => ((T h ∧ Rp X.K h d1 u) ∧ Rp X.K h d2 v) ∧ Rp X.K h d1 u) fun _ z => ⟨z, z.1.2⟩).setVa (i := i) ((m.and mono_rp).and mono_rp)).setVa (i := j) (m.and mono_rp)))⟩
theorem js_parVO (i j : Nat) (hc : X.calm = true) (hN : X.N.Nodup) (ha : PE X a (tE X.K F E Ga)) (hb : PE X b (tE X.K F E Gb)) (hw : swappedStores [.Tuple [.Name x px, .Name y py] kt pt] (.Tuple [a, b] k2 pt2) X.env = pure (some [x, y]))
    (hi : X.N[i]? = some x := by rfl) (hj : X.N[j]? = some y := by rfl) (hij : i ≠ j := by decide) (hx : X.env.scope.names.lookup x = some .local := by rfl) (hy : X.env.scope.names.lookup y = some .local := by rfl)
    (hs1 : starEach [a, b] X.env = (false, eval a X.env) :: starEach [b] X.env := by rfl) (hs2 : starEach [b] X.env = (false, eval b X.env) :: starEach [] X.env := by rfl) (hs : swapsWithSole [.Tuple [.Name x px, .Name y py] kt pt] (.Tuple [a, b] k2 pt2) pos.line X.env = pure false := by rfl) :
    PS X (.Assign [.Tuple [.Name x px, .Name y py] kt pt] (.Tuple [a, b] k2 pt2) pos) (tS X.K F E (parVO i j Ga Gb)) :=
  psI (ps_par hc hN hi hj hij hx hy (pa_cons (je_toVa ha) (pa_cons hb pa_nil hs2) hs1) hw hs) fun D σ H ⟨ρ, T, m, o, p⟩ => by
    refine bdV (pf_S D) m o p fun u H1 d1 ρ1 o1 p1 => ?_
    refine ⟨ρ1, _, m.and mono_rp, o1, ?_⟩
    have p1 : PostS X.K F E T σ D ((Gb ρ1).bind fun k2 ρ2 => match (Kd.va d1), k2 with
      | .va d1, .ow d2 => .ok .nx ((ρ2.set i (.va d1)).set j (.ow none d2))
      | _, _ => .bad) := p1
    cases q : Gb ρ1 with
    | bad => rw [q] at p1; exact p1.elim
    | ex x ρ2 => rw [q] at p1; exact fun d H' o' => p1 d σ H' (o'.weak fun _ z => ⟨z.1.1, z.2⟩)
    | ok k ρ2 =>
      rw [q] at p1
      cases k with
      | va d => exact p1.elim
      | al d => exact p1.elim
      | ow d => exact fun v H' o' => ⟨u, v, rfl, p1 _ H' ((o'.setVaHd (i := i) m).setHd (i := j) m)⟩
theorem js_par3VVV (i j l : Nat) (hc : X.calm = true) (hN : X.N.Nodup) (ha : PE X a (tE X.K F E Ga)) (hb : PE X b (tE X.K F E Gb)) (hc' : PE X c (tE X.K F E Gc)) (hw : swappedStores [.Tuple [.Name x px, .Name y py, .Name z pz] kt pt] (.Tuple [a, b, c] k2 pt2) X.env = pure (some [x, y, z]))
    (hi : X.N[i]? = some x := by rfl) (hj : X.N[j]? = some y := by rfl) (hl : X.N[l]? = some z := by rfl) (hij : i ≠ j := by decide) (hil : i ≠ l := by decide) (hjl : j ≠ l := by decide) (hx : X.env.scope.names.lookup x = some .local := by rfl) (hy : X.env.scope.names.lookup y = some .local := by rfl) (hz : X.env.scope.names.lookup z = some .local := by rfl)
    (hs1 : starEach [a, b, c] X.env = (false, eval a X.env) :: starEach [b, c] X.env := by rfl) (hs2 : starEach [b, c] X.env = (false, eval b X.env) :: starEach [c] X.env := by rfl) (hs3 : starEach [c] X.env = (false, eval c X.env) :: starEach [] X.env := by rfl) (hs : swapsWithSole [.Tuple [.Name x px, .Name y py, .Name z pz] kt pt] (.Tuple [a, b, c] k2 pt2) pos.line X.env = pure false := by rfl) :
    PS X (.Assign [.Tuple [.Name x px, .Name y py, .Name z pz] kt pt] (.Tuple [a, b, c] k2 pt2) pos) (tS X.K F E (par3VVV i j l Ga Gb Gc)) :=
  psI (ps_par3 hc hN hi hj hl hij hil hjl hx hy hz (pa_cons (je_toVa ha) (pa_cons (je_toVa hb) (pa_cons (je_toVa hc') pa_nil hs3) hs2) hs1) hw hs) fun D σ H ⟨ρ, T, m, o, p⟩ => by
    refine bdV (pf_S D) m o p fun u H1 d1 ρ1 o1 p1 => ?_
    refine bdV (T := fun h => T h ∧ Rp X.K h d1 u) (pf_S D) (m.and mono_rp) o1 ((pf_S D).pw _ _ _ (fun _ z => z.1) p1) fun v H2 d2 ρ2 o2 p2 => ?_
    refine bdV (T := fun h => (T h ∧ Rp X.K h d1 u) ∧ Rp X.K h d2 v) (pf_S D) ((m.and mono_rp).and mono_rp) o2 ((pf_S D).pw _ _ _ (fun _ z => z.1) p2) fun w H3 d3 ρ3 o3 p3 => ?_
    refine ⟨u, v, w, rfl, p3 _ H3 ?_⟩
    have q := (o3.weak (U := fun h => ((((T h ∧ Rp X.K h d1 u) ∧ Rp X.K h d2 v) ∧ Rp X.K h d3 w) ∧ Rp X.K h d2 v) ∧ Rp X.K h d1 u) fun _ z => ⟨⟨z, z.1.2⟩, z.1.1.2⟩).setVa (i := i) ((((m.and mono_rp).and mono_rp).and mono_rp).and mono_rp)
    exact (q.setVa (i := j) (((m.and mono_rp).and mono_rp).and mono_rp)).setVa (i := l) ((m.and mono_rp).and mono_rp)
theorem js_par3VVO (i j l : Nat) (hc : X.calm = true) (hN : X.N.Nodup) (ha : PE X a (tE X.K F E Ga)) (hb : PE X b (tE X.K F E Gb)) (hc' : PE X c (tE X.K F E Gc)) (hw : swappedStores [.Tuple [.Name x px, .Name y py, .Name z pz] kt pt] (.Tuple [a, b, c] k2 pt2) X.env = pure (some [x, y, z]))
    (hi : X.N[i]? = some x := by rfl) (hj : X.N[j]? = some y := by rfl) (hl : X.N[l]? = some z := by rfl) (hij : i ≠ j := by decide) (hil : i ≠ l := by decide) (hjl : j ≠ l := by decide) (hx : X.env.scope.names.lookup x = some .local := by rfl) (hy : X.env.scope.names.lookup y = some .local := by rfl) (hz : X.env.scope.names.lookup z = some .local := by rfl)
    (hs1 : starEach [a, b, c] X.env = (false, eval a X.env) :: starEach [b, c] X.env := by rfl) (hs2 : starEach [b, c] X.env = (false, eval b X.env) :: starEach [c] X.env := by rfl) (hs3 : starEach [c] X.env = (false, eval c X.env) :: starEach [] X.env := by rfl) (hs : swapsWithSole [.Tuple [.Name x px, .Name y py, .Name z pz] kt pt] (.Tuple [a, b, c] k2 pt2) pos.line X.env = pure false := by rfl) :
    PS X (.Assign [.Tuple [.Name x px, .Name y py, .Name z pz] kt pt] (.Tuple [a, b, c] k2 pt2) pos) (tS X.K F E (par3VVO i j l Ga Gb Gc)) :=
  psI (ps_par3 hc hN hi hj hl hij hil hjl hx hy hz (pa_cons (je_toVa ha) (pa_cons (je_toVa hb) (pa_cons hc' pa_nil hs3) hs2) hs1) hw hs) fun D σ H ⟨ρ, T, m, o, p⟩ => by
    refine bdV (pf_S D) m o p fun u H1 d1 ρ1 o1 p1 => ?_
    refine bdV (T := fun h => T h ∧ Rp X.K h d1 u) (pf_S D) (m.and mono_rp) o1 ((pf_S D).pw _ _ _ (fun _ z => z.1) p1) fun v H2 d2 ρ2 o2 p2 => ?_
    have p2 : PostS X.K F E (fun h => T h ∧ Rp X.K h d1 u) σ D ((Gc ρ2).bind fun k3 ρ3 => match (Kd.va d1), (Kd.va d2), k3 with
      | .va d1, .va d2, .ow d3 => .ok .nx (((ρ3.set i (.va d1)).set j (.va d2)).set l (.ow none d3))
      | _, _, _ => .bad) := p2
    refine ⟨ρ2, _, (m.and mono_rp).and mono_rp, o2, ?_⟩
    cases q : Gc ρ2 with
    | bad => rw [q] at p2; exact p2.elim
    | ex x ρ3 => rw [q] at p2; exact fun d H' o' => p2 d σ H' (o'.weak fun _ z => ⟨z.1.1, z.2⟩)
    | ok k ρ3 =>
      rw [q] at p2
      cases k with
      | va d => exact p2.elim
      | al d => exact p2.elim
      | ow d =>
        refine fun w H' o' => ⟨u, v, w, rfl, p2 _ H' ?_⟩
        have q2 := (o'.weak (U := fun h => ((T h ∧ Rp X.K h d1 u) ∧ Rp X.K h d2 v) ∧ Rp X.K h d1 u) fun _ z => ⟨z, z.1.2⟩).setVaHd (i := i) ((m.and mono_rp).and mono_rp)
        exact (q2.setVaHd (i := j) (m.and mono_rp)).setHd (i := l) (m.and mono_rp)
end
/-! ### target = e by a tuple -/
def asgR (f : D → List Ent → Option (List Ent)) (G : List Ent → R Kd) (ρ : List Ent) : R Fl := (toVa (G ρ)).bind fun k ρ1 => match k with
  | .va d => match f d ρ1 with
    | some ρ2 => .ok .nx ρ2
    | none => .bad
  | _ => .bad
section
variable {X : Cx} {F : Fr} {E : XK} {e tg : Expr} {pos : Pos} {G : List Ent → R Kd} {g : TG} {js : List Nat} {f : D → List Ent → Option (List Ent)}
theorem js_asg (he : PE X e (tE X.K F E G)) (hg : PG X tg g) (ht : TgD X.K g js f) (hs : swapsWithSole [tg] e pos.line X.env = pure false := by rfl) (hw : swappedStores [tg] e X.env = pure none := by rfl)
    (h1 : (assignEach [tg] X.env).map (·.2) = [assign tg X.env] := by rfl) : PS X (.Assign [tg] e pos) (tS X.K F E (asgR f G)) :=
  psI (ps_asg (je_toVa he) hg hs hw h1) fun D σ H ⟨ρ, T, m, o, p⟩ => bdV (pf_S D) m o p fun x H1 d ρ1 o1 p1 => by
    have p1 : PostS X.K F E T σ D (match f d ρ1 with
      | some ρ2 => .ok .nx ρ2
      | none => .bad) := p1
    cases q : f d ρ1 with
    | none => rw [q] at p1; exact p1.elim
    | some ρ2 =>
      rw [q] at p1
      exact ht F d x σ H1 ρ1 ρ2 T _ m o1 q fun σ' H' _ _ o' => p1 σ' H' o'
end
end DL

namespace DL
open PySem PySem.Spec PyProof.Rows L2

/-! ### targets that are tuples of any length -/
def seqT : List (D → List Ent → Option (List Ent)) → List D → List Ent → Option (List Ent)
  | [], [], ρ => some ρ
  | f :: fs, d :: ds, ρ => match f d ρ with
    | some ρ1 => seqT fs ds ρ1
    | none => none
  | _, _, _ => none
def tupT (fs : List (D → List Ent → Option (List Ent))) (d : D) (ρ : List Ent) : Option (List Ent) := match d with
  | .tup ds => seqT fs ds ρ
  | _ => none
def TgsD (K : PySem.W.Frag) (g : TGs) (js : List Nat) (fs : List (D → List Ent → Option (List Ent))) : Prop :=
  ∀ (F : Fr) (ds : List D) (vs : List V) (σ : L2.St) (H : Hp) (ρ ρ' : List Ent) (T : HT) (Q : L2.St → Hp → Prop), Mono T → Ok K F (fun h => T h ∧ RpL K h ds vs) H σ ρ → seqT fs ds ρ = some ρ' → (∀ σ' H', (∀ i, i ∉ js → σ'[i]? = σ[i]?) → σ'.length = σ.length → Ok K F T H' σ' ρ' → Q σ' H') → g vs σ H Q
theorem tgsD_nil {K : PySem.W.Frag} : TgsD K gNil [] [] := fun F ds vs σ H ρ ρ' T Q m o e q => by
  cases ds with
  | nil => cases e; exact ⟨o.t.2, q σ H (fun _ _ => rfl) rfl (o.weak fun _ z => z.1)⟩
  | cons d ds => cases e
theorem tgsD_cons {K : PySem.W.Frag} {g : TG} {gs : TGs} {js ks : List Nat} {f : D → List Ent → Option (List Ent)} {fs : List (D → List Ent → Option (List Ent))} (h1 : TgD K g js f) (h2 : TgsD K gs ks fs) : TgsD K (gCons g gs) (js ++ ks) (f :: fs) := fun F ds vs σ H ρ ρ' T Q m o e q => by
  cases ds with
  | nil => cases e
  | cons d ds =>
    simp only [seqT] at e
    cases e1 : f d ρ with
    | none => rw [e1] at e; cases e
    | some ρ1 =>
      rw [e1] at e
      obtain ⟨x, xs, k3, r1, r2⟩ := o.t.2
      refine ⟨x, xs, k3, h1 F d x σ H ρ ρ1 (fun h => T h ∧ RpL K h ds xs) _ (m.and mono_rpl) (o.to ⟨⟨o.t.1, r2⟩, r1⟩) e1 fun σ1 H1 s1 l1 o1 => ?_⟩
      refine h2 F ds xs σ1 H1 ρ1 ρ' T _ m o1 e fun σ2 H2 s2 l2 o2 => q σ2 H2 (fun i hi => ?_) (l2.trans l1) o2
      rw [s2 i (fun z => hi (List.mem_append_right _ z)), s1 i (fun z => hi (List.mem_append_left _ z))]
theorem tgD_tup {K : PySem.W.Frag} {g : TGs} {js : List Nat} {fs : List (D → List Ent → Option (List Ent))} {n : Nat} (h : TgsD K g js fs) (hn : fs.length = n) : TgD K (gTup K n g) js (tupT fs) := fun F d v σ H ρ ρ' T Q m o e q => by
  cases d with
  | tup ds =>
    obtain ⟨a, xs, k1, k2, k3⟩ := o.t.2
    have hl : ∀ {fs : List (D → List Ent → Option (List Ent))} {ds : List D} {ρ ρ' : List Ent}, seqT fs ds ρ = some ρ' → ds.length = fs.length := by
      intro fs
      induction fs with
      | nil => intro ds ρ ρ' e; cases ds with
        | nil => rfl
        | cons d ds => cases e
      | cons f fs ih => intro ds ρ ρ' e; cases ds with
        | nil => cases e
        | cons d ds =>
          simp only [seqT] at e
          cases e1 : f d ρ with
          | none => rw [e1] at e; cases e
          | some ρ1 => rw [e1] at e; rw [List.length_cons, List.length_cons, ih e]
    exact ⟨a, xs, k1, SqT.mono wo_le k2, by rw [k3.len, hl e, hn], h F ds xs σ H ρ ρ' T Q m (o.to ⟨o.t.1, k3⟩) e q⟩
  | non => cases e
  | bl _ => cases e
  | int _ => cases e
  | str _ => cases e
  | lst _ => cases e
  | ins _ _ => cases e
  | dic _ => cases e
  | scr _ => cases e
section
variable {X : Cx} {F : Fr} {E : XK} {a b c e1 e2 e3 : Expr} {pt pos p2 : Pos} {kt k2 : Nat} {Ga Gb Gc : List Ent → R Kd}
/-! a, b = x, [..] by a tuple, the last one owning -/
theorem js_tupVO (i j : Nat) (hc : X.calm = true) (ha : PE X a (tE X.K F E Ga)) (hb : PE X b (tE X.K F E Gb)) (g1 : PG X e1 (gName i)) (g2 : PG X e2 (gName j)) (hs1 : starEach [a, b] X.env = (false, eval a X.env) :: starEach [b] X.env := by rfl) (hs2 : starEach [b] X.env = (false, eval b X.env) :: starEach [] X.env := by rfl)
    (ha1 : (assignEach [e1, e2] X.env).map (·.2) = assign e1 X.env :: (assignEach [e2] X.env).map (·.2) := by rfl) (ha2 : (assignEach [e2] X.env).map (·.2) = assign e2 X.env :: (assignEach [] X.env).map (·.2) := by rfl) (hn : (assignEach [e1, e2] X.env).length = 2 := by rfl) (hst : (assignEach [e1, e2] X.env).findIdx? (·.1) = none := by rfl)
    (hs : swapsWithSole [.Tuple [e1, e2] kt pt] (.Tuple [a, b] k2 p2) pos.line X.env = pure false := by rfl) (hw : swappedStores [.Tuple [e1, e2] kt pt] (.Tuple [a, b] k2 p2) X.env = pure none := by rfl) (h1 : (assignEach [.Tuple [e1, e2] kt pt] X.env).map (·.2) = [assign (.Tuple [e1, e2] kt pt) X.env] := by rfl) :
    PS X (.Assign [.Tuple [e1, e2] kt pt] (.Tuple [a, b] k2 p2) pos) (tS X.K F E (parVO i j Ga Gb)) :=
  psI (ps_asg (pe_tup (pa_cons (je_toVa ha) (pa_cons hb pa_nil hs2) hs1)) (pg_tup hc (pgs_cons g1 (pgs_cons g2 pgs_nil ha2) ha1) hn hst) hs hw h1) fun D σ H ⟨ρ, T, m, o, p⟩ => by
    refine bdV (pf_S D) m o p fun u H1 d1 ρ1 o1 p1 => ?_
    refine ⟨ρ1, _, m.and mono_rp, o1, ?_⟩
    have p1 : PostS X.K F E T σ D ((Gb ρ1).bind fun k2 ρ2 => match (Kd.va d1), k2 with
      | .va d1, .ow d2 => .ok .nx ((ρ2.set i (.va d1)).set j (.ow none d2))
      | _, _ => .bad) := p1
    cases q : Gb ρ1 with
    | bad => rw [q] at p1; exact p1.elim
    | ex x ρ2 => rw [q] at p1; exact fun d H' o' => p1 d σ H' (o'.weak fun _ z => ⟨z.1.1, z.2⟩)
    | ok k ρ2 =>
      rw [q] at p1
      cases k with
      | va d => exact p1.elim
      | al d => exact p1.elim
      | ow d =>
        refine fun v H' o' => ⟨by show 2 ≤ sizeLine; decide, fun t ht => ⟨t, [u, v], rfl, SqT.of upd_same, rfl, u, [v], rfl, v, [], rfl, rfl, p1 _ _ ?_⟩⟩
        exact (((o'.new (o := .tup [u, v]) (m.and mono_rp) ht).1).setVaHd (i := i) m).setHd (i := j) m
theorem js_tupVVO (i j l : Nat) (hc : X.calm = true) (ha : PE X a (tE X.K F E Ga)) (hb : PE X b (tE X.K F E Gb)) (hcc : PE X c (tE X.K F E Gc)) (g1 : PG X e1 (gName i)) (g2 : PG X e2 (gName j)) (g3 : PG X e3 (gName l)) (hs1 : starEach [a, b, c] X.env = (false, eval a X.env) :: starEach [b, c] X.env := by rfl) (hs2 : starEach [b, c] X.env = (false, eval b X.env) :: starEach [c] X.env := by rfl) (hs3 : starEach [c] X.env = (false, eval c X.env) :: starEach [] X.env := by rfl)
    (ha1 : (assignEach [e1, e2, e3] X.env).map (·.2) = assign e1 X.env :: (assignEach [e2, e3] X.env).map (·.2) := by rfl) (ha2 : (assignEach [e2, e3] X.env).map (·.2) = assign e2 X.env :: (assignEach [e3] X.env).map (·.2) := by rfl) (ha3 : (assignEach [e3] X.env).map (·.2) = assign e3 X.env :: (assignEach [] X.env).map (·.2) := by rfl)
    (hn : (assignEach [e1, e2, e3] X.env).length = 3 := by rfl) (hst : (assignEach [e1, e2, e3] X.env).findIdx? (·.1) = none := by rfl) (hs : swapsWithSole [.Tuple [e1, e2, e3] kt pt] (.Tuple [a, b, c] k2 p2) pos.line X.env = pure false := by rfl) (hw : swappedStores [.Tuple [e1, e2, e3] kt pt] (.Tuple [a, b, c] k2 p2) X.env = pure none := by rfl)
    (h1 : (assignEach [.Tuple [e1, e2, e3] kt pt] X.env).map (·.2) = [assign (.Tuple [e1, e2, e3] kt pt) X.env] := by rfl) : PS X (.Assign [.Tuple [e1, e2, e3] kt pt] (.Tuple [a, b, c] k2 p2) pos) (tS X.K F E (par3VVO i j l Ga Gb Gc)) :=
  psI (ps_asg (pe_tup (pa_cons (je_toVa ha) (pa_cons (je_toVa hb) (pa_cons hcc pa_nil hs3) hs2) hs1)) (pg_tup hc (pgs_cons g1 (pgs_cons g2 (pgs_cons g3 pgs_nil ha3) ha2) ha1) hn hst) hs hw h1) fun D σ H ⟨ρ, T, m, o, p⟩ => by
    refine bdV (pf_S D) m o p fun u H1 d1 ρ1 o1 p1 => ?_
    refine bdV (T := fun h => T h ∧ Rp X.K h d1 u) (pf_S D) (m.and mono_rp) o1 ((pf_S D).pw _ _ _ (fun _ z => z.1) p1) fun v H2 d2 ρ2 o2 p2 => ?_
    have p2 : PostS X.K F E (fun h => T h ∧ Rp X.K h d1 u) σ D ((Gc ρ2).bind fun k3 ρ3 => match (Kd.va d1), (Kd.va d2), k3 with
      | .va d1, .va d2, .ow d3 => .ok .nx (((ρ3.set i (.va d1)).set j (.va d2)).set l (.ow none d3))
      | _, _, _ => .bad) := p2
    refine ⟨ρ2, _, (m.and mono_rp).and mono_rp, o2, ?_⟩
    cases q : Gc ρ2 with
    | bad => rw [q] at p2; exact p2.elim
    | ex x ρ3 => rw [q] at p2; exact fun d H' o' => p2 d σ H' (o'.weak fun _ z => ⟨z.1.1, z.2⟩)
    | ok k ρ3 =>
      rw [q] at p2
      cases k with
      | va d => exact p2.elim
      | al d => exact p2.elim
      | ow d =>
        refine fun w H' o' => ⟨by show 3 ≤ sizeLine; decide, fun t ht => ⟨t, [u, v, w], rfl, SqT.of upd_same, rfl, u, [v, w], rfl, v, [w], rfl, w, [], rfl, rfl, p2 _ _ ?_⟩⟩
        have q2 := (((o'.new (o := .tup [u, v, w]) ((m.and mono_rp).and mono_rp) ht).1).weak (U := fun h => ((T h ∧ Rp X.K h d1 u) ∧ Rp X.K h d2 v) ∧ Rp X.K h d1 u) fun _ z => ⟨z, z.1.2⟩).setVaHd (i := i) ((m.and mono_rp).and mono_rp)
        exact (q2.setVaHd (i := j) (m.and mono_rp)).setHd (i := l) (m.and mono_rp)
end
end DL

namespace DL
open PySem PySem.Spec PyProof.Rows L2

/-! ### what is never asked -/
section
variable {X : Cx} {F : Fr} {E : XK}
theorem je_bad {e : Expr} : PE X e (tE X.K F E fun _ => .bad) := ⟨fun _ _ _ _ _ _ ⟨_, _, _, _, p⟩ => p.elim⟩
theorem jt_bad {e : Expr} : PT X e (tT X.K F E fun _ => .bad) := ⟨fun _ _ _ _ _ _ ⟨_, _, _, _, p⟩ => p.elim⟩
theorem js_bad {e : Stmt} : PS X e (tS X.K F E fun _ => .bad) := ⟨fun _ _ _ _ _ _ ⟨_, _, _, _, p⟩ => p.elim⟩
theorem jx_bad {e : List Stmt} : PSs X e (tS X.K F E fun _ => .bad) := ⟨fun _ _ _ _ _ _ ⟨_, _, _, _, p⟩ => p.elim⟩
end
/-! ### f(a=x, ..), keywords alone, in the parameters' order -/
def KB (K : PySem.W.Frag) (fd : FuncData) (ps : List Str) : Prop := KBn K fd ps 0 ps (fun _ ws => ws) (fun _ zs => zs)
theorem kb_of {K : PySem.W.Frag} {x qual : Str} {st : Stmt} {f : Addr} {fd : FuncData} {ps : List Str} (F : Fun K x qual st f fd)
    (h : ∀ (kV doc pm : Value) (an : Option Addr) (cdv ct : Value) (ws : List Value), ws.length = ps.length → bindArgs (PySem.W.fnOf x qual (defArgs st) (defBody st) (defScope st) .none kV doc pm an cdv ct) { pos := [], kw := ps.zip ws } = pure (ps.zip ws)) : KB K fd ps := by
  obtain ⟨oc, od, kV, doc, pm, an, cdv, ct, osl, e, lk, hc⟩ := F.ex
  subst e
  refine ⟨fun s us ws _ hu hw => ?_, fun _ r => r⟩
  cases us with
  | nil => exact BindsTo.of_eq (h kV doc pm an cdv ct ws hw)
  | cons u us => cases hu
theorem pe_callK0 {X : Cx} {CX : CXT} {k n : Nat} {f : Addr} {fd : FuncData} {ps ks : List Str} {sp : Sp} {E : XK} {x : Str} {p pos : Pos} {kws : List Keyword} {tk : TA} {g : List Value → List Value → List Value} {gV : List V → List V → List V}
    (F : FnOk X.prog X.w X.K X.mg X.base CX k f fd ps sp) (hr : Room k X.A) (hg : Gl X x) (hm : X.mg x = some (.ref f)) (hk : PySem.W.keepIn X.K (.ref f) = true) (hb : KBn X.K fd ps 0 ks g gV) (hx : Passes CX X E) (hkw : PK X kws tk)
    (hall : ((backToKw pos (keywordEach kws X.env)).all fun x => x.1.isSome) = true := by rfl) (hks : (backToKw pos (keywordEach kws X.env)).filterMap (fun x => x.1) = ks := by rfl) (hdb : (x == ("__debug__" : Str)) = false := by decide)
    (hpl : (((backTo pos (starEach [] X.env)).any fun x => x.1) || (backToKw pos (keywordEach kws X.env)).any fun x => x.1.isNone) = false := by rfl) :
    PE X (.Call (.Name x p) [] kws pos) (tCallN 0 ks.length sp gV E tNil tk) :=
  ⟨fun pins s σ H Q I h => wpAny_Call_Name_kw (ld_glob I hg hm (PySem.W.callWith_KW0 I.ok.mod.kin hk hall
    (thn (hkw.run pos pins s σ H (fun zs H2 => ([] : List V).length = 0 ∧ zs.length = ks.length ∧ sp (gV [] zs) H2 Q E) I h) fun ws s2 ⟨zs, H2, I2, rz, l1, l2, q2⟩ => ⟨Inv.kIn I2, by
      rw [hks]
      exact run_fnN F hr hb hx I2 Paired.nil rz l1 l2 q2⟩) hpl) hdb)⟩
/-- a def of the text that may be called by its parameters' names -/
def FnK (P : Program) (w : World) (K : PySem.W.Frag) (mg : Str → Option Value) (base : Heap) (x : Str) (ps : List Str) (k n : Nat) (G : List Ent → R Kd) : Prop :=
  ∃ (f : Addr) (fd : FuncData), FnOk P w K mg base (L2.CX P w) k f fd ps (spD K n G) ∧ mg x = some (.ref f) ∧ PySem.W.keepIn K (.ref f) = true ∧ KB K fd ps
section
variable {X : Cx} {F : Fr} {E : XK} {k n : Nat} {x : Str} {p pos : Pos} {ps : List Str} {kws : List Keyword} {G : List Ent → R Kd} {GA : List Ent → R (List Kd)}
theorem je_fK (h : FnK X.prog X.w X.K X.mg X.base x ps k n G) (hr : Room k X.A) (hx : Passes (L2.CX X.prog X.w) X E) (ha : PK X kws (tA X.K F E GA)) (hg : Gl X x := by rfl)
    (hall : ((backToKw pos (keywordEach kws X.env)).all fun x => x.1.isSome) = true := by rfl) (hks : (backToKw pos (keywordEach kws X.env)).filterMap (fun x => x.1) = ps := by rfl) (hdb : (x == ("__debug__" : Str)) = false := by decide)
    (hpl : (((backTo pos (starEach [] X.env)).any fun x => x.1) || (backToKw pos (keywordEach kws X.env)).any fun x => x.1.isNone) = false := by rfl) (hn : ps.length = n := by rfl) :
    PE X (.Call (.Name x p) [] kws pos) (tE X.K F E (callU n G [] GA)) := by
  obtain ⟨f, fd, h1, h2, h3, h4⟩ := h
  refine peI (pe_callK0 (n := n) h1 hr hg h2 h3 h4 hx ha hall hks hdb hpl) fun σ H Q ⟨ρ, T, m, o, p⟩ => ?_
  refine bdA (pf_E Q) m o p fun vs H1 ks ρ1 o1 p1 => ?_
  cases q : vas ks with
  | none => rw [q] at p1; exact p1.elim
  | some ds =>
    rw [q] at p1
    have p1 : PostE X.K F E T σ Q (if (ds ++ []).length = n then retU ρ1 (G ((ds ++ []).map .va)) else .bad) := p1
    split at p1
    · rename_i hl
      rw [List.append_nil] at p1 hl
      have r := vas_rp q o1.t.2
      have l : vs.length = n := by rw [r.len]; exact hl
      exact ⟨rfl, l.trans hn.symm, sp_vas (o1.weak fun _ z => z.1) m r l p1⟩
    · exact p1.elim
end
/-! ### the frame within a dict display -/
/-- the frame within a dict display: the dict is not seen -/
def frK (F : Fr) (L : Addr) (xs : List (Key × V)) : Fr := ⟨fun a => F.M0 a ∨ a = L, F.W, upd F.H0 L (.dK xs), F.ps⟩
section
variable {K : PySem.W.Frag} {F : Fr} {T : HT} {H : Hp} {σ : List (Option V)} {ρ : List Ent} {L : Addr} {xs ys : List (Key × V)}
theorem ms_frK {a : Addr} : Ms (frK F L xs) σ ρ a ↔ Ms F σ ρ a ∨ a = L := by
  constructor
  · rintro ((z | z) | z)
    · exact .inl (.inl z)
    · exact .inr z
    · exact .inl (.inr z)
  · rintro ((z | z) | z)
    · exact .inl (.inl z)
    · exact .inr z
    · exact .inl (.inr z)
theorem Ok.enterK (o : Ok K F T H σ ρ) (m : Mono T) (hL : H L = none) : Ok K (frK F L []) T (upd H L (.dK [])) σ ρ := by
  have h0 := o.new_h0 hL
  have nm := o.m_new hL
  have k : ∀ a u, H a = some u → upd H L (.dK []) a = some u := fun a u e => by rw [upd_ne (ne_of_none e hL)]; exact e
  have hs : Same (wo H (Ms F σ ρ)) (wo (upd H L (.dK [])) (Ms (frK F L []) σ ρ)) := wo_mono fun a u n e => ⟨fun z => (ms_frK.mp z).elim n fun z => (by rw [z, hL] at e; cases e), k a u e⟩
  refine ⟨o.len, fun i e v h1 h2 => (o.cells i e v h1 h2).move hs fun _ _ a u _ _ q => k a u q, o.inj, fun i a n d h1 h2 => ?_, fun a u e n => ?_, fun a u e => ?_, fun a z => ?_, fun a z => ?_, m _ _ hs o.t⟩
  · obtain ⟨w1, w2, w3, w4⟩ := o.w i a n d h1 h2
    have ne : a ≠ L := fun z => nm (z ▸ .inr ⟨i, n, d, h1, h2⟩)
    exact ⟨fun z => z.elim w1 ne, w2.elim .inl fun z => .inr (by show upd F.H0 L _ a = none; rw [upd_ne ne]; exact z), fun z => (by show upd F.H0 L _ a = none; rw [upd_ne ne]; exact w3 z), w4⟩
  · by_cases ha : a = L
    · subst ha
      have e : upd F.H0 a (.dK []) a = some u := e
      rw [upd_same] at e ⊢
      exact e
    · have e : upd F.H0 L (.dK []) a = some u := e
      rw [upd_ne ha] at e ⊢
      exact o.kp a u e n
  · by_cases ha : a = L
    · subst ha; exact ⟨_, upd_same⟩
    · have e : upd F.H0 L (.dK []) a = some u := e
      rw [upd_ne ha] at e ⊢
      exact o.tr a u e
  · rcases z with z | z
    · obtain ⟨q1, o', q2, q3⟩ := o.m0 a z
      have ne : a ≠ L := fun w => by rw [w, h0] at q2; cases q2
      exact ⟨q1, o', (by show upd F.H0 L _ a = _; rw [upd_ne ne]; exact q2), q3⟩
    · subst z
      exact ⟨fun w => (by obtain ⟨o', q⟩ := o.wt a w; rw [h0] at q; cases q), _, upd_same, fun ys z => (by cases z)⟩
  · obtain ⟨o', q⟩ := o.wt a z
    have ne : a ≠ L := fun w => by rw [w, h0] at q; cases q
    exact ⟨o', by show upd F.H0 L _ a = _; rw [upd_ne ne]; exact q⟩
theorem Ok.at_LK (o : Ok K (frK F L xs) T H σ ρ) : H L = some (.dK xs) := o.kp L _ (by show upd F.H0 L _ L = _; rw [upd_same]) (o.m0 L (.inr rfl)).1
/-- the list grows -/
theorem Ok.turnK (o : Ok K (frK F L xs) T H σ ρ) (m : Mono T) : Ok K (frK F L ys) T (upd H L (.dK ys)) σ ρ := by
  have hL := o.at_LK
  have mL : Ms (frK F L xs) σ ρ L := .inl (.inr rfl)
  have hs : Same (wo H (Ms (frK F L xs) σ ρ)) (wo (upd H L (.dK ys)) (Ms (frK F L ys) σ ρ)) := wo_mono fun a u n e => ⟨fun z => n (ms_frK.mpr (ms_frK.mp z)), (by rw [upd_ne (fun z : a = L => n (by rw [z]; exact mL))]; exact e)⟩
  have nL : ∀ (i : Nat) (n : Option Nat) (d : D), ρ[i]? = some (Ent.ow n d) → ∀ a : Addr, σ[i]? = some (some (V.ref a)) → a ≠ L := fun i n d h1 a h2 z => (o.w i a n d h1 h2).1 (.inr z)
  refine ⟨o.len, fun i e v h1 h2 => (o.cells i e v h1 h2).move hs fun n d a u ee ev q => (by subst ee; subst ev; rw [upd_ne (nL i n d h1 a h2)]; exact q), o.inj, fun i a n d h1 h2 => ?_, fun a u e n => ?_, fun a u e => ?_, fun a z => ?_, fun a z => ?_, m _ _ hs o.t⟩
  · obtain ⟨w1, w2, w3, w4⟩ := o.w i a n d h1 h2
    have ne := nL i n d h1 a h2
    refine ⟨w1, w2.elim .inl fun z => .inr ?_, fun z => ?_, w4⟩
    · have z : upd F.H0 L (.dK xs) a = none := z
      show upd F.H0 L _ a = none
      rw [upd_ne ne] at z ⊢
      exact z
    · have z : upd F.H0 L (.dK xs) a = none := w3 z
      show upd F.H0 L _ a = none
      rw [upd_ne ne] at z ⊢
      exact z
  · have e : upd F.H0 L (.dK ys) a = some u := e
    by_cases ha : a = L
    · subst ha
      rw [upd_same] at e ⊢
      exact e
    · rw [upd_ne ha] at e ⊢
      exact o.kp a u (by show upd F.H0 L _ a = _; rw [upd_ne ha]; exact e) n
  · have e : upd F.H0 L (.dK ys) a = some u := e
    by_cases ha : a = L
    · subst ha; exact ⟨_, upd_same⟩
    · rw [upd_ne ha] at e ⊢
      exact o.tr a u (by show upd F.H0 L _ a = _; rw [upd_ne ha]; exact e)
  · obtain ⟨q1, o', q2, q3⟩ := o.m0 a z
    refine ⟨q1, ?_⟩
    by_cases ha : a = L
    · subst ha; exact ⟨_, upd_same, fun ys z => (by cases z)⟩
    · have q2 : upd F.H0 L (.dK xs) a = some o' := q2
      rw [upd_ne ha] at q2
      exact ⟨o', (by show upd F.H0 L _ a = _; rw [upd_ne ha]; exact q2), q3⟩
  · obtain ⟨o', q⟩ := o.wt a z
    by_cases ha : a = L
    · subst ha; exact ⟨_, upd_same⟩
    · have q : upd F.H0 L (.dK xs) a = some o' := q
      rw [upd_ne ha] at q
      exact ⟨o', by show upd F.H0 L _ a = _; rw [upd_ne ha]; exact q⟩
/-- it is handed on -/
theorem Ok.leaveK {ds : List (Key × D)} (o : Ok K (frK F L xs) T H σ ρ) (m : Mono T) (r : RpD K (wo H (Ms (frK F L xs) σ ρ)) ds xs) (h0 : F.H0 L = none) (hm : ¬ F.M0 L) (m0 : ∀ a, F.M0 a → ¬ F.W a ∧ ∃ o, F.H0 a = some o ∧ ∀ xs, o ≠ .tup xs) (wt : ∀ a, F.W a → ∃ o, F.H0 a = some o) : Ok K F T H (some (.ref L) :: σ) (.ow none (.dic ds) :: ρ) := by
  have hL := o.at_LK
  have nL : ∀ (i : Nat) (n : Option Nat) (d : D), ρ[i]? = some (Ent.ow n d) → ∀ a : Addr, σ[i]? = some (some (V.ref a)) → a ≠ L := fun i n d h1 a h2 z => (o.w i a n d h1 h2).1 (.inr z)
  have hs : Same (wo H (Ms (frK F L xs) σ ρ)) (wo H (Ms F (some (.ref L) :: σ) (.ow none (.dic ds) :: ρ))) := wo_mono fun a u n e => ⟨fun z => n (by
    rcases z with z | z
    · exact .inl (.inl z)
    · rcases z.of_cons with ⟨z, _⟩ | z
      · cases z; exact .inl (.inr rfl)
      · exact .inr z), e⟩
  have back : ∀ a, a ≠ L → upd F.H0 L (.dK xs) a = F.H0 a := fun a ha => upd_ne ha
  refine ⟨by simp [o.len], fun i e v h1 h2 => ?_, fun i j a n l d1 d2 h1 h2 h3 h4 => ?_, fun i a n d h1 h2 => ?_, fun a u e n => ?_, fun a u e => ?_, m0, wt, m _ _ hs o.t⟩
  · cases i with
    | zero =>
      simp at h1 h2
      subst h1; subst h2
      exact ⟨_, rfl, True.intro, L, xs, rfl, hL, r.mono hs⟩
    | succ i => exact (o.cells i e v (by simpa using h1) (by simpa using h2)).move hs fun _ _ _ _ _ _ q => q
  · cases i with
    | zero =>
      cases j with
      | zero => rfl
      | succ j =>
        simp at h3
        exact (nL j l d2 (by simpa using h2) a (by simpa using h4) h3.symm).elim
    | succ i =>
      cases j with
      | zero =>
        simp at h4
        exact (nL i n d1 (by simpa using h1) a (by simpa using h3) h4.symm).elim
      | succ j => rw [o.inj i j a n l d1 d2 (by simpa using h1) (by simpa using h2) (by simpa using h3) (by simpa using h4)]
  · cases i with
    | zero =>
      have h1 : Ent.ow none (.dic ds) = .ow n d := by simpa using h1
      have h2 : L = a := by simpa using h2
      cases h1
      subst h2
      exact ⟨hm, .inr h0, fun _ => h0, fun k z => nomatch z⟩
    | succ i =>
      have k1 : ρ[i]? = some (.ow n d) := by simpa using h1
      have k2 : σ[i]? = some (some (.ref a)) := by simpa using h2
      have ne := nL i n d k1 a k2
      obtain ⟨w1, w2, w3, w4⟩ := o.w i a n d k1 k2
      exact ⟨fun z => w1 (.inl z), w2.elim .inl fun z => .inr ((back a ne).symm.trans z), fun z => (back a ne).symm.trans (w3 z), w4⟩
  · have ne : a ≠ L := fun z => by rw [z, h0] at e; cases e
    exact o.kp a u ((back a ne).trans e) n
  · have ne : a ≠ L := fun z => by rw [z, h0] at e; cases e
    exact o.tr a u ((back a ne).trans e)
end
/-! ### dict displays -/
def keyD : D → Option Key
  | .int i => some (.inl i)
  | .str s => some (.inr s)
  | _ => none
def nilP (ρ : List Ent) : R (List (Key × D)) := .ok [] ρ
def consP (Gk Gv : List Ent → R Kd) (GP : List Ent → R (List (Key × D))) (ρ : List Ent) : R (List (Key × D)) := (noX (toVa (Gk ρ))).bind fun k ρ1 => match k with
  | .va dk => match keyD dk with
    | some kk => (noX (toVa (Gv ρ1))).bind fun v ρ2 => match v with
      | .va dv => (GP ρ2).bind fun r ρ3 => .ok ((kk, dv) :: r) ρ3
      | _ => .bad
    | none => .bad
  | _ => .bad
def dispR (GP : List Ent → R (List (Key × D))) (ρ : List Ent) : R Kd := (noX (GP ρ)).bind fun kds ρ1 => if kds.length ≤ 15 ∧ (kds.map (·.1)).Nodup then .ok (.ow (.dic kds)) ρ1 else .bad
/-- the pairs of a display, within any frame -/
def PQ (X : Cx) (pos : Pos) (ks : List (Option Expr)) (vs : List Expr) (GP : List Ent → R (List (Key × D))) : Prop := ∃ trs, PPs X pos ks vs trs ∧ ∀ (F : Fr) (T : HT) (σ : L2.St) (H : Hp) (ρ : List Ent) (Q : List (V × V) → Hp → Prop), Mono T → Ok X.K F T H σ ρ →
  (∃ kds ρ1, GP ρ = .ok kds ρ1 ∧ ∀ kvs H', Ok X.K F (fun h => T h ∧ RpD X.K h kds kvs) H' σ ρ1 → Q (kvs.map fun kv => (kV kv.1, kv.2)) H') → tPairs trs σ H Q
theorem mono_rpd {K : PySem.W.Frag} {d : List (Key × D)} {v : List (Key × V)} : Mono fun h => RpD K h d v := fun _ _ e x => x.mono e
section
variable {X : Cx} {F : Fr} {E : XK} {pos : Pos} {k v : Expr} {ks : List (Option Expr)} {vs : List Expr} {Gk Gv : List Ent → R Kd} {GP : List Ent → R (List (Key × D))}
theorem key_rp {K : PySem.W.Frag} {H : Hp} {d : D} {kk : Key} {v : V} (h : keyD d = some kk) (r : Rp K H d v) : v = kV kk := by
  cases d with
  | int i => cases h; exact r
  | str s => cases h; exact r
  | non => cases h
  | bl _ => cases h
  | lst _ => cases h
  | tup _ => cases h
  | ins _ _ => cases h
  | dic _ => cases h
  | scr _ => cases h
theorem pq_nil : PQ X pos [] [] nilP := ⟨[], pps_nil, fun F T σ H ρ Q m o ⟨kds, ρ1, e, h⟩ => by
  cases e
  exact h [] H (o.to ⟨o.t, rfl⟩)⟩
theorem noX_ok {α : Type} {r : R α} {β : Type} {f : α → List Ent → R β} {b : β} {ρ : List Ent} (h : (noX r).bind f = .ok b ρ) : ∃ a ρ1, r = .ok a ρ1 ∧ f a ρ1 = .ok b ρ := by
  cases r with
  | ok a ρ1 => exact ⟨a, ρ1, rfl, h⟩
  | ex x ρ1 => cases h
  | bad => cases h
theorem pq_cons (hk : ∀ F', PE X k (tE X.K F' noE Gk)) (hv : ∀ F', PE X v (tE X.K F' noE Gv)) (h : PQ X pos ks vs GP) : PQ X pos (some k :: ks) (v :: vs) (consP Gk Gv GP) := by
  obtain ⟨trs, h1, h2⟩ := h
  refine ⟨_, pps_cons (PE.union fun F' => je_toVa (hk F')) (PE.union fun F' => je_toVa (hv F')) h1, fun F T σ H ρ Q m o ⟨kds, ρ1, e, hq⟩ => ?_⟩
  obtain ⟨k1, ρ2, e1, e⟩ := noX_ok e
  refine ⟨F, ρ, T, m, o, ?_⟩
  show PostE X.K F noE T σ _ (toVa (Gk ρ))
  rw [e1]
  cases k1 with
  | ow d => cases e
  | al i => cases e
  | va dk =>
    intro y H1 o1
    have o1 : Ok X.K F (fun h => T h ∧ Rp X.K h dk y) H1 σ ρ2 := o1
    cases ek : keyD dk with
    | none => simp only [ek] at e; cases e
    | some kk =>
      simp only [ek] at e
      obtain ⟨v1, ρ3, e2, e⟩ := noX_ok e
      have ey := key_rp ek o1.t.2
      refine ⟨F, ρ2, T, m, o1.weak fun _ z => z.1, ?_⟩
      show PostE X.K F noE T σ _ (toVa (Gv ρ2))
      rw [e2]
      cases v1 with
      | ow d => cases e
      | al i => cases e
      | va dv =>
        intro z H2 o2
        have o2 : Ok X.K F (fun h => T h ∧ Rp X.K h dv z) H2 σ ρ3 := o2
        have e : (GP ρ3).bind (fun r ρ3 => .ok ((kk, dv) :: r) ρ3) = .ok kds ρ1 := e
        cases e3 : GP ρ3 with
        | ex x r => rw [e3] at e; cases e
        | bad => rw [e3] at e; cases e
        | ok r ρ4 =>
          rw [e3] at e
          cases e
          refine h2 F _ σ H2 ρ3 _ (m.and mono_rp) o2 ⟨_, _, e3, fun kvs H' o3 => ?_⟩
          have := hq ((kk, z) :: kvs) H' (o3.weak fun _ q => ⟨q.1.1, z, kvs, rfl, q.1.2, q.2⟩)
          rw [ey]
          exact this
theorem putK_end {kvs : List (Key × V)} {k : Key} {v : V} (h : k ∉ kvs.map (·.1)) : putK kvs k v = kvs ++ [(k, v)] := by
  unfold putK
  rw [if_neg]
  intro z
  obtain ⟨kv, h1, h2⟩ := List.any_eq_true.mp z
  exact h (List.mem_map.mpr ⟨kv, h1, of_decide_eq_true h2⟩)
theorem merge_end : ∀ {kvs acc : List (Key × V)}, ((acc ++ kvs).map (·.1)).Nodup → mergeK acc kvs = acc ++ kvs
  | [], acc, _ => by unfold mergeK; simp
  | (k, v) :: kvs, acc, h => by
    have h1 : k ∉ acc.map (·.1) := fun z => by
      rw [List.map_append, List.map_cons] at h
      exact (List.nodup_append.mp h).2.2 k z k (List.mem_cons_self ..) rfl
    unfold mergeK
    rw [List.foldl_cons, putK_end h1]
    have := merge_end (kvs := kvs) (acc := acc ++ [(k, v)]) (by rw [List.append_assoc]; exact h)
    unfold mergeK at this
    rw [this, List.append_assoc]
    rfl
theorem RpD.keys {K : PySem.W.Frag} {H : Hp} : ∀ {kds : List (Key × D)} {kvs : List (Key × V)}, RpD K H kds kvs → kvs.map (·.1) = kds.map (·.1)
  | [], _, h => by rw [show _ = [] from h]; rfl
  | (k, d) :: kds, _, ⟨y, ys, e, _, h⟩ => by rw [e, List.map_cons, List.map_cons, RpD.keys h]
theorem je_dict (h : PQ X pos ks vs GP) (hall : ks.all (·.isSome) = true := by rfl) (hl : ks.length = vs.length := by rfl) (h0 : ks ≠ [] := by simp) (h15 : ks.length ≤ 15 := by decide) : PE X (.Dict ks vs pos) (tE X.K F E (dispR GP)) := by
  obtain ⟨trs, h1, h2⟩ := h
  refine peI (pe_disp h1 hall hl h0 h15) fun σ H Q ⟨ρ, T, m, o, p⟩ => fun a ha => ?_
  cases e : GP ρ with
  | ex x r => unfold dispR at p; rw [e] at p; exact p.elim
  | bad => unfold dispR at p; rw [e] at p; exact p.elim
  | ok kds ρ1 =>
    unfold dispR at p
    rw [e] at p
    have p : PostE X.K F E T σ Q (if kds.length ≤ 15 ∧ (kds.map (·.1)).Nodup then .ok (.ow (.dic kds)) ρ1 else .bad) := p
    split at p
    · rename_i hz
      refine h2 (frK F a []) T σ _ ρ _ m (o.enterK m ha) ⟨kds, ρ1, e, fun kvs H' o1 => ⟨o1.at_LK, kvs, rfl, ?_, ?_⟩⟩
      · have := congrArg List.length o1.t.2.keys
        rw [List.length_map, List.length_map] at this
        rw [this]; exact hz.1
      · rw [merge_end (acc := []) (by rw [List.nil_append, o1.t.2.keys]; exact hz.2), List.nil_append]
        have o2 := o1.turnK (ys := kvs) (m.and mono_rpd)
        have o3 := o2.leaveK (m.and mono_rpd) o2.t.2 (o.new_h0 ha) (fun z => o.m_new ha (.inl z)) o.m0 o.wt
        exact p _ _ (o3.weak fun _ z => z.1)
    · exact p.elim
end
end DL

namespace DL
open PySem PySem.Spec PyProof.Rows L2
/-! ### the law at its own call -/
theorem law_true {K : PySem.W.Frag} {H : Hp} {a : Addr} {ns : List Int} {Gf : List Ent → R Kd} (h : ∃ ρ, Gf [.va (.scr ns)] = .ok (.va (.bl true)) ρ) (hS : SqL K H a (ns.map V.int)) : spD K 1 Gf [.ref a] H (fun v _ => v = .bl true) fun _ _ _ => False := by
  obtain ⟨ρ, e⟩ := h
  have nM : ∀ b, ¬ Ms ⟨fun _ => False, fun _ => False, H, [V.ref a]⟩ [some (V.ref a)] [Ent.va (D.scr ns)] b := fun b z => by
    rcases z with z | ⟨i, n, d, h1, _⟩
    · exact z
    · cases i with
      | zero => cases h1
      | succ i => cases h1
  have hs : Same H (wo H (Ms ⟨fun _ => False, fun _ => False, H, [V.ref a]⟩ [some (V.ref a)] [Ent.va (D.scr ns)])) := fun b o z => by rw [wo_get (nM b)]; exact z
  refine ⟨rfl, ⟨fun _ => False, fun _ => False, H, [V.ref a]⟩, [.va (.scr ns)], fun _ => True, rfl, rfl, mono_true, ⟨rfl, fun i en v h1 h2 => ?_, fun i j b n m d e h1 h2 h3 h4 => ?_, fun i b n d h1 h2 => ?_, fun b o z _ => z, fun b o z => ⟨o, z⟩, fun b z => z.elim, fun b z => z.elim, True.intro⟩, ?_⟩
  · cases i with
    | zero => cases h1; cases h2; exact ⟨_, rfl, a, rfl, hs.seq hS⟩
    | succ i => cases h1
  · cases i with
    | zero => cases h1
    | succ i => cases h1
  · cases i with
    | zero => cases h1
    | succ i => cases h1
  · rw [e]
    exact fun v H' o => o.t.2
theorem noCX {P : Program} (w : World) (H : Hp) (s : Shared) (e : Value) (s' : Shared) (h : L2.CX P w [] H s (fun _ _ _ => False) e s') : False := by
  obtain ⟨_, _, _, _, _, _, _, _, _, _, _, _, h⟩ := h
  exact h
/-! comprehensions, the slots of their own names written out -/
section
variable {X : Cx} {F : Fr} {E : XK} {elt tg iter : Expr} {ifs : List Expr} {scope : Scope} {own : List (Str × Nat)} {pos : Pos} {g : TG} {Gi : List Ent → R (List D)} {f : D → List Ent → Option (List Ent)} {A : List Ent → R Bool} {G : List Ent → R Kd} {js vs : List Nat}
theorem je_lcV (hc : X.calm = true) (hN : X.N.Nodup) (hi : PI X tg iter (tI X.K F E Gi)) (ok : BlkOk X.N X.env.scope scope own)
    (hg : ∀ (s : Shared) (H : Hp) (C : Addr) (cl : List (Str × Addr)) (fp : List Addr), PG (X.blk s H scope (compEnvC scope cl C X.env) fp) tg g) (ht : TgD X.K g js f) (hv : ∀ i ∈ js, i ∈ vs)
    (hA : ∀ (s : Shared) (H : Hp) (C : Addr) (cl : List (Str × Addr)) (fp : List Addr) (F' : Fr), PTs (X.blk s H scope (compEnvC scope cl C X.env) fp) ifs (tT X.K F' noE A))
    (hG : ∀ (s : Shared) (H : Hp) (C : Addr) (cl : List (Str × Addr)) (fp : List Addr) (F' : Fr), PE (X.blk s H scope (compEnvC scope cl C X.env) fp) elt (tE X.K F' noE G)) (hvs : own.map (·.2) = vs) (hs : ∀ x, foldedSetIterable iter X.env x = pure x := by intro _; rfl) :
    PE X (.ListComp elt [⟨tg, iter, ifs, 0⟩] scope pos) (tE X.K F E (lcR Gi f A G vs)) := by
  subst hvs
  exact je_lc hc hN hi ok hg ht hv hA hG hs
theorem js_setLcV {i : Nat} {y : Str} {py spos : Pos} (hc : X.calm = true) (hN : X.N.Nodup) (hsw : swapsWith (.ListComp elt [⟨tg, iter, ifs, 0⟩] scope pos) (some (.Name y py)) spos.line X.env = pure true) (hi : PI X tg iter (tI X.K F E Gi)) (ok : BlkOk X.N X.env.scope scope own)
    (hg : ∀ (s : Shared) (H : Hp) (C : Addr) (cl : List (Str × Addr)) (fp : List Addr), PG (X.blk s H scope (compEnvC scope cl C X.env) fp) tg g) (ht : TgD X.K g js f) (hv : ∀ i ∈ js, i ∈ vs)
    (hA : ∀ (s : Shared) (H : Hp) (C : Addr) (cl : List (Str × Addr)) (fp : List Addr) (F' : Fr), PTs (X.blk s H scope (compEnvC scope cl C X.env) fp) ifs (tT X.K F' noE A))
    (hG : ∀ (s : Shared) (H : Hp) (C : Addr) (cl : List (Str × Addr)) (fp : List Addr) (F' : Fr), PE (X.blk s H scope (compEnvC scope cl C X.env) fp) elt (tE X.K F' noE G)) (hvs : own.map (·.2) = vs) (hy : X.N[i]? = some y := by rfl) (hyl : X.env.scope.names.lookup y = some .local := by rfl) (hs : ∀ x, foldedSetIterable iter X.env x = pure x := by intro _; rfl) :
    PS X (.Assign [.Name y py] (.ListComp elt [⟨tg, iter, ifs, 0⟩] scope pos) spos) (tS X.K F E (setR i (lcR Gi f A G vs))) := by
  subst hvs
  exact js_setLc hc hN hsw hi ok hg ht hv hA hG hy hyl hs
theorem js_setLcOV {i : Nat} {y : Str} {py spos : Pos} (hc : X.calm = true) (hN : X.N.Nodup) (hsw : swapsWith (.ListComp elt [⟨tg, iter, ifs, 0⟩] scope pos) (some (.Name y py)) spos.line X.env = pure true) (hi : PI X tg iter (tI X.K F E Gi)) (ok : BlkOk X.N X.env.scope scope own)
    (hg : ∀ (s : Shared) (H : Hp) (C : Addr) (cl : List (Str × Addr)) (fp : List Addr), PG (X.blk s H scope (compEnvC scope cl C X.env) fp) tg g) (ht : TgD X.K g js f) (hv : ∀ i ∈ js, i ∈ vs)
    (hA : ∀ (s : Shared) (H : Hp) (C : Addr) (cl : List (Str × Addr)) (fp : List Addr) (F' : Fr), PTs (X.blk s H scope (compEnvC scope cl C X.env) fp) ifs (tT X.K F' noE A))
    (hG : ∀ (s : Shared) (H : Hp) (C : Addr) (cl : List (Str × Addr)) (fp : List Addr) (F' : Fr), PE (X.blk s H scope (compEnvC scope cl C X.env) fp) elt (tE X.K F' noE G)) (hvs : own.map (·.2) = vs) (hy : X.N[i]? = some y := by rfl) (hyl : X.env.scope.names.lookup y = some .local := by rfl) (hs : ∀ x, foldedSetIterable iter X.env x = pure x := by intro _; rfl) :
    PS X (.Assign [.Name y py] (.ListComp elt [⟨tg, iter, ifs, 0⟩] scope pos) spos) (tS X.K F E (setO i (lcR Gi f A G vs))) := by
  subst hvs
  exact js_setLcO hc hN hsw hi ok hg ht hv hA hG hy hyl hs
end
end DL

namespace DL
open PySem PySem.Spec PyProof.Rows L2
/-! ### reckoning on data -/
theorem eqD_int (a b : Int) : eqD (.int a) (.int b) = some (.same (.bl (decide (a = b)))) := rfl
theorem neD_int (a b : Int) : neD (.int a) (.int b) = some (.same (.bl (!decide (a = b)))) := rfl
theorem modD_int {i j : Int} (h : 0 < j) : modD (.int i) (.int j) = some (.same (.int (i % j))) := if_pos h
theorem big_pow {j : Int} (h : j < 2 ^ 64) : j < 2 ^ 8000 := Int.lt_of_lt_of_le h (by
  have : (2 : Nat) ^ 64 ≤ 2 ^ 8000 := Nat.pow_le_pow_right (by decide) (by decide)
  exact_mod_cast this)
theorem fdivD_int {i j : Int} (h : 0 < j) (h2 : j < 2 ^ 64) : fdivD (.int i) (.int j) = some (.same (.int (i / j))) := if_pos ⟨h, big_pow h2⟩
theorem mulD_l {i j : Int} (h : -(2 ^ 64) < i ∧ i < 2 ^ 64) : mulD (.int i) (.int j) = some (.same (.int (i * j))) := if_pos (decide_eq_true (.inl h))
theorem mulD_r {i j : Int} (h : -(2 ^ 64) < j ∧ j < 2 ^ 64) : mulD (.int i) (.int j) = some (.same (.int (i * j))) := if_pos (decide_eq_true (.inr h))
theorem powD_int {i j : Int} (h : 0 ≤ j ∧ j ≤ 1000 ∧ -(2 ^ 63) < i ∧ i < 2 ^ 63) : powD (.int i) (.int j) = some (.same (.int (i ^ j.toNat))) := if_pos h
theorem addD_int (i j : Int) : addD (.int i) (.int j) = some (.same (.int (i + j))) := rfl
theorem subD_int (i j : Int) : subD (.int i) (.int j) = some (.same (.int (i - j))) := rfl
theorem ltD_int (i j : Int) : ltD (.int i) (.int j) = some (.same (.bl (decide (i < j)))) := rfl
theorem leD_int (i j : Int) : leD (.int i) (.int j) = some (.same (.bl (decide (i ≤ j)))) := rfl
theorem gtD_int (i j : Int) : gtD (.int i) (.int j) = some (.same (.bl (decide (j < i)))) := rfl
theorem geD_int (i j : Int) : geD (.int i) (.int j) = some (.same (.bl (decide (j ≤ i)))) := rfl
theorem intD_int (i : Int) : DL.intD [.int i] = some (.same (.int i)) := rfl
theorem lenD_lst (ds : List D) : lenD [.lst ds] = some (.same (.int (ds.length : Int))) := rfl
theorem atI_at {α : Type} {xs : List α} {i : Int} (h : 0 ≤ i ∧ i < xs.length) : atI xs i = xs[i.toNat]? := by
  unfold atI ixN
  rw [if_pos h.1, if_pos h.2]
  rfl
end DL

namespace K02
open PySem PySem.Spec PyProof.Rows L2 DL
def top (i : Nat) : Stmt := PySem.Challenge.pw_mendworth_k02_moduli_and_letters.main.body.getD i (.Pass ⟨0, 0, 0, 0⟩)
structure Tx (mg : Str → Option Value) : Prop where
  b_isqrt : mg "isqrt" = some (.builtin "math.isqrt")
  c_GREATEST_MODULUS : ∃ t, mg "GREATEST_MODULUS" = some (.int 999983 t)
  c_LEAST_MODULUS : ∃ t, mg "LEAST_MODULUS" = some (.int 10007 t)
  n_all : mg "all" = none
  n_bool : mg "bool" = none
  n_dict : mg "dict" = none
  n_int : mg "int" = none
  n_isinstance : mg "isinstance" = none
  n_len : mg "len" = none
  n_list : mg "list" = none
  n_range : mg "range" = none
  n_str : mg "str" = none
  n_tuple : mg "tuple" = none
  n_zip : mg "zip" = none
section
variable {P : Program} {w : World} {K : PySem.W.Frag} {mg : Str → Option Value} {base : Heap}
/-! is_number -/
abbrev s_is_number : Stmt := top 4
theorem sc_is_number : FnScope ["value"] ["value"] (defScope s_is_number) := ⟨rfl, rfl, rfl, by decide +kernel, rfl, by decide +kernel, by decide +kernel⟩
def G_is_number : List Ent → R Fl :=
  (retR (andV (isiR [.int] (nameR 0)) (notV (isiR [.bool] (nameR 0)))))
def Gf_is_number : List Ent → R Kd := fun es => fin 1 (G_is_number (es ++ List.replicate 0 .no))
theorem eq_is_number : ∀ es : List Ent, es.length = 1 → Gf_is_number es ≠ .bad → fin 1 (G_is_number (es ++ List.replicate (1 - 1) .no)) = Gf_is_number es := fun _ _ _ => rfl
theorem bd_is_number (kV doc pm : Value) (an : Option Addr) (cdv ct : Value) (us : List Value) (h : us.length = (["value"] : List Str).length) : bindArgs (PySem.W.fnOf "is_number" "is_number" (defArgs s_is_number) (defBody s_is_number) (defScope s_is_number) .none kV doc pm an cdv ct) { pos := us } = pure ((["value"] : List Str).zip us) := match us, h with | [_], _ => rfl
theorem ok_is_number {f : Addr} {fd : FuncData} (T : Tx mg)  (F : Fun K "is_number" "is_number" s_is_number f fd) : FnOk P w K mg base (L2.CX P w) 1 f fd ["value"] (spD K 1 Gf_is_number) :=
  jf_ok (n := 1) (k := 0) (G := G_is_number) F sc_is_number rfl (fun cdv A outer s H E Fm hr =>
    (js_one (js_ret (je_and (je_isi .int rfl (by rfl) T.n_isinstance (by rfl) T.n_int boot_int (je_name 0)) (je_one (je_not (je_isi .bool rfl (by rfl) T.n_isinstance (by rfl) T.n_bool boot_bool (je_name 0)))))))) eq_is_number
theorem dn_is_number {f : Addr} {fd : FuncData} (T : Tx mg)  (F : Fun K "is_number" "is_number" s_is_number f fd) (hm : mg "is_number" = some (.ref f)) : FnD P w K mg base "is_number" 1 1 Gf_is_number := ⟨f, fd, ["value"], ok_is_number T  F, hm, F.kp, F.binds (bd_is_number)⟩
/-! is_modulus -/
abbrev s_is_modulus : Stmt := top 5
theorem sc_is_modulus : FnScope ["value", "divisor"] ["value"] (defScope s_is_modulus) := ⟨rfl, rfl, rfl, by decide +kernel, rfl, by decide +kernel, by decide +kernel⟩
def S1_is_modulus : List Ent → R Fl :=
  (ifS (orR (notR (fun ρ => toB ((callU 1 Gf_is_number [] (consV (nameR 0) nilA)) ρ))) (orR (fun ρ => toB (binR ltD (nameR 0) (cR (.int 10007)) ρ)) (fun ρ => toB (binR gtD (nameR 0) (cR (.int 999983)) ρ)))) (retR (cR (.bl false))) nxS)
def B2_is_modulus : List Ent → R Fl :=
  (ifS (fun ρ => toB (binR eqD (binR modD (nameR 0) (nameR 1)) (cR (.int 0)) ρ)) (retR (cR (.bl false))) nxS)
def G_is_modulus : List Ent → R Fl :=
  (seqR S1_is_modulus (seqR (forS (rng2I (consV (cR (.int 2)) (consV (binR addD (callR isqrtD (consR (nameR 0) nilA)) (cR (.int 1))) nilA))) (nameT 1) B2_is_modulus) (retR (cR (.bl true)))))
def Gf_is_modulus : List Ent → R Kd := fun es => fin 1 (G_is_modulus (es ++ List.replicate 1 .no))
theorem eq_is_modulus : ∀ es : List Ent, es.length = 1 → Gf_is_modulus es ≠ .bad → fin 1 (G_is_modulus (es ++ List.replicate (2 - 1) .no)) = Gf_is_modulus es := fun _ _ _ => rfl
theorem bd_is_modulus (kV doc pm : Value) (an : Option Addr) (cdv ct : Value) (us : List Value) (h : us.length = (["value"] : List Str).length) : bindArgs (PySem.W.fnOf "is_modulus" "is_modulus" (defArgs s_is_modulus) (defBody s_is_modulus) (defScope s_is_modulus) .none kV doc pm an cdv ct) { pos := us } = pure ((["value"] : List Str).zip us) := match us, h with | [_], _ => rfl
theorem ok_is_modulus {f : Addr} {fd : FuncData} (T : Tx mg) (D_is_number : FnD P w K mg base "is_number" 1 1 Gf_is_number) (F : Fun K "is_modulus" "is_modulus" s_is_modulus f fd) : FnOk P w K mg base (L2.CX P w) 2 f fd ["value"] (spD K 1 Gf_is_modulus) :=
  jf_ok (n := 1) (k := 1) (G := G_is_modulus) F sc_is_modulus rfl (fun cdv A outer s H E Fm hr =>
    (js_cons (js_if (jt_bool (jw_or (jt_not (jt_val (je_f D_is_number (hr.mono (by decide)) pass_cx (ja_consV (je_name 0) jn_nil)))) (jw_or (jt_cmp op_lt snd_lt (je_name 0) (jc_glob (v := .int 10007) (Classical.choose_spec T.c_LEAST_MODULUS) ⟨_, rfl⟩ (fun _ _ => rfl)) (nomark _)) (jw_or1 (jt_cmp op_gt snd_gt (je_name 0) (jc_glob (v := .int 999983) (Classical.choose_spec T.c_GREATEST_MODULUS) ⟨_, rfl⟩ (fun _ _ => rfl)) (nomark _)))))) (js_one (js_ret jc_bl)) jx_nil) (js_cons (js_for (passes_of rfl) rfl (ji_range2 (by rfl) T.n_range (ja_consV jc_int (ja_consV (je_op op_addA snd_add (je_callBf cr_isqrt snd_isqrt (by rfl) T.b_isqrt (ja_cons (je_name 0) jn_nil)) jc_int) jn_nil))) (jg_name 1 sc_is_modulus.nd) (tgD_name 1) (js_one (js_if (jt_cmp (op_eqD hr.units) snd_eq (je_op op_mod snd_mod (je_name 0) (je_name 1)) jc_int (nomark _)) (js_one (js_ret jc_bl)) jx_nil))) (js_one (js_ret jc_bl))))) eq_is_modulus
theorem dn_is_modulus {f : Addr} {fd : FuncData} (T : Tx mg) (D_is_number : FnD P w K mg base "is_number" 1 1 Gf_is_number) (F : Fun K "is_modulus" "is_modulus" s_is_modulus f fd) (hm : mg "is_modulus" = some (.ref f)) : FnD P w K mg base "is_modulus" 2 1 Gf_is_modulus := ⟨f, fd, ["value"], ok_is_modulus T D_is_number F, hm, F.kp, F.binds (bd_is_modulus)⟩
/-! is_letter -/
abbrev s_is_letter : Stmt := top 6
theorem sc_is_letter : FnScope ["value", "modulus"] ["value", "modulus"] (defScope s_is_letter) := ⟨rfl, rfl, rfl, by decide +kernel, rfl, by decide +kernel, by decide +kernel⟩
def G_is_letter : List Ent → R Fl :=
  (retR (andV (callU 1 Gf_is_number [] (consV (nameR 0) nilA)) (chainR leD ltD (cR (.int 0)) (nameR 0) (nameR 1))))
def Gf_is_letter : List Ent → R Kd := fun es => fin 2 (G_is_letter (es ++ List.replicate 0 .no))
theorem eq_is_letter : ∀ es : List Ent, es.length = 2 → Gf_is_letter es ≠ .bad → fin 2 (G_is_letter (es ++ List.replicate (2 - 2) .no)) = Gf_is_letter es := fun _ _ _ => rfl
theorem bd_is_letter (kV doc pm : Value) (an : Option Addr) (cdv ct : Value) (us : List Value) (h : us.length = (["value", "modulus"] : List Str).length) : bindArgs (PySem.W.fnOf "is_letter" "is_letter" (defArgs s_is_letter) (defBody s_is_letter) (defScope s_is_letter) .none kV doc pm an cdv ct) { pos := us } = pure ((["value", "modulus"] : List Str).zip us) := match us, h with | [_, _], _ => rfl
theorem ok_is_letter {f : Addr} {fd : FuncData} (T : Tx mg) (D_is_number : FnD P w K mg base "is_number" 1 1 Gf_is_number) (F : Fun K "is_letter" "is_letter" s_is_letter f fd) : FnOk P w K mg base (L2.CX P w) 2 f fd ["value", "modulus"] (spD K 2 Gf_is_letter) :=
  jf_ok (n := 2) (k := 1) (G := G_is_letter) F sc_is_letter rfl (fun cdv A outer s H E Fm hr =>
    (js_one (js_ret (je_and (je_f D_is_number (hr.mono (by decide)) pass_cx (ja_consV (je_name 0) jn_nil)) (je_one (je_chain op_le op_lt snd_le snd_lt jc_int (je_name 0) (je_name 1))))))) eq_is_letter
theorem dn_is_letter {f : Addr} {fd : FuncData} (T : Tx mg) (D_is_number : FnD P w K mg base "is_number" 1 1 Gf_is_number) (F : Fun K "is_letter" "is_letter" s_is_letter f fd) (hm : mg "is_letter" = some (.ref f)) : FnD P w K mg base "is_letter" 2 2 Gf_is_letter := ⟨f, fd, ["value", "modulus"], ok_is_letter T D_is_number F, hm, F.kp, F.binds (bd_is_letter)⟩
/-! _law_draws -/
abbrev s__law_draws : Stmt := top 8
theorem sc__law_draws : FnScope ["_law_script"] ["_law_script"] (defScope s__law_draws) := ⟨rfl, rfl, rfl, by decide +kernel, rfl, by decide +kernel, by decide +kernel⟩
def S1__law_draws : List Ent → R Fl :=
  (retR (listR (consV (callR listD (consR (sliceR (nameR 0) partN (partS (cR (.int 63)))) nilA)) (consV (cR (.int 0)) (consV (cR (.int 0)) (consV (cR (.int 10045)) (consV (cR (.int 0)) nilA)))))))
def G__law_draws : List Ent → R Fl :=
  S1__law_draws
def Gf__law_draws : List Ent → R Kd := fun es => fin 1 (G__law_draws (es ++ List.replicate 0 .no))
theorem eq__law_draws : ∀ es : List Ent, es.length = 1 → Gf__law_draws es ≠ .bad → fin 1 (G__law_draws (es ++ List.replicate (1 - 1) .no)) = Gf__law_draws es := fun _ _ _ => rfl
theorem bd__law_draws (kV doc pm : Value) (an : Option Addr) (cdv ct : Value) (us : List Value) (h : us.length = (["_law_script"] : List Str).length) : bindArgs (PySem.W.fnOf "_law_draws" "_law_draws" (defArgs s__law_draws) (defBody s__law_draws) (defScope s__law_draws) .none kV doc pm an cdv ct) { pos := us } = pure ((["_law_script"] : List Str).zip us) := match us, h with | [_], _ => rfl
theorem ok__law_draws {f : Addr} {fd : FuncData} (T : Tx mg)  (F : Fun K "_law_draws" "_law_draws" s__law_draws f fd) : FnOk P w K mg base (L2.CX P w) 1 f fd ["_law_script"] (spD K 1 Gf__law_draws) :=
  jf_ok (n := 1) (k := 0) (G := G__law_draws) F sc__law_draws rfl (fun cdv A outer s H E Fm hr =>
    (js_one (js_ret (je_list (ja_consV (je_callTy call_list_of snd_list (by rfl) T.n_list boot_list (ja_cons (je_slice (je_name 0) jo_none (jo_some jc_int)) jn_nil)) (ja_consV jc_int (ja_consV jc_int (ja_consV jc_int (ja_consV jc_int jn_nil))))))))) eq__law_draws
theorem dn__law_draws {f : Addr} {fd : FuncData} (T : Tx mg)  (F : Fun K "_law_draws" "_law_draws" s__law_draws f fd) (hm : mg "_law_draws" = some (.ref f)) : FnD P w K mg base "_law_draws" 1 1 Gf__law_draws := ⟨f, fd, ["_law_script"], ok__law_draws T  F, hm, F.kp, F.binds (bd__law_draws)⟩
/-! _law_pull -/
abbrev s__law_pull : Stmt := top 9
theorem sc__law_pull : FnScope ["_law_bag", "_law_many", "_law_cell", "_law_digit", "_law_seed"] ["_law_bag", "_law_many"] (defScope s__law_pull) := ⟨rfl, rfl, rfl, by decide +kernel, rfl, by decide +kernel, by decide +kernel⟩
def S1__law_pull : List Ent → R Fl :=
  (setIx (nameR 0) (cR (.int 3)) (binR modD (callR intD (consR (binR addD (binR addD (binR mulD (binR ixD (nameR 0) (cR (.int 3))) (cR (.int 43019))) (binR mulD (binR modD (callR intD (consR (nameR 2) nilA)) (cR (.int 2147483269))) (cR (.int 51197)))) (cR (.int 73))) nilA)) (cR (.int 2147483399))))
def S2__law_pull : List Ent → R Fl :=
  (ifS (andR (fun ρ => toB (binR eqD (binR ixD (nameR 0) (cR (.int 2))) (cR (.int 0)) ρ)) (fun ρ => toB (binR ltD (binR ixD (nameR 0) (cR (.int 1))) (callR lenD (consR (binR ixD (nameR 0) (cR (.int 0))) nilA)) ρ))) (seqR (setR 2 (binR ixD (binR ixD (nameR 0) (cR (.int 0))) (binR ixD (nameR 0) (cR (.int 1))))) (seqR (setIx (nameR 0) (cR (.int 1)) (binR addD (binR ixD (nameR 0) (cR (.int 1))) (cR (.int 1)))) (seqR (ifS (fun ρ => toB (binR geD (nameR 2) (binR powD (cR (.int 10)) (cR (.int 18))) ρ)) (setIx (nameR 0) (cR (.int 2)) (nameR 2)) nxS) S1__law_pull))) nxS)
def S3__law_pull : List Ent → R Fl :=
  (ifS (fun ρ => toB (binR gtD (binR ixD (nameR 0) (cR (.int 2))) (cR (.int 0)) ρ)) (seqR (setR 3 (binR modD (callR intD (consR (binR ixD (nameR 0) (cR (.int 2))) nilA)) (nameR 1))) (seqR (setIx (nameR 0) (cR (.int 2)) (binR fdivD (binR ixD (nameR 0) (cR (.int 2))) (nameR 1))) (retR (fun ρ => toVa ((nameR 3) ρ))))) nxS)
def S4__law_pull : List Ent → R Fl :=
  (setIx (nameR 0) (cR (.int 3)) (binR modD (callR intD (consR (binR addD (binR addD (binR addD (binR powD (nameR 4) (cR (.int 3))) (binR mulD (nameR 4) (cR (.int 37991)))) (binR mulD (binR ixD (nameR 0) (cR (.int 4))) (cR (.int 1299689)))) (cR (.int 70489))) nilA)) (cR (.int 2147483399))))
def S5__law_pull : List Ent → R Fl :=
  (retR (binR modD (callR intD (consR (binR addD (binR fdivD (binR ixD (nameR 0) (cR (.int 3))) (cR (.int 83))) (binR mulD (binR modD (callR intD (consR (binR ixD (nameR 0) (cR (.int 3))) nilA)) (cR (.int 7919))) (cR (.int 67)))) nilA)) (nameR 1)))
def G__law_pull : List Ent → R Fl :=
  (seqR (setIx (nameR 0) (cR (.int 4)) (binR addD (binR ixD (nameR 0) (cR (.int 4))) (cR (.int 1)))) (seqR S2__law_pull (seqR S3__law_pull (seqR (setR 4 (binR ixD (nameR 0) (cR (.int 3)))) (seqR S4__law_pull S5__law_pull)))))
def Gf__law_pull : List Ent → R Kd := fun es => fin 2 (G__law_pull (es ++ List.replicate 3 .no))
theorem eq__law_pull : ∀ es : List Ent, es.length = 2 → Gf__law_pull es ≠ .bad → fin 2 (G__law_pull (es ++ List.replicate (5 - 2) .no)) = Gf__law_pull es := fun _ _ _ => rfl
theorem bd__law_pull (kV doc pm : Value) (an : Option Addr) (cdv ct : Value) (us : List Value) (h : us.length = (["_law_bag", "_law_many"] : List Str).length) : bindArgs (PySem.W.fnOf "_law_pull" "_law_pull" (defArgs s__law_pull) (defBody s__law_pull) (defScope s__law_pull) .none kV doc pm an cdv ct) { pos := us } = pure ((["_law_bag", "_law_many"] : List Str).zip us) := match us, h with | [_, _], _ => rfl
theorem ok__law_pull {f : Addr} {fd : FuncData} (T : Tx mg)  (F : Fun K "_law_pull" "_law_pull" s__law_pull f fd) : FnOk P w K mg base (L2.CX P w) 1 f fd ["_law_bag", "_law_many"] (spD K 2 Gf__law_pull) :=
  jf_ok (n := 2) (k := 0) (G := G__law_pull) F sc__law_pull rfl (fun cdv A outer s H E Fm hr =>
    (js_cons (js_setIx (je_op op_addA snd_add (je_ix (je_name 0) jc_int) jc_int) (je_name 0) jc_int) (js_cons (js_if (jt_bool (jw_and (jt_cmp (op_eqD hr.units) snd_eq (je_ix (je_name 0) jc_int) jc_int (nomark _)) (jw_and1 (jt_cmp op_lt snd_lt (je_ix (je_name 0) jc_int) (je_callB call_len_seq snd_len (by rfl) T.n_len PySem.boot_len (ja_cons (je_ix (je_name 0) jc_int) jn_nil)) (nomark _))))) (js_cons (js_set 2 sc__law_pull.nd (je_ix (je_ix (je_name 0) jc_int) (je_ix (je_name 0) jc_int))) (js_cons (js_setIx (je_op op_addA snd_add (je_ix (je_name 0) jc_int) jc_int) (je_name 0) jc_int) (js_cons (js_if (jt_cmp op_ge snd_ge (je_name 2) (je_op op_pow snd_pow jc_int jc_int) (nomark _)) (js_one (js_setIx (je_name 2) (je_name 0) jc_int)) jx_nil) (js_one (js_setIx (je_op op_mod snd_mod (je_callTy call_int1 snd_int (by rfl) T.n_int boot_int (ja_cons (je_op op_addA snd_add (je_op op_addA snd_add (je_op op_mulA snd_mul (je_ix (je_name 0) jc_int) jc_int) (je_op op_mulA snd_mul (je_op op_mod snd_mod (je_callTy call_int1 snd_int (by rfl) T.n_int boot_int (ja_cons (je_name 2) jn_nil)) jc_int) jc_int)) jc_int) jn_nil)) jc_int) (je_name 0) jc_int))))) jx_nil) (js_cons (js_if (jt_cmp op_gt snd_gt (je_ix (je_name 0) jc_int) jc_int (nomark _)) (js_cons (js_set 3 sc__law_pull.nd (je_op op_mod snd_mod (je_callTy call_int1 snd_int (by rfl) T.n_int boot_int (ja_cons (je_ix (je_name 0) jc_int) jn_nil)) (je_name 1))) (js_cons (js_setIx (je_op op_fdivW snd_fdiv (je_ix (je_name 0) jc_int) (je_name 1)) (je_name 0) jc_int) (js_one (js_ret (je_toVa (je_name 3)))))) jx_nil) (js_cons (js_set 4 sc__law_pull.nd (je_ix (je_name 0) jc_int)) (js_cons (js_setIx (je_op op_mod snd_mod (je_callTy call_int1 snd_int (by rfl) T.n_int boot_int (ja_cons (je_op op_addA snd_add (je_op op_addA snd_add (je_op op_addA snd_add (je_op op_pow snd_pow (je_name 4) jc_int) (je_op op_mulA snd_mul (je_name 4) jc_int)) (je_op op_mulA snd_mul (je_ix (je_name 0) jc_int) jc_int)) jc_int) jn_nil)) jc_int) (je_name 0) jc_int) (js_one (js_ret (je_op op_mod snd_mod (je_callTy call_int1 snd_int (by rfl) T.n_int boot_int (ja_cons (je_op op_addA snd_add (je_op op_fdivW snd_fdiv (je_ix (je_name 0) jc_int) jc_int) (je_op op_mulA snd_mul (je_op op_mod snd_mod (je_callTy call_int1 snd_int (by rfl) T.n_int boot_int (ja_cons (je_ix (je_name 0) jc_int) jn_nil)) jc_int) jc_int)) jn_nil)) (je_name 1)))))))))) eq__law_pull
theorem dn__law_pull {f : Addr} {fd : FuncData} (T : Tx mg)  (F : Fun K "_law_pull" "_law_pull" s__law_pull f fd) (hm : mg "_law_pull" = some (.ref f)) : FnD P w K mg base "_law_pull" 1 2 Gf__law_pull := ⟨f, fd, ["_law_bag", "_law_many"], ok__law_pull T  F, hm, F.kp, F.binds (bd__law_pull)⟩
/-! _law_any -/
abbrev s__law_any : Stmt := top 10
theorem sc__law_any : FnScope ["_law_bag", "_law_things"] ["_law_bag", "_law_things"] (defScope s__law_any) := ⟨rfl, rfl, rfl, by decide +kernel, rfl, by decide +kernel, by decide +kernel⟩
def G__law_any : List Ent → R Fl :=
  (retR (binR ixD (nameR 1) (callB 2 Gf__law_pull [] (consR (nameR 0) (consV (callR lenD (consR (nameR 1) nilA)) nilA)))))
def Gf__law_any : List Ent → R Kd := fun es => fin 2 (G__law_any (es ++ List.replicate 0 .no))
theorem eq__law_any : ∀ es : List Ent, es.length = 2 → Gf__law_any es ≠ .bad → fin 2 (G__law_any (es ++ List.replicate (2 - 2) .no)) = Gf__law_any es := fun _ _ _ => rfl
theorem bd__law_any (kV doc pm : Value) (an : Option Addr) (cdv ct : Value) (us : List Value) (h : us.length = (["_law_bag", "_law_things"] : List Str).length) : bindArgs (PySem.W.fnOf "_law_any" "_law_any" (defArgs s__law_any) (defBody s__law_any) (defScope s__law_any) .none kV doc pm an cdv ct) { pos := us } = pure ((["_law_bag", "_law_things"] : List Str).zip us) := match us, h with | [_, _], _ => rfl
theorem ok__law_any {f : Addr} {fd : FuncData} (T : Tx mg) (D__law_pull : FnD P w K mg base "_law_pull" 1 2 Gf__law_pull) (F : Fun K "_law_any" "_law_any" s__law_any f fd) : FnOk P w K mg base (L2.CX P w) 2 f fd ["_law_bag", "_law_things"] (spD K 2 Gf__law_any) :=
  jf_ok (n := 2) (k := 1) (G := G__law_any) F sc__law_any rfl (fun cdv A outer s H E Fm hr =>
    (js_one (js_ret (je_ix (je_name 1) (je_fB D__law_pull (hr.mono (by decide)) pass_cx (ja_cons (je_name 0) (ja_consV (je_callB call_len_seq snd_len (by rfl) T.n_len PySem.boot_len (ja_cons (je_name 1) jn_nil)) jn_nil))))))) eq__law_any
theorem dn__law_any {f : Addr} {fd : FuncData} (T : Tx mg) (D__law_pull : FnD P w K mg base "_law_pull" 1 2 Gf__law_pull) (F : Fun K "_law_any" "_law_any" s__law_any f fd) (hm : mg "_law_any" = some (.ref f)) : FnD P w K mg base "_law_any" 2 2 Gf__law_any := ⟨f, fd, ["_law_bag", "_law_things"], ok__law_any T D__law_pull F, hm, F.kp, F.binds (bd__law_any)⟩
/-! _law_like -/
abbrev s__law_like : Stmt := top 11
theorem sc__law_like : FnScope ["_law_found", "_law_due", "_law_name", "_law_one", "_law_other"] ["_law_found", "_law_due"] (defScope s__law_like) := ⟨rfl, rfl, rfl, by decide +kernel, rfl, by decide +kernel, by decide +kernel⟩
def G__law_like (Gr : List Ent → R Kd) : List Ent → R Fl :=
  (seqR (ifS (fun ρ => toB ((isiR [.dict] (nameR 1)) ρ)) (seqR (ifS (orR (notR (fun ρ => toB ((isiR [.dict] (nameR 0)) ρ))) (fun ρ => toB (binR neD (callR lenD (consR (nameR 0) nilA)) (callR lenD (consR (nameR 1) nilA)) ρ))) (retR (cR (.bl false))) nxS) (retR (callR allD (consR (lcR (seqI (nameR 1)) (nameT 2) yesT (andV (binR inSD (nameR 2) (nameR 0)) (callU 2 Gr [] (consV (binR ixD (nameR 0) (nameR 2)) (consV (binR ixD (nameR 1) (nameR 2)) nilA)))) [2]) nilA)))) nxS) (seqR (ifS (fun ρ => toB ((isiR [.list, .tuple] (nameR 1)) ρ)) (seqR (ifS (orR (fun ρ => toB (binR neD (isiR [.list] (nameR 0)) (isiR [.list] (nameR 1)) ρ)) (fun ρ => toB (binR neD (isiR [.tuple] (nameR 0)) (isiR [.tuple] (nameR 1)) ρ))) (retR (cR (.bl false))) nxS) (retR (andV (binR eqD (callR lenD (consR (nameR 0) nilA)) (callR lenD (consR (nameR 1) nilA))) (callR allD (consR (lcR (zipI (consV (nameR 0) (consV (nameR 1) nilA))) (tupT [(nameT 3), (nameT 4)]) yesT (callU 2 Gr [] (consV (nameR 3) (consV (nameR 4) nilA))) [3, 4]) nilA))))) nxS) (seqR (ifS (orR (fun ρ => toB (binR isND (nameR 1) (cR .non) ρ)) (fun ρ => toB (binR isND (nameR 0) (cR .non) ρ))) (retR (andV (binR isND (nameR 1) (cR .non)) (binR isND (nameR 0) (cR .non)))) nxS) (seqR (ifS (orR (fun ρ => toB (binR neD (isiR [.bool] (nameR 0)) (isiR [.bool] (nameR 1)) ρ)) (fun ρ => toB (binR neD (isiR [.int] (nameR 0)) (isiR [.int] (nameR 1)) ρ))) (retR (cR (.bl false))) nxS) (retR (andV (binR eqD (isiR [.str] (nameR 0)) (isiR [.str] (nameR 1))) (binR eqD (nameR 0) (nameR 1))))))))
def Gf__law_like : Nat → List Ent → R Kd
  | 0 => fun _ => .bad
  | d + 1 => fun es => fin 2 (G__law_like (Gf__law_like d) (es ++ List.replicate 3 .no))
theorem bd__law_like (kV doc pm : Value) (an : Option Addr) (cdv ct : Value) (us : List Value) (h : us.length = (["_law_found", "_law_due"] : List Str).length) : bindArgs (PySem.W.fnOf "_law_like" "_law_like" (defArgs s__law_like) (defBody s__law_like) (defScope s__law_like) .none kV doc pm an cdv ct) { pos := us } = pure ((["_law_found", "_law_due"] : List Str).zip us) := match us, h with | [_, _], _ => rfl
theorem ok__law_like {f : Addr} {fd : FuncData} (T : Tx mg)  (F : Fun K "_law_like" "_law_like" s__law_like f fd) (hm : mg "_law_like" = some (.ref f)) : ∀ d : Nat, FnOk P w K mg base (L2.CX P w) (d + 1) f fd ["_law_found", "_law_due"] (spD K 2 (Gf__law_like d))
  | 0 => jf_ok (n := 2) (k := 0) (G := fun _ => .bad) F sc__law_like rfl (fun cdv A outer s H E Fm hr => jx_bad) fun _ _ h => (h rfl).elim
  | d + 1 => by
    have D__law_like : FnD P w K mg base "_law_like" (d + 1) 2 (Gf__law_like d) := ⟨f, fd, ["_law_found", "_law_due"], ok__law_like T  F hm d, hm, F.kp, F.binds (bd__law_like)⟩
    exact jf_ok (n := 2) (k := d + 1) (G := G__law_like (Gf__law_like d)) F sc__law_like rfl (fun cdv A outer s H E Fm hr =>
      (js_cons (js_if (jt_val (je_isi .dict rfl (by rfl) T.n_isinstance (by rfl) T.n_dict boot_dict (je_name 1))) (js_cons (js_if (jt_bool (jw_or (jt_not (jt_val (je_isi .dict rfl (by rfl) T.n_isinstance (by rfl) T.n_dict boot_dict (je_name 0)))) (jw_or1 (jt_cmp (op_neD hr.units) snd_ne (je_callB call_len_seq snd_len (by rfl) T.n_len PySem.boot_len (ja_cons (je_name 0) jn_nil)) (je_callB call_len_seq snd_len (by rfl) T.n_len PySem.boot_len (ja_cons (je_name 1) jn_nil)) (nomark _))))) (js_one (js_ret jc_bl)) jx_nil) (js_one (js_ret (je_callB (cr_all rfl) snd_all (by rfl) T.n_all boot_all (ja_cons (je_lcV rfl sc__law_like.nd (ji_seq (je_name 1)) (blkOk_by (N := ["_law_found", "_law_due", "_law_name", "_law_one", "_law_other"]) (sc := defScope s__law_like) (own := [("_law_name", 2)]) (by decide +kernel)) (fun _ _ _ _ _ => (jg_name 2 sc__law_like.nd)) (tgD_name 2) (by decide) (fun _ _ _ _ _ _ => jy_nil) (fun _ _ _ _ _ _ => (je_and (je_cmp op_in_seq snd_in (je_name 2) (je_name 0) rfl) (je_one (je_f D__law_like (hr.mono (by omega)) passL (ja_consV (je_ix (je_name 0) (je_name 2)) (ja_consV (je_ix (je_name 1) (je_name 2)) jn_nil)))))) rfl) jn_nil))))) jx_nil) (js_cons (js_if (jt_val (je_isi2 .list .tuple rfl rfl (by rfl) T.n_isinstance (by rfl) T.n_list boot_list (by rfl) T.n_tuple boot_tuple (je_name 1))) (js_cons (js_if (jt_bool (jw_or (jt_cmp (op_neD hr.units) snd_ne (je_isi .list rfl (by rfl) T.n_isinstance (by rfl) T.n_list boot_list (je_name 0)) (je_isi .list rfl (by rfl) T.n_isinstance (by rfl) T.n_list boot_list (je_name 1)) (nomark _)) (jw_or1 (jt_cmp (op_neD hr.units) snd_ne (je_isi .tuple rfl (by rfl) T.n_isinstance (by rfl) T.n_tuple boot_tuple (je_name 0)) (je_isi .tuple rfl (by rfl) T.n_isinstance (by rfl) T.n_tuple boot_tuple (je_name 1)) (nomark _))))) (js_one (js_ret jc_bl)) jx_nil) (js_one (js_ret (je_and (je_cmp (op_eqD hr.units) snd_eq (je_callB call_len_seq snd_len (by rfl) T.n_len PySem.boot_len (ja_cons (je_name 0) jn_nil)) (je_callB call_len_seq snd_len (by rfl) T.n_len PySem.boot_len (ja_cons (je_name 1) jn_nil)) (nomark _)) (je_one (je_callB (cr_all rfl) snd_all (by rfl) T.n_all boot_all (ja_cons (je_lcV rfl sc__law_like.nd (ji_zip (by rfl) T.n_zip (ja_consV (je_name 0) (ja_consV (je_name 1) jn_nil))) (blkOk_by (N := ["_law_found", "_law_due", "_law_name", "_law_one", "_law_other"]) (sc := defScope s__law_like) (own := [("_law_one", 3), ("_law_other", 4)]) (by decide +kernel)) (fun _ _ _ _ _ => (pg_tup rfl (pgs_cons (jg_name 3 sc__law_like.nd) (pgs_cons (jg_name 4 sc__law_like.nd) pgs_nil)))) (tgD_tup (tgsD_cons (tgD_name 3) (tgsD_cons (tgD_name 4) tgsD_nil)) rfl) (by decide) (fun _ _ _ _ _ _ => jy_nil) (fun _ _ _ _ _ _ => (je_f D__law_like (hr.mono (by omega)) passL (ja_consV (je_name 3) (ja_consV (je_name 4) jn_nil)))) rfl) jn_nil))))))) jx_nil) (js_cons (js_if (jt_bool (jw_or (jt_cmp op_isN snd_isN (je_name 1) jc_non (nomark _)) (jw_or1 (jt_cmp op_isN snd_isN (je_name 0) jc_non (nomark _))))) (js_one (js_ret (je_and (je_cmp op_isN snd_isN (je_name 1) jc_non (nomark _)) (je_one (je_cmp op_isN snd_isN (je_name 0) jc_non (nomark _)))))) jx_nil) (js_cons (js_if (jt_bool (jw_or (jt_cmp (op_neD hr.units) snd_ne (je_isi .bool rfl (by rfl) T.n_isinstance (by rfl) T.n_bool boot_bool (je_name 0)) (je_isi .bool rfl (by rfl) T.n_isinstance (by rfl) T.n_bool boot_bool (je_name 1)) (nomark _)) (jw_or1 (jt_cmp (op_neD hr.units) snd_ne (je_isi .int rfl (by rfl) T.n_isinstance (by rfl) T.n_int boot_int (je_name 0)) (je_isi .int rfl (by rfl) T.n_isinstance (by rfl) T.n_int boot_int (je_name 1)) (nomark _))))) (js_one (js_ret jc_bl)) jx_nil) (js_one (js_ret (je_and (je_cmp (op_eqD hr.units) snd_eq (je_isi .str rfl (by rfl) T.n_isinstance (by rfl) T.n_str boot_str (je_name 0)) (je_isi .str rfl (by rfl) T.n_isinstance (by rfl) T.n_str boot_str (je_name 1)) (nomark _)) (je_one (je_cmp (op_eqD hr.units) snd_eq (je_name 0) (je_name 1) (nomark _))))))))))) fun _ _ _ => rfl
theorem dn__law_like {f : Addr} {fd : FuncData} (T : Tx mg)  (F : Fun K "_law_like" "_law_like" s__law_like f fd) (hm : mg "_law_like" = some (.ref f)) : FnD P w K mg base "_law_like" 3 2 (Gf__law_like 2) := ⟨f, fd, ["_law_found", "_law_due"], ok__law_like T  F hm 2, hm, F.kp, F.binds (bd__law_like)⟩
/-! _law_prime -/
abbrev s__law_prime : Stmt := top 12
theorem sc__law_prime : FnScope ["_law_bag"] ["_law_bag"] (defScope s__law_prime) := ⟨rfl, rfl, rfl, by decide +kernel, rfl, by decide +kernel, by decide +kernel⟩
def S1__law_prime : List Ent → R Fl :=
  (retR (callB 2 Gf__law_any [] (consR (nameR 0) (consV (listR (consV (cR (.int 10007)) (consV (cR (.int 10007)) (consV (cR (.int 10009)) (consV (cR (.int 65537)) (consV (cR (.int 104729)) (consV (cR (.int 999983)) nilA))))))) nilA))))
def G__law_prime : List Ent → R Fl :=
  S1__law_prime
def Gf__law_prime : List Ent → R Kd := fun es => fin 1 (G__law_prime (es ++ List.replicate 0 .no))
theorem eq__law_prime : ∀ es : List Ent, es.length = 1 → Gf__law_prime es ≠ .bad → fin 1 (G__law_prime (es ++ List.replicate (1 - 1) .no)) = Gf__law_prime es := fun _ _ _ => rfl
theorem bd__law_prime (kV doc pm : Value) (an : Option Addr) (cdv ct : Value) (us : List Value) (h : us.length = (["_law_bag"] : List Str).length) : bindArgs (PySem.W.fnOf "_law_prime" "_law_prime" (defArgs s__law_prime) (defBody s__law_prime) (defScope s__law_prime) .none kV doc pm an cdv ct) { pos := us } = pure ((["_law_bag"] : List Str).zip us) := match us, h with | [_], _ => rfl
theorem ok__law_prime {f : Addr} {fd : FuncData} (T : Tx mg) (D__law_any : FnD P w K mg base "_law_any" 2 2 Gf__law_any) (F : Fun K "_law_prime" "_law_prime" s__law_prime f fd) : FnOk P w K mg base (L2.CX P w) 3 f fd ["_law_bag"] (spD K 1 Gf__law_prime) :=
  jf_ok (n := 1) (k := 2) (G := G__law_prime) F sc__law_prime rfl (fun cdv A outer s H E Fm hr =>
    (js_one (js_ret (je_fB D__law_any (hr.mono (by decide)) pass_cx (ja_cons (je_name 0) (ja_consV (je_list (ja_consV jc_int (ja_consV jc_int (ja_consV jc_int (ja_consV jc_int (ja_consV jc_int (ja_consV jc_int jn_nil))))))) jn_nil)))))) eq__law_prime
theorem dn__law_prime {f : Addr} {fd : FuncData} (T : Tx mg) (D__law_any : FnD P w K mg base "_law_any" 2 2 Gf__law_any) (F : Fun K "_law_prime" "_law_prime" s__law_prime f fd) (hm : mg "_law_prime" = some (.ref f)) : FnD P w K mg base "_law_prime" 3 1 Gf__law_prime := ⟨f, fd, ["_law_bag"], ok__law_prime T D__law_any F, hm, F.kp, F.binds (bd__law_prime)⟩
/-! law -/
abbrev s_law : Stmt := top 13
theorem sc_law : FnScope ["_law_script", "_law_bag", "_law_turn", "_law_one", "_law_other", "_law_prime_here", "_law_near", "_law_odd", "_law_found", "_law_thing", "_law_k"] ["_law_script"] (defScope s_law) := ⟨rfl, rfl, rfl, by decide +kernel, rfl, by decide +kernel, by decide +kernel⟩
def S1_law : List Ent → R Fl :=
  (parVV 3 4 (binR addD (cR (.int 2)) (callB 2 Gf__law_pull [] (consR (nameR 1) (consV (cR (.int 998)) nilA)))) (binR addD (cR (.int 2)) (callB 2 Gf__law_pull [] (consR (nameR 1) (consV (cR (.int 998)) nilA)))))
def S2_law : List Ent → R Fl :=
  (setR 6 (callB 2 Gf__law_any [] (consR (nameR 1) (consV (listR (consV (binR addD (nameR 5) (cR (.int 1))) (consV (binR subD (nameR 5) (cR (.int 1))) (consV (binR mulD (nameR 5) (cR (.int 2))) (consV (binR mulD (nameR 3) (nameR 4)) (consV (binR addD (binR powD (cR (.int 10)) (cR (.int 29))) (nameR 3)) (consV (binR subD (cR (.int 0)) (nameR 5)) (consV (cR (.int 1)) (consV (cR (.int 0)) (consV (cR (.int 2)) (consV (cR (.int 9973)) nilA))))))))))) nilA))))
def S3_law : List Ent → R Fl :=
  (ifS (orR (fun ρ => toB ((callU 1 Gf_is_modulus [] (consV (binR mulD (nameR 3) (nameR 4)) nilA)) ρ)) (orR (fun ρ => toB ((callU 1 Gf_is_modulus [] (consV (nameR 6) nilA)) ρ)) (fun ρ => toB (binR notBD (callU 1 Gf_is_modulus [] (consV (nameR 5) nilA)) (cR (.bl true)) ρ)))) (retR (cR (.bl false))) nxS)
def S4_law : List Ent → R Fl :=
  (ifS (fun ρ => toB (binR neD (lcR (seqI (tupR (consV (cR (.int 0)) (consV (binR subD (nameR 5) (cR (.int 1))) (consV (nameR 5) (consV (binR subD (cR (.int 0)) (cR (.int 1))) (consV (nameR 3) nilA))))))) (nameT 10) yesT (callU 2 Gf_is_letter [] (consV (nameR 10) (consV (nameR 5) nilA))) [10]) (listR (consV (cR (.bl true)) (consV (cR (.bl true)) (consV (cR (.bl false)) (consV (cR (.bl false)) (consV (cR (.bl true)) nilA)))))) ρ)) (retR (cR (.bl false))) nxS)
def B5_law : List Ent → R Fl :=
  (seqR S1_law (seqR (setR 5 (callB 1 Gf__law_prime [] (consR (nameR 1) nilA))) (seqR S2_law (seqR S3_law S4_law))))
def S6_law : List Ent → R Fl :=
  (setR 7 (listR (consV (cR .non) (consV (cR (.bl true)) (consV (cR (.str "10007")) (consV (tupR (consV (cR (.int 10007)) nilA)) (consV (listR (consV (cR (.int 10007)) nilA)) (consV (dispR (consP (cR (.int 10007)) (cR (.int 1)) nilP)) (consV (binR addD (cR (.int 999979)) (cR (.int 21))) (consV (cR (.int 1000003)) (consV (cR (.int 10006)) (consV (binR mulD (cR (.int 997)) (cR (.int 1003))) nilA))))))))))))
def S7_law : List Ent → R Fl :=
  (ifS (fun ρ => toB (binR neD (lcR (seqI (nameR 7)) (nameT 9) yesT (callU 1 Gf_is_modulus [] (consV (nameR 9) nilA)) [9]) (binR mulD (listR (consV (cR (.bl false)) nilA)) (cR (.int 10))) ρ)) (retR (cR (.bl false))) nxS)
def S8_law : List Ent → R Fl :=
  (ifS (fun ρ => toB (binR neD (lcR (seqI (listR (consV (cR .non) (consV (cR (.bl true)) (consV (cR (.bl false)) (consV (cR (.str "1")) (consV (tupR (consV (cR (.int 1)) nilA)) (consV (listR (consV (cR (.int 1)) nilA)) nilA)))))))) (nameT 9) yesT (callU 2 Gf_is_letter [] (consV (nameR 9) (consV (cR (.int 10007)) nilA))) [9]) (binR mulD (listR (consV (cR (.bl false)) nilA)) (cR (.int 6))) ρ)) (retR (cR (.bl false))) nxS)
def S9_law : List Ent → R Fl :=
  (setR 8 (listR (consV (cR (.int 10007)) (consV (cR (.int 999983)) (consV (callU 1 Gf_is_modulus [] (consV (cR (.int 999983)) nilA)) (consV (callU 1 Gf_is_modulus [] (consV (cR (.int 10007)) nilA)) (consV (callU 1 Gf_is_modulus [] (consV (binR mulD (cR (.int 991)) (cR (.int 997))) nilA)) (consV (callU 1 Gf_is_modulus [] (consV (binR mulD (cR (.int 991)) (cR (.int 991))) nilA)) nilA))))))))
def S10_law : List Ent → R Fl :=
  (retR (callU 2 (Gf__law_like 2) [] (consV (binR addD (nameR 8) (listR (consV (callU 1 Gf_is_modulus [] (consV (binR mulD (cR (.int 103)) (cR (.int 103))) nilA)) nilA))) (consV (listR (consV (cR (.int 10007)) (consV (cR (.int 999983)) (consV (cR (.bl true)) (consV (cR (.bl true)) (consV (cR (.bl false)) (consV (cR (.bl false)) (consV (cR (.bl false)) nilA)))))))) nilA))))
def G_law : List Ent → R Fl :=
  (seqR (setO 1 (callU 1 Gf__law_draws [] (consV (nameR 0) nilA))) (seqR (forS (rng1I (consV (cR (.int 8)) nilA)) (nameT 2) B5_law) (seqR S6_law (seqR S7_law (seqR S8_law (seqR S9_law S10_law))))))
def Gf_law : List Ent → R Kd := fun es => fin 1 (G_law (es ++ List.replicate 10 .no))
theorem eq_law : ∀ es : List Ent, es.length = 1 → Gf_law es ≠ .bad → fin 1 (G_law (es ++ List.replicate (11 - 1) .no)) = Gf_law es := fun _ _ _ => rfl
theorem bd_law (kV doc pm : Value) (an : Option Addr) (cdv ct : Value) (us : List Value) (h : us.length = (["_law_script"] : List Str).length) : bindArgs (PySem.W.fnOf "law" "law" (defArgs s_law) (defBody s_law) (defScope s_law) .none kV doc pm an cdv ct) { pos := us } = pure ((["_law_script"] : List Str).zip us) := match us, h with | [_], _ => rfl
theorem ok_law {f : Addr} {fd : FuncData} (T : Tx mg) (D__law_draws : FnD P w K mg base "_law_draws" 1 1 Gf__law_draws) (D__law_pull : FnD P w K mg base "_law_pull" 1 2 Gf__law_pull) (D__law_prime : FnD P w K mg base "_law_prime" 3 1 Gf__law_prime) (D__law_any : FnD P w K mg base "_law_any" 2 2 Gf__law_any) (D_is_modulus : FnD P w K mg base "is_modulus" 2 1 Gf_is_modulus) (D_is_letter : FnD P w K mg base "is_letter" 2 2 Gf_is_letter) (D__law_like : FnD P w K mg base "_law_like" 3 2 (Gf__law_like 2)) (K_is_modulus : FnK P w K mg base "is_modulus" ["value"] 2 1 Gf_is_modulus) (K_is_letter : FnK P w K mg base "is_letter" ["value", "modulus"] 2 2 Gf_is_letter) (F : Fun K "law" "law" s_law f fd) : FnOk P w K mg base (L2.CX P w) 4 f fd ["_law_script"] (spD K 1 Gf_law) :=
  jf_ok (n := 1) (k := 3) (G := G_law) F sc_law rfl (fun cdv A outer s H E Fm hr =>
    (js_cons (js_setO 1 sc_law.nd (je_f D__law_draws (hr.mono (by decide)) pass_cx (ja_consV (je_name 0) jn_nil))) (js_cons (js_for (passes_of rfl) rfl (ji_range1 (by rfl) T.n_range (ja_consV jc_int jn_nil)) (jg_name 2 sc_law.nd) (tgD_name 2) (js_cons (js_parVV 3 4 rfl sc_law.nd (je_op op_addA snd_add jc_int (je_fB D__law_pull (hr.mono (by decide)) pass_cx (ja_cons (je_name 1) (ja_consV jc_int jn_nil)))) (je_op op_addA snd_add jc_int (je_fB D__law_pull (hr.mono (by decide)) pass_cx (ja_cons (je_name 1) (ja_consV jc_int jn_nil)))) rfl) (js_cons (js_set 5 sc_law.nd (je_fB D__law_prime (hr.mono (by decide)) pass_cx (ja_cons (je_name 1) jn_nil))) (js_cons (js_set 6 sc_law.nd (je_fB D__law_any (hr.mono (by decide)) pass_cx (ja_cons (je_name 1) (ja_consV (je_list (ja_consV (je_op op_addA snd_add (je_name 5) jc_int) (ja_consV (je_op op_sub snd_sub (je_name 5) jc_int) (ja_consV (je_op op_mulA snd_mul (je_name 5) jc_int) (ja_consV (je_op op_mulA snd_mul (je_name 3) (je_name 4)) (ja_consV (je_op op_addA snd_add (je_op op_pow snd_pow jc_int jc_int) (je_name 3)) (ja_consV (je_op op_sub snd_sub jc_int (je_name 5)) (ja_consV jc_int (ja_consV jc_int (ja_consV jc_int (ja_consV jc_int jn_nil))))))))))) jn_nil)))) (js_cons (js_if (jt_bool (jw_or (jt_val (je_f D_is_modulus (hr.mono (by decide)) pass_cx (ja_consV (je_op op_mulA snd_mul (je_name 3) (je_name 4)) jn_nil))) (jw_or (jt_val (je_f D_is_modulus (hr.mono (by decide)) pass_cx (ja_consV (je_name 6) jn_nil))) (jw_or1 (jt_cmp op_notBl snd_notB (je_fK K_is_modulus (hr.mono (by decide)) pass_cx (pk_one (je_name 5) pk_end)) jc_bl (nomark _)))))) (js_one (js_ret jc_bl)) jx_nil) (js_one (js_if (jt_cmp (op_neD hr.units) snd_ne (je_lcV rfl sc_law.nd (ji_seq (je_tup (ja_consV jc_int (ja_consV (je_op op_sub snd_sub (je_name 5) jc_int) (ja_consV (je_name 5) (ja_consV (je_op op_sub snd_sub jc_int jc_int) (ja_consV (je_name 3) jn_nil))))))) (blkOk_by (N := ["_law_script", "_law_bag", "_law_turn", "_law_one", "_law_other", "_law_prime_here", "_law_near", "_law_odd", "_law_found", "_law_thing", "_law_k"]) (sc := defScope s_law) (own := [("_law_k", 10)]) (by decide +kernel)) (fun _ _ _ _ _ => (jg_name 10 sc_law.nd)) (tgD_name 10) (by decide) (fun _ _ _ _ _ _ => jy_nil) (fun _ _ _ _ _ _ => (je_fK K_is_letter (hr.mono (by decide)) passL (pk_one (je_name 10) (pk_one (je_name 5) pk_end)))) rfl) (je_list (ja_consV jc_bl (ja_consV jc_bl (ja_consV jc_bl (ja_consV jc_bl (ja_consV jc_bl jn_nil)))))) (nomark _)) (js_one (js_ret jc_bl)) jx_nil))))))) (js_cons (js_set 7 sc_law.nd (je_list (ja_consV jc_non (ja_consV jc_bl (ja_consV jc_str (ja_consV (je_tup (ja_consV jc_int jn_nil)) (ja_consV (je_list (ja_consV jc_int jn_nil)) (ja_consV (je_dict (pq_cons (fun _ => jc_int) (fun _ => jc_int) pq_nil)) (ja_consV (je_op op_addA snd_add jc_int jc_int) (ja_consV jc_int (ja_consV jc_int (ja_consV (je_op op_mulA snd_mul jc_int jc_int) jn_nil)))))))))))) (js_cons (js_if (jt_cmp (op_neD hr.units) snd_ne (je_lcV rfl sc_law.nd (ji_seq (je_name 7)) (blkOk_by (N := ["_law_script", "_law_bag", "_law_turn", "_law_one", "_law_other", "_law_prime_here", "_law_near", "_law_odd", "_law_found", "_law_thing", "_law_k"]) (sc := defScope s_law) (own := [("_law_thing", 9)]) (by decide +kernel)) (fun _ _ _ _ _ => (jg_name 9 sc_law.nd)) (tgD_name 9) (by decide) (fun _ _ _ _ _ _ => jy_nil) (fun _ _ _ _ _ _ => (je_f D_is_modulus (hr.mono (by decide)) passL (ja_consV (je_name 9) jn_nil))) rfl) (je_op op_mulA snd_mul (je_list (ja_consV jc_bl jn_nil)) jc_int) (nomark _)) (js_one (js_ret jc_bl)) jx_nil) (js_cons (js_if (jt_cmp (op_neD hr.units) snd_ne (je_lcV rfl sc_law.nd (ji_seq (je_list (ja_consV jc_non (ja_consV jc_bl (ja_consV jc_bl (ja_consV jc_str (ja_consV (je_tup (ja_consV jc_int jn_nil)) (ja_consV (je_list (ja_consV jc_int jn_nil)) jn_nil)))))))) (blkOk_by (N := ["_law_script", "_law_bag", "_law_turn", "_law_one", "_law_other", "_law_prime_here", "_law_near", "_law_odd", "_law_found", "_law_thing", "_law_k"]) (sc := defScope s_law) (own := [("_law_thing", 9)]) (by decide +kernel)) (fun _ _ _ _ _ => (jg_name 9 sc_law.nd)) (tgD_name 9) (by decide) (fun _ _ _ _ _ _ => jy_nil) (fun _ _ _ _ _ _ => (je_f D_is_letter (hr.mono (by decide)) passL (ja_consV (je_name 9) (ja_consV jc_int jn_nil)))) rfl) (je_op op_mulA snd_mul (je_list (ja_consV jc_bl jn_nil)) jc_int) (nomark _)) (js_one (js_ret jc_bl)) jx_nil) (js_cons (js_set 8 sc_law.nd (je_list (ja_consV (jc_glob (v := .int 10007) (Classical.choose_spec T.c_LEAST_MODULUS) ⟨_, rfl⟩ (fun _ _ => rfl)) (ja_consV (jc_glob (v := .int 999983) (Classical.choose_spec T.c_GREATEST_MODULUS) ⟨_, rfl⟩ (fun _ _ => rfl)) (ja_consV (je_f D_is_modulus (hr.mono (by decide)) pass_cx (ja_consV jc_int jn_nil)) (ja_consV (je_f D_is_modulus (hr.mono (by decide)) pass_cx (ja_consV jc_int jn_nil)) (ja_consV (je_f D_is_modulus (hr.mono (by decide)) pass_cx (ja_consV (je_op op_mulA snd_mul jc_int jc_int) jn_nil)) (ja_consV (je_f D_is_modulus (hr.mono (by decide)) pass_cx (ja_consV (je_op op_mulA snd_mul jc_int jc_int) jn_nil)) jn_nil)))))))) (js_one (js_ret (je_f D__law_like (hr.mono (by decide)) pass_cx (ja_consV (je_op op_addA snd_add (je_name 8) (je_list (ja_consV (je_f D_is_modulus (hr.mono (by decide)) pass_cx (ja_consV (je_op op_mulA snd_mul jc_int jc_int) jn_nil)) jn_nil))) (ja_consV (je_list (ja_consV jc_int (ja_consV jc_int (ja_consV jc_bl (ja_consV jc_bl (ja_consV jc_bl (ja_consV jc_bl (ja_consV jc_bl jn_nil)))))))) jn_nil)))))))))))) eq_law
theorem dn_law {f : Addr} {fd : FuncData} (T : Tx mg) (D__law_draws : FnD P w K mg base "_law_draws" 1 1 Gf__law_draws) (D__law_pull : FnD P w K mg base "_law_pull" 1 2 Gf__law_pull) (D__law_prime : FnD P w K mg base "_law_prime" 3 1 Gf__law_prime) (D__law_any : FnD P w K mg base "_law_any" 2 2 Gf__law_any) (D_is_modulus : FnD P w K mg base "is_modulus" 2 1 Gf_is_modulus) (D_is_letter : FnD P w K mg base "is_letter" 2 2 Gf_is_letter) (D__law_like : FnD P w K mg base "_law_like" 3 2 (Gf__law_like 2)) (K_is_modulus : FnK P w K mg base "is_modulus" ["value"] 2 1 Gf_is_modulus) (K_is_letter : FnK P w K mg base "is_letter" ["value", "modulus"] 2 2 Gf_is_letter) (F : Fun K "law" "law" s_law f fd) (hm : mg "law" = some (.ref f)) : FnD P w K mg base "law" 4 1 Gf_law := ⟨f, fd, ["_law_script"], ok_law T D__law_draws D__law_pull D__law_prime D__law_any D_is_modulus D_is_letter D__law_like K_is_modulus K_is_letter F, hm, F.kp, F.binds (bd_law)⟩
theorem bk_is_modulus (kV doc pm : Value) (an : Option Addr) (cdv ct : Value) (us : List Value) (h : us.length = (["value"] : List Str).length) : bindArgs (PySem.W.fnOf "is_modulus" "is_modulus" (defArgs s_is_modulus) (defBody s_is_modulus) (defScope s_is_modulus) .none kV doc pm an cdv ct) { pos := [], kw := (["value"] : List Str).zip us } = pure ((["value"] : List Str).zip us) := match us, h with | [_], _ => rfl
theorem kn_is_modulus {f : Addr} {fd : FuncData} (T : Tx mg) (D_is_number : FnD P w K mg base "is_number" 1 1 Gf_is_number) (F : Fun K "is_modulus" "is_modulus" s_is_modulus f fd) (hm : mg "is_modulus" = some (.ref f)) : FnK P w K mg base "is_modulus" ["value"] 2 1 Gf_is_modulus := ⟨f, fd, ok_is_modulus T D_is_number F, hm, F.kp, kb_of F bk_is_modulus⟩
theorem bk_is_letter (kV doc pm : Value) (an : Option Addr) (cdv ct : Value) (us : List Value) (h : us.length = (["value", "modulus"] : List Str).length) : bindArgs (PySem.W.fnOf "is_letter" "is_letter" (defArgs s_is_letter) (defBody s_is_letter) (defScope s_is_letter) .none kV doc pm an cdv ct) { pos := [], kw := (["value", "modulus"] : List Str).zip us } = pure ((["value", "modulus"] : List Str).zip us) := match us, h with | [_, _], _ => rfl
theorem kn_is_letter {f : Addr} {fd : FuncData} (T : Tx mg) (D_is_number : FnD P w K mg base "is_number" 1 1 Gf_is_number) (F : Fun K "is_letter" "is_letter" s_is_letter f fd) (hm : mg "is_letter" = some (.ref f)) : FnK P w K mg base "is_letter" ["value", "modulus"] 2 2 Gf_is_letter := ⟨f, fd, ok_is_letter T D_is_number F, hm, F.kp, kb_of F bk_is_letter⟩
end
theorem all_mk {l : PySem.W.OpenLaw} {w : World} {K : PySem.W.Frag} {h : Heap} {mg : Str → Option Value} {fa f_is_number f_is_modulus f_is_letter f__law_draws f__law_pull f__law_any f__law_like f__law_prime f_law : Addr} (X : K.In h) (G : h.Ns mainGlobals mg) (hfa : mg "law" = some (.ref fa))
    {od0 an0 : Option Addr} {sl0 : Array (Option Value)} {oc0 kV0 dc0 pm0 cd0 ct0 : Value} {od1 an1 : Option Addr} {sl1 : Array (Option Value)} {oc1 kV1 dc1 pm1 cd1 ct1 : Value} {od2 an2 : Option Addr} {sl2 : Array (Option Value)} {oc2 kV2 dc2 pm2 cd2 ct2 : Value} {od3 an3 : Option Addr} {sl3 : Array (Option Value)} {oc3 kV3 dc3 pm3 cd3 ct3 : Value} {od4 an4 : Option Addr} {sl4 : Array (Option Value)} {oc4 kV4 dc4 pm4 cd4 ct4 : Value} {od5 an5 : Option Addr} {sl5 : Array (Option Value)} {oc5 kV5 dc5 pm5 cd5 ct5 : Value} {od6 an6 : Option Addr} {sl6 : Array (Option Value)} {oc6 kV6 dc6 pm6 cd6 ct6 : Value} {od7 an7 : Option Addr} {sl7 : Array (Option Value)} {oc7 kV7 dc7 pm7 cd7 ct7 : Value} {od8 an8 : Option Addr} {sl8 : Array (Option Value)} {oc8 kV8 dc8 pm8 cd8 ct8 : Value}
    (a0 : PySem.W.nsIn K mainGlobals "is_number" = some (some (.ref f_is_number))) (l0 : K.lookup f_is_number = some ⟨oc0, od0, .func (PySem.W.fnOf "is_number" "is_number" (defArgs s_is_number) (defBody s_is_number) (defScope s_is_number) .none kV0 dc0 pm0 an0 cd0 ct0), sl0⟩) (c0 : PySem.W.codeIn K cd0 "is_number" = true) (k0 : PySem.W.keepIn K (.ref f_is_number) = true)
    (a1 : PySem.W.nsIn K mainGlobals "is_modulus" = some (some (.ref f_is_modulus))) (l1 : K.lookup f_is_modulus = some ⟨oc1, od1, .func (PySem.W.fnOf "is_modulus" "is_modulus" (defArgs s_is_modulus) (defBody s_is_modulus) (defScope s_is_modulus) .none kV1 dc1 pm1 an1 cd1 ct1), sl1⟩) (c1 : PySem.W.codeIn K cd1 "is_modulus" = true) (k1 : PySem.W.keepIn K (.ref f_is_modulus) = true)
    (a2 : PySem.W.nsIn K mainGlobals "is_letter" = some (some (.ref f_is_letter))) (l2 : K.lookup f_is_letter = some ⟨oc2, od2, .func (PySem.W.fnOf "is_letter" "is_letter" (defArgs s_is_letter) (defBody s_is_letter) (defScope s_is_letter) .none kV2 dc2 pm2 an2 cd2 ct2), sl2⟩) (c2 : PySem.W.codeIn K cd2 "is_letter" = true) (k2 : PySem.W.keepIn K (.ref f_is_letter) = true)
    (a3 : PySem.W.nsIn K mainGlobals "_law_draws" = some (some (.ref f__law_draws))) (l3 : K.lookup f__law_draws = some ⟨oc3, od3, .func (PySem.W.fnOf "_law_draws" "_law_draws" (defArgs s__law_draws) (defBody s__law_draws) (defScope s__law_draws) .none kV3 dc3 pm3 an3 cd3 ct3), sl3⟩) (c3 : PySem.W.codeIn K cd3 "_law_draws" = true) (k3 : PySem.W.keepIn K (.ref f__law_draws) = true)
    (a4 : PySem.W.nsIn K mainGlobals "_law_pull" = some (some (.ref f__law_pull))) (l4 : K.lookup f__law_pull = some ⟨oc4, od4, .func (PySem.W.fnOf "_law_pull" "_law_pull" (defArgs s__law_pull) (defBody s__law_pull) (defScope s__law_pull) .none kV4 dc4 pm4 an4 cd4 ct4), sl4⟩) (c4 : PySem.W.codeIn K cd4 "_law_pull" = true) (k4 : PySem.W.keepIn K (.ref f__law_pull) = true)
    (a5 : PySem.W.nsIn K mainGlobals "_law_any" = some (some (.ref f__law_any))) (l5 : K.lookup f__law_any = some ⟨oc5, od5, .func (PySem.W.fnOf "_law_any" "_law_any" (defArgs s__law_any) (defBody s__law_any) (defScope s__law_any) .none kV5 dc5 pm5 an5 cd5 ct5), sl5⟩) (c5 : PySem.W.codeIn K cd5 "_law_any" = true) (k5 : PySem.W.keepIn K (.ref f__law_any) = true)
    (a6 : PySem.W.nsIn K mainGlobals "_law_like" = some (some (.ref f__law_like))) (l6 : K.lookup f__law_like = some ⟨oc6, od6, .func (PySem.W.fnOf "_law_like" "_law_like" (defArgs s__law_like) (defBody s__law_like) (defScope s__law_like) .none kV6 dc6 pm6 an6 cd6 ct6), sl6⟩) (c6 : PySem.W.codeIn K cd6 "_law_like" = true) (k6 : PySem.W.keepIn K (.ref f__law_like) = true)
    (a7 : PySem.W.nsIn K mainGlobals "_law_prime" = some (some (.ref f__law_prime))) (l7 : K.lookup f__law_prime = some ⟨oc7, od7, .func (PySem.W.fnOf "_law_prime" "_law_prime" (defArgs s__law_prime) (defBody s__law_prime) (defScope s__law_prime) .none kV7 dc7 pm7 an7 cd7 ct7), sl7⟩) (c7 : PySem.W.codeIn K cd7 "_law_prime" = true) (k7 : PySem.W.keepIn K (.ref f__law_prime) = true)
    (a8 : PySem.W.nsIn K mainGlobals "law" = some (some (.ref f_law))) (l8 : K.lookup f_law = some ⟨oc8, od8, .func (PySem.W.fnOf "law" "law" (defArgs s_law) (defBody s_law) (defScope s_law) .none kV8 dc8 pm8 an8 cd8 ct8), sl8⟩) (c8 : PySem.W.codeIn K cd8 "law" = true) (k8 : PySem.W.keepIn K (.ref f_law) = true)
    (z0 : PySem.W.nsIn K mainGlobals "isqrt" = some (some (.builtin "math.isqrt")))
    {tk1 : Tok} (z1 : PySem.W.nsIn K mainGlobals "GREATEST_MODULUS" = some (some (.int 999983 tk1)))
    {tk2 : Tok} (z2 : PySem.W.nsIn K mainGlobals "LEAST_MODULUS" = some (some (.int 10007 tk2)))
    (z3 : PySem.W.nsIn K mainGlobals "all" = some none)
    (z4 : PySem.W.nsIn K mainGlobals "bool" = some none)
    (z5 : PySem.W.nsIn K mainGlobals "dict" = some none)
    (z6 : PySem.W.nsIn K mainGlobals "int" = some none)
    (z7 : PySem.W.nsIn K mainGlobals "isinstance" = some none)
    (z8 : PySem.W.nsIn K mainGlobals "len" = some none)
    (z9 : PySem.W.nsIn K mainGlobals "list" = some none)
    (z10 : PySem.W.nsIn K mainGlobals "range" = some none)
    (z11 : PySem.W.nsIn K mainGlobals "str" = some none)
    (z12 : PySem.W.nsIn K mainGlobals "tuple" = some none)
    (z13 : PySem.W.nsIn K mainGlobals "zip" = some none)
    : ∃ fd : FuncData, (∀ (s : Shared) (v : Value), BindsTo s fd ⟨[v], []⟩ [("_law_script", v)]) ∧ ∀ base : Heap, K.In base → base.Ns mainGlobals mg → FnOk l.prog w K mg base (L2.CX l.prog w) 4 fa fd ["_law_script"] (spD K 1 Gf_law) := by
  have e := hfa.symm.trans (PySem.W.mg_of X G a8)
  cases e
  have T : Tx mg := ⟨PySem.W.mg_of X G z0, ⟨_, PySem.W.mg_of X G z1⟩, ⟨_, PySem.W.mg_of X G z2⟩, PySem.W.mg_none_of X G z3, PySem.W.mg_none_of X G z4, PySem.W.mg_none_of X G z5, PySem.W.mg_none_of X G z6, PySem.W.mg_none_of X G z7, PySem.W.mg_none_of X G z8, PySem.W.mg_none_of X G z9, PySem.W.mg_none_of X G z10, PySem.W.mg_none_of X G z11, PySem.W.mg_none_of X G z12, PySem.W.mg_none_of X G z13⟩
  refine ⟨PySem.W.fnOf "law" "law" (defArgs s_law) (defBody s_law) (defScope s_law) .none kV8 dc8 pm8 an8 cd8 ct8, fun s v => .of_eq rfl, fun base _ _ => ?_⟩
  have D_is_number : FnD l.prog w K mg base "is_number" 1 1 Gf_is_number := dn_is_number T  (fun_mk (st := s_is_number) l0 c0 k0) (PySem.W.mg_of X G a0)
  have D_is_modulus : FnD l.prog w K mg base "is_modulus" 2 1 Gf_is_modulus := dn_is_modulus T D_is_number (fun_mk (st := s_is_modulus) l1 c1 k1) (PySem.W.mg_of X G a1)
  have K_is_modulus : FnK l.prog w K mg base "is_modulus" ["value"] 2 1 Gf_is_modulus := kn_is_modulus T D_is_number (fun_mk (st := s_is_modulus) l1 c1 k1) (PySem.W.mg_of X G a1)
  have D_is_letter : FnD l.prog w K mg base "is_letter" 2 2 Gf_is_letter := dn_is_letter T D_is_number (fun_mk (st := s_is_letter) l2 c2 k2) (PySem.W.mg_of X G a2)
  have K_is_letter : FnK l.prog w K mg base "is_letter" ["value", "modulus"] 2 2 Gf_is_letter := kn_is_letter T D_is_number (fun_mk (st := s_is_letter) l2 c2 k2) (PySem.W.mg_of X G a2)
  have D__law_draws : FnD l.prog w K mg base "_law_draws" 1 1 Gf__law_draws := dn__law_draws T  (fun_mk (st := s__law_draws) l3 c3 k3) (PySem.W.mg_of X G a3)
  have D__law_pull : FnD l.prog w K mg base "_law_pull" 1 2 Gf__law_pull := dn__law_pull T  (fun_mk (st := s__law_pull) l4 c4 k4) (PySem.W.mg_of X G a4)
  have D__law_any : FnD l.prog w K mg base "_law_any" 2 2 Gf__law_any := dn__law_any T D__law_pull (fun_mk (st := s__law_any) l5 c5 k5) (PySem.W.mg_of X G a5)
  have D__law_like : FnD l.prog w K mg base "_law_like" 3 2 (Gf__law_like 2) := dn__law_like T  (fun_mk (st := s__law_like) l6 c6 k6) (PySem.W.mg_of X G a6)
  have D__law_prime : FnD l.prog w K mg base "_law_prime" 3 1 Gf__law_prime := dn__law_prime T D__law_any (fun_mk (st := s__law_prime) l7 c7 k7) (PySem.W.mg_of X G a7)
  exact ok_law T D__law_draws D__law_pull D__law_prime D__law_any D_is_modulus D_is_letter D__law_like K_is_modulus K_is_letter (fun_mk (st := s_law) l8 c8 k8)
end K02

namespace K02
open PySem PySem.Spec PyProof.Rows L2 DL
def bag (cs : List D) (p r s c : Int) : D := .lst [.lst cs, .int p, .int r, .int s, .int c]
theorem pull1 (cs : List D) (p r s c m : Int) (hr : 0 < r) (hm : 0 < m) (hm2 : m < 2 ^ 64) :
    Gf__law_pull [.ow (some 0) (bag cs p r s c), .va (.int m)] = .ok (.va (.int (r % m))) [.ow (some 0) (bag cs p (r / m) s (c + 1)), .no] := by
  have h0 : ¬ r = 0 := by omega
  have e1 := modD_int (i := r) hm
  have e2 := fdivD_int (i := r) hm hm2
  simp [Gf__law_pull, G__law_pull, S1__law_pull, S2__law_pull, S3__law_pull, S4__law_pull, S5__law_pull, seqR, setIx, setR, retR, ifS, nameR, cR, binR, callR, consR, consV, nilA, nxS, toB, andR, R.bind, toVa, fz, opK, cont, conts, outO, outR, addD_int, ltD_int, gtD_int, geD_int, eqD_int, ixD, itemsD, lenD_lst, intD_int, fin, bag, atI, ixN, h0, hr, e1, e2]
  all_goals rfl
def seed1 (s x : Int) : Int := (s * 43019 + x % 2147483269 * 51197 + 73) % 2147483399
def seed2 (s c : Int) : Int := (s ^ 3 + s * 37991 + c * 1299689 + 70489) % 2147483399
def last (s m : Int) : Int := (s / 83 + s % 7919 * 67) % m
theorem p1018 : powD (.int 10) (.int 18) = some (.same (.int 1000000000000000000)) := powD_int (by decide)
theorem pull2 (cs : List D) (p s c m x : Int) (hp : 0 ≤ p ∧ p < cs.length) (hc : cs[p.toNat]? = some (.int x)) (hx : 1000000000000000000 ≤ x) (hs : 0 ≤ s ∧ s < 2147483399) (hm : 0 < m) (hm2 : m < 2 ^ 64) :
    Gf__law_pull [.ow (some 0) (bag cs p 0 s c), .va (.int m)] = .ok (.va (.int (x % m))) [.ow (some 0) (bag cs (p + 1) (x / m) (seed1 s x) (c + 1)), .no] := by
  obtain ⟨hl, hc⟩ := List.getElem?_eq_some_iff.mp hc
  have h0 : 0 < x := by omega
  have e1 := modD_int (i := x) hm
  have e2 := fdivD_int (i := x) hm hm2
  have e3 := modD_int (i := x) (j := 2147483269) (by decide)
  have e4 := mulD_r (i := s) (j := 43019) (by decide)
  have e5 := mulD_r (i := x % 2147483269) (j := 51197) (by decide)
  have e6 := modD_int (i := s * 43019 + x % 2147483269 * 51197 + 73) (j := 2147483399) (by decide)
  simp [Gf__law_pull, G__law_pull, S1__law_pull, S2__law_pull, S3__law_pull, S4__law_pull, S5__law_pull, seqR, setIx, setR, retR, ifS, nameR, cR, binR, callR, consR, consV, nilA, nxS, toB, andR, R.bind, toVa, fz, opK, cont, conts, outO, outR, addD_int, ltD_int, gtD_int, geD_int, eqD_int, ixD, itemsD, lenD_lst, intD_int, fin, bag, atI, ixN, h0, hp, hc, hx, e1, e2, e3, e4, e5, e6, p1018]
  all_goals rfl
theorem pull3 (cs : List D) (p s c m x : Int) (hp : 0 ≤ p ∧ p < cs.length) (hc : cs[p.toNat]? = some (.int x)) (hx : ¬ 1000000000000000000 ≤ x) (hs : 0 ≤ s ∧ s < 2147483399) (hm : 0 < m) (hm2 : m < 2 ^ 64) :
    Gf__law_pull [.ow (some 0) (bag cs p 0 s c), .va (.int m)] = .ok (.va (.int (last (seed2 (seed1 s x) (c + 1)) m))) [.ow (some 0) (bag cs (p + 1) 0 (seed2 (seed1 s x) (c + 1)) (c + 1)), .no] := by
  obtain ⟨hl, hc⟩ := List.getElem?_eq_some_iff.mp hc
  have hs1 : 0 ≤ seed1 s x ∧ seed1 s x < 2147483399 := ⟨Int.emod_nonneg _ (by decide), Int.emod_lt_of_pos _ (by decide)⟩
  have e3 := modD_int (i := x) (j := 2147483269) (by decide)
  have e4 := mulD_r (i := s) (j := 43019) (by decide)
  have e5 := mulD_r (i := x % 2147483269) (j := 51197) (by decide)
  have e6 : modD (.int (s * 43019 + x % 2147483269 * 51197 + 73)) (.int 2147483399) = some (.same (.int (seed1 s x))) := modD_int (by decide)
  generalize seed1 s x = s1 at *
  have f1 : powD (.int s1) (.int 3) = some (.same (.int (s1 ^ 3))) := powD_int (by omega)
  have f2 := mulD_r (i := s1) (j := 37991) (by decide)
  have f3 := mulD_r (i := c + 1) (j := 1299689) (by decide)
  have f4 : modD (.int (s1 ^ 3 + s1 * 37991 + (c + 1) * 1299689 + 70489)) (.int 2147483399) = some (.same (.int (seed2 s1 (c + 1)))) := modD_int (by decide)
  generalize seed2 s1 (c + 1) = s2 at *
  have g1 := fdivD_int (i := s2) (j := 83) (by decide) (by decide)
  have g2 := modD_int (i := s2) (j := 7919) (by decide)
  have g3 := mulD_r (i := s2 % 7919) (j := 67) (by decide)
  have g4 : modD (.int (s2 / 83 + s2 % 7919 * 67)) (.int m) = some (.same (.int (last s2 m))) := modD_int hm
  simp [Gf__law_pull, G__law_pull, S1__law_pull, S2__law_pull, S3__law_pull, S4__law_pull, S5__law_pull, seqR, setIx, setR, retR, ifS, nameR, cR, binR, callR, consR, consV, nilA, nxS, toB, andR, R.bind, toVa, fz, opK, cont, conts, outO, outR, addD_int, ltD_int, gtD_int, geD_int, eqD_int, ixD, itemsD, lenD_lst, intD_int, fin, bag, atI, ixN, hp, hc, hx, e3, e4, e5, e6, p1018, f1, f2, f3, f4, g1, g2, g3, g4]
  all_goals rfl
theorem pull4 (cs : List D) (p s c m : Int) (hp : ¬ p < cs.length) (hs : 0 ≤ s ∧ s < 2147483399) (hm : 0 < m) :
    Gf__law_pull [.ow (some 0) (bag cs p 0 s c), .va (.int m)] = .ok (.va (.int (last (seed2 s (c + 1)) m))) [.ow (some 0) (bag cs p 0 (seed2 s (c + 1)) (c + 1)), .no] := by
  have f1 : powD (.int s) (.int 3) = some (.same (.int (s ^ 3))) := powD_int (by omega)
  have f2 := mulD_r (i := s) (j := 37991) (by decide)
  have f3 := mulD_r (i := c + 1) (j := 1299689) (by decide)
  have f4 : modD (.int (s ^ 3 + s * 37991 + (c + 1) * 1299689 + 70489)) (.int 2147483399) = some (.same (.int (seed2 s (c + 1)))) := modD_int (by decide)
  generalize seed2 s (c + 1) = s2 at *
  have g1 := fdivD_int (i := s2) (j := 83) (by decide) (by decide)
  have g2 := modD_int (i := s2) (j := 7919) (by decide)
  have g3 := mulD_r (i := s2 % 7919) (j := 67) (by decide)
  have g4 : modD (.int (s2 / 83 + s2 % 7919 * 67)) (.int m) = some (.same (.int (last s2 m))) := modD_int hm
  simp [Gf__law_pull, G__law_pull, S1__law_pull, S2__law_pull, S3__law_pull, S4__law_pull, S5__law_pull, seqR, setIx, setR, retR, ifS, nameR, cR, binR, callR, consR, consV, nilA, nxS, toB, andR, R.bind, toVa, fz, opK, cont, conts, outO, outR, addD_int, ltD_int, gtD_int, geD_int, eqD_int, ixD, itemsD, lenD_lst, intD_int, fin, bag, atI, ixN, hp, p1018, f1, f2, f3, f4, g1, g2, g3, g4]
  all_goals rfl
/-! what the bag is between two pulls -/
structure Bag (b : D) : Prop where
  ex : ∃ (cs : List D) (p r s c : Int), b = bag cs p r s c ∧ (∀ d ∈ cs, ∃ x, d = D.int x) ∧ 0 ≤ p ∧ 0 ≤ r ∧ 0 ≤ s ∧ s < 2147483399
theorem seed1_in (s x : Int) : 0 ≤ seed1 s x ∧ seed1 s x < 2147483399 := ⟨Int.emod_nonneg _ (by decide), Int.emod_lt_of_pos _ (by decide)⟩
theorem seed2_in (s x : Int) : 0 ≤ seed2 s x ∧ seed2 s x < 2147483399 := ⟨Int.emod_nonneg _ (by decide), Int.emod_lt_of_pos _ (by decide)⟩
theorem last_in (s m : Int) (h : 0 < m) : 0 ≤ last s m ∧ last s m < m := ⟨Int.emod_nonneg _ (by omega), Int.emod_lt_of_pos _ h⟩
theorem pull (b : D) (B : Bag b) (m : Int) (hm : 0 < m) (hm2 : m < 2 ^ 64) : ∃ (x : Int) (b' : D), 0 ≤ x ∧ x < m ∧ Bag b' ∧ Gf__law_pull [.ow (some 0) b, .va (.int m)] = .ok (.va (.int x)) [.ow (some 0) b', .no] := by
  obtain ⟨cs, p, r, s, c, rfl, hcs, hp, hr, hs1, hs2⟩ := B.ex
  by_cases h0 : r = 0
  · subst h0
    by_cases h1 : p < cs.length
    · have hl : p.toNat < cs.length := by omega
      obtain ⟨x, hx⟩ := hcs _ (List.getElem_mem hl)
      have hc : cs[p.toNat]? = some (.int x) := by rw [List.getElem?_eq_getElem hl, hx]
      by_cases h2 : 1000000000000000000 ≤ x
      · exact ⟨_, _, Int.emod_nonneg _ (by omega), Int.emod_lt_of_pos _ hm, ⟨_, _, _, _, _, rfl, hcs, by omega, Int.ediv_nonneg (by omega) (by omega), (seed1_in s x).1, (seed1_in s x).2⟩, pull2 cs p s c m x ⟨hp, h1⟩ hc h2 ⟨hs1, hs2⟩ hm hm2⟩
      · exact ⟨_, _, (last_in _ m hm).1, (last_in _ m hm).2, ⟨_, _, _, _, _, rfl, hcs, by omega, by omega, (seed2_in _ _).1, (seed2_in _ _).2⟩, pull3 cs p s c m x ⟨hp, h1⟩ hc h2 ⟨hs1, hs2⟩ hm hm2⟩
    · exact ⟨_, _, (last_in _ m hm).1, (last_in _ m hm).2, ⟨_, _, _, _, _, rfl, hcs, by omega, by omega, (seed2_in _ _).1, (seed2_in _ _).2⟩, pull4 cs p s c m h1 ⟨hs1, hs2⟩ hm⟩
  · exact ⟨_, _, Int.emod_nonneg _ (by omega), Int.emod_lt_of_pos _ hm, ⟨_, _, _, _, _, rfl, hcs, by omega, Int.ediv_nonneg (by omega) (by omega), hs1, hs2⟩, pull1 cs p r s c m (by omega) hm hm2⟩
/-! a thing drawn -/
theorem any_ok (b : D) (B : Bag b) (ds : List D) (h : 0 < ds.length) (h2 : ds.length < 1000) : ∃ (i : Nat) (b' : D) (hi : i < ds.length), Bag b' ∧ Gf__law_any [.ow (some 0) b, .va (.lst ds)] = .ok (.va ds[i]) [.ow (some 0) b', .no] := by
  obtain ⟨x, b', h3, h4, B', e⟩ := pull b B ds.length (by omega) (by omega)
  have hi : x.toNat < ds.length := by omega
  refine ⟨x.toNat, b', hi, B', ?_⟩
  simp [Gf__law_any, G__law_any, retR, nameR, binR, callR, callB, ownR, retB, vas, consR, consV, nilA, R.bind, toVa, fz, opK, cont, conts, outO, outR, ixD, itemsD, lenD_lst, fin, e, atI_at (xs := ds) ⟨h3, h4⟩, hi]
  rfl
end K02

namespace K02
open PySem PySem.Spec PyProof.Rows L2 DL
def isNum : D → Bool
  | .int _ => true
  | _ => false
theorem number_ok (d : D) (h : tag d ≠ none) : Gf_is_number [.va d] = .ok (.va (.bl (isNum d))) [.no] := by
  cases d with
  | ins C fs => exact (h rfl).elim
  | non => rfl
  | bl b => rfl
  | int i => rfl
  | str s => rfl
  | lst s => rfl
  | tup s => rfl
  | dic s => rfl
  | scr s => rfl
/-- the loop of is_modulus -/
theorem loop_ok (n : Int) : ∀ (is : List Int) (e : Ent), (∀ i ∈ is, 0 < i) →
    ∃ e', forR (nameT 1) B2_is_modulus (is.map .int) [.va (.int n), e] =
      if is.any (fun i => decide (n % i = 0)) then .ok (.rt (.va (.bl false))) [.va (.int n), e'] else .ok .nx [.va (.int n), e']
  | [], e, _ => ⟨e, rfl⟩
  | i :: is, e, h => by
    have hi := h i (List.mem_cons_self ..)
    obtain ⟨e', ih⟩ := loop_ok n is (.va (.int i)) fun j hj => h j (List.mem_cons_of_mem _ hj)
    have e1 := modD_int (i := n) hi
    by_cases c : n % i = 0
    · refine ⟨.va (.int i), ?_⟩
      simp [forR, B2_is_modulus, nameT, ifS, toB, binR, nameR, cR, retR, nxS, R.bind, fz, opK, cont, outO, outR, eqD_int, e1, c]
    · refine ⟨e', ?_⟩
      rw [List.any_cons, show decide (n % i = 0) = false from decide_eq_false c, Bool.false_or, ← ih]
      simp [forR, B2_is_modulus, nameT, ifS, toB, binR, nameR, cR, retR, nxS, R.bind, fz, opK, cont, outO, outR, eqD_int, e1, c]
def divs (n : Int) : List Int := (List.range (((Float64.isqrt n.toNat : Nat) : Int) + 1 - 2).toNat).map fun i : Nat => 2 + (i : Int)
def modB (n : Int) : Bool := if n < 10007 then false else if 999983 < n then false else !((divs n).any fun i => decide (n % i = 0))
theorem isqrt_le (n : Nat) : Float64.isqrt n ≤ n := by
  have := (Float64.isqrt_spec n).1
  rcases Nat.eq_zero_or_pos (Float64.isqrt n) with h | h
  · omega
  · exact Nat.le_trans (Nat.le_mul_of_pos_left _ h) this
theorem modulus_no (d : D) (h : tag d ≠ none) (h2 : isNum d = false) : Gf_is_modulus [.va d] = .ok (.va (.bl false)) [.no] := by
  have e := number_ok d h
  simp [Gf_is_modulus, G_is_modulus, S1_is_modulus, seqR, ifS, orR, notR, toB, callU, retU, vas, nameR, consV, nilA, cR, retR, R.bind, toVa, fin, e, h2]
  rfl
theorem modulus_ok (n : Int) : Gf_is_modulus [.va (.int n)] = .ok (.va (.bl (modB n))) [.no] := by
  have e := number_ok (.int n) (by simp [tag])
  by_cases h1 : n < 10007
  · simp [Gf_is_modulus, G_is_modulus, S1_is_modulus, seqR, ifS, orR, notR, toB, callU, retU, vas, nameR, consV, nilA, cR, retR, R.bind, toVa, fin, e, isNum, binR, fz, opK, cont, outO, outR, ltD_int, gtD_int, h1, modB]
    rfl
  · by_cases h2 : 999983 < n
    · simp [Gf_is_modulus, G_is_modulus, S1_is_modulus, seqR, ifS, orR, notR, toB, callU, retU, vas, nameR, consV, nilA, cR, retR, R.bind, toVa, fin, e, isNum, binR, fz, opK, cont, outO, outR, ltD_int, gtD_int, h1, h2, modB]
      rfl
    · have hq : isqrtD [.int n] = some (.same (.int ((Float64.isqrt n.toNat : Nat) : Int))) := if_pos ⟨by omega, by omega⟩
      have hl := isqrt_le n.toNat
      have hr : -(2 ^ 62) ≤ (2 : Int) ∧ (2 : Int) < 2 ^ 62 ∧ -(2 ^ 62) ≤ ((Float64.isqrt n.toNat : Nat) : Int) + 1 ∧ ((Float64.isqrt n.toNat : Nat) : Int) + 1 < 2 ^ 62 := ⟨by decide, by decide, by omega, by omega⟩
      obtain ⟨e', hL⟩ := loop_ok n (divs n) .no fun i hi => by
        unfold divs at hi
        obtain ⟨j, _, rfl⟩ := List.mem_map.mp hi
        omega
      have hd : rangeD 2 (((Float64.isqrt n.toNat : Nat) : Int) + 1 - 2).toNat = (divs n).map D.int := by
        unfold rangeD divs
        rw [List.map_map]
        rfl
      have hG : G_is_modulus [.va (.int n), .no] = (match forR (nameT 1) B2_is_modulus ((divs n).map .int) [.va (.int n), .no] with
          | .ok .nx ρ => .ok (.rt (.va (.bl true))) ρ
          | r => r) := by
        rw [← hd]
        have hi : (forS (rng2I (consV (cR (.int 2)) (consV (binR addD (callR isqrtD (consR (nameR 0) nilA)) (cR (.int 1))) nilA))) (nameT 1) B2_is_modulus) [.va (.int n), .no] = forR (nameT 1) B2_is_modulus (rangeD 2 (((Float64.isqrt n.toNat : Nat) : Int) + 1 - 2).toNat) [.va (.int n), .no] := by
          have hg : rng2I (consV (cR (.int 2)) (consV (binR addD (callR isqrtD (consR (nameR 0) nilA)) (cR (.int 1))) nilA)) [.va (.int n), .no] = .ok (rangeD 2 (((Float64.isqrt n.toNat : Nat) : Int) + 1 - 2).toNat) [.va (.int n), .no] := by
            simp only [rng2I, consV, consR, cR, nilA, binR, callR, conts, nameR, toVa, fz, opK, cont, outO, outR, R.bind, List.getElem?_cons_zero, Option.map_some, hq, addD_int]
            rw [if_pos hr]
          unfold forS
          rw [hg]
          rfl
        have ho : S1_is_modulus [.va (.int n), .no] = .ok .nx [.va (.int n), .no] := by
          simp [S1_is_modulus, ifS, orR, notR, toB, callU, retU, vas, nameR, consV, nilA, cR, retR, R.bind, toVa, e, isNum, binR, fz, opK, cont, outO, outR, ltD_int, gtD_int, h1, h2, nxS]
        unfold G_is_modulus seqR
        rw [ho]
        simp only [R.bind]
        rw [hi]
        cases forR (nameT 1) B2_is_modulus (rangeD 2 (((Float64.isqrt n.toNat : Nat) : Int) + 1 - 2).toNat) [.va (.int n), .no] with
        | ok fl ρ => cases fl <;> rfl
        | ex x ρ => rfl
        | bad => rfl
      show fin 1 (G_is_modulus [.va (.int n), .no]) = _
      rw [hG, hL]
      unfold modB
      rw [if_neg h1, if_neg h2]
      cases (divs n).any fun i => decide (n % i = 0) <;> rfl
theorem modB_no {n d : Int} (h2 : 2 ≤ d) (h3 : d * d ≤ n) (h4 : n % d = 0) : modB n = false := by
  unfold modB
  split
  · rfl
  · split
    · rfl
    · rename_i h1 h5
      have hs := (Float64.isqrt_spec n.toNat).2
      generalize hq : Float64.isqrt n.toNat = q at hs
      have hd : d.toNat < q + 1 := by
        refine Nat.lt_of_not_le fun hle => ?_
        have a : (q + 1) * (q + 1) ≤ d.toNat * d.toNat := Nat.mul_le_mul hle hle
        have b : ((d.toNat * d.toNat : Nat) : Int) ≤ n := by
          rw [Int.natCast_mul, show ((d.toNat : Nat) : Int) = d by omega]
          exact h3
        omega
      have : (divs n).any (fun i => decide (n % i = 0)) = true := List.any_eq_true.mpr ⟨d, by
        unfold divs
        rw [hq]
        exact List.mem_map.mpr ⟨(d - 2).toNat, List.mem_range.mpr (by omega), by omega⟩, decide_eq_true h4⟩
      rw [this]
      rfl
theorem modB_prime {n : Int} (h1 : 10007 ≤ n) (h2 : n ≤ 999983) (h : (List.range 999).all (fun i => decide ((i + 2) * (i + 2) > n.toNat) || decide (n % (2 + (i : Int)) ≠ 0)) = true) : modB n = true := by
  unfold modB
  rw [if_neg (by omega), if_neg (by omega)]
  have hs := (Float64.isqrt_spec n.toNat).1
  generalize hq : Float64.isqrt n.toNat = q at hs
  have hq2 : q < 1000 := by
    refine Nat.lt_of_not_le fun hle => ?_
    have a : 1000 * 1000 ≤ q * q := Nat.mul_le_mul hle hle
    omega
  have : (divs n).any (fun i => decide (n % i = 0)) = false := by
    refine List.any_eq_false.mpr fun d hd => ?_
    unfold divs at hd
    rw [hq] at hd
    obtain ⟨j, hj, rfl⟩ := List.mem_map.mp hd
    have hj := List.mem_range.mp hj
    have := List.all_eq_true.mp h j (List.mem_range.mpr (by omega))
    rcases Bool.or_eq_true_iff.mp this with z | z
    · have z := of_decide_eq_true z
      have a : (j + 2) * (j + 2) ≤ q * q := Nat.mul_le_mul (by omega) (by omega)
      omega
    · have z := of_decide_eq_true z
      simpa using z
  rw [this]
  rfl
theorem prime_10007 : modB 10007 = true := modB_prime (by decide) (by decide) (by decide +kernel)
theorem prime_10009 : modB 10009 = true := modB_prime (by decide) (by decide) (by decide +kernel)
theorem prime_65537 : modB 65537 = true := modB_prime (by decide) (by decide) (by decide +kernel)
theorem prime_104729 : modB 104729 = true := modB_prime (by decide) (by decide) (by decide +kernel)
theorem prime_999983 : modB 999983 = true := modB_prime (by decide) (by decide) (by decide +kernel)
theorem letter_no (d e : D) (h : tag d ≠ none) (h2 : isNum d = false) : Gf_is_letter [.va d, .va e] = .ok (.va (.bl false)) [.no, .no] := by
  have e := number_ok d h
  simp [Gf_is_letter, G_is_letter, retR, andV, toB, callU, retU, vas, nameR, consV, nilA, cR, R.bind, toVa, fz, fin, e, h2]
  rfl
theorem letter_ok (n m : Int) : Gf_is_letter [.va (.int n), .va (.int m)] = .ok (.va (.bl (decide (0 ≤ n) && decide (n < m)))) [.no, .no] := by
  have e := number_ok (.int n) (by simp [tag])
  by_cases h : 0 ≤ n
  · simp [Gf_is_letter, G_is_letter, retR, andV, toB, callU, retU, vas, nameR, consV, nilA, cR, R.bind, toVa, fz, fin, e, isNum, chainR, opK, cont, outO, outR, leD_int, ltD_int, h]
    rfl
  · simp [Gf_is_letter, G_is_letter, retR, andV, toB, callU, retU, vas, nameR, consV, nilA, cR, R.bind, toVa, fz, fin, e, isNum, chainR, opK, cont, outO, outR, leD_int, ltD_int, h]
    rfl
end K02

namespace K02
open PySem PySem.Spec PyProof.Rows L2 DL
def primes : List Int := [10007, 10007, 10009, 65537, 104729, 999983]
theorem prime_ok (b : D) (B : Bag b) : ∃ (p : Int) (b' : D), p ∈ primes ∧ Bag b' ∧ Gf__law_prime [.ow (some 0) b] = .ok (.va (.int p)) [.ow (some 0) b'] := by
  obtain ⟨i, b', hi, B', e⟩ := any_ok b B (primes.map .int) (by decide) (by decide)
  have hi' : i < primes.length := by simpa using hi
  refine ⟨primes[i], b', List.getElem_mem hi', B', ?_⟩
  rw [List.getElem_map] at e
  simp only [primes, List.map_cons, List.map_nil] at e
  simp [Gf__law_prime, G__law_prime, S1__law_prime, retR, nameR, callR, callB, ownR, retB, vas, consR, consV, nilA, listR, big, outR, R.bind, toVa, fz, cR, conts, fin, e]
  exact ⟨rfl, rfl⟩
def primeB (p : Int) : Bool := modB p && decide (p % 2 = 1) && decide (10007 ≤ p) && decide (p ≤ 999983)
theorem primes_all : primes.all primeB = true := by
  simp only [primes, primeB, List.all_cons, List.all_nil, prime_10007, prime_10009, prime_65537, prime_104729, prime_999983]
  decide
theorem primes_at {p : Int} (h : p ∈ primes) : modB p = true ∧ p % 2 = 1 ∧ 10007 ≤ p ∧ p ≤ 999983 := by
  have := List.all_eq_true.mp primes_all p h
  simpa [primeB, and_assoc] using this
theorem modB_mul {a b : Int} (h1 : 2 ≤ a) (h2 : 2 ≤ b) : modB (a * b) = false := by
  rcases Int.le_total a b with h | h
  · exact modB_no h1 (Int.mul_le_mul_of_nonneg_left h (by omega)) (Int.mul_emod_right a b)
  · exact modB_no h2 (Int.mul_le_mul_of_nonneg_right h (by omega)) (Int.mul_emod_left a b)
theorem modB_even {n : Int} (h1 : 4 ≤ n) (h2 : n % 2 = 0) : modB n = false := modB_no (by decide) (by omega) h2
theorem modB_low {n : Int} (h : n < 10007) : modB n = false := if_pos h
theorem modB_high {n : Int} (h : 999983 < n) : modB n = false := by
  unfold modB
  rw [if_pos h]
  exact ite_self _
theorem p1029 : powD (.int 10) (.int 29) = some (.same (.int 100000000000000000000000000000)) := powD_int (by decide)
theorem seq_nx {A B : List Ent → R Fl} {ρ ρ1 : List Ent} {r : R Fl} (h : A ρ = .ok .nx ρ1) (h2 : B ρ1 = r) : seqR A B ρ = r := by
  unfold seqR
  rw [h]
  exact h2
theorem turn_ok (sc : List Int) (b : D) (B : Bag b) (e2 e3 e4 e5 e6 : Ent) : ∃ (b' : D) (f3 f4 f5 f6 : Ent), Bag b' ∧
    B5_law [.va (.scr sc), .ow none b, e2, e3, e4, e5, e6, .no, .no, .no, .no] = .ok .nx [.va (.scr sc), .ow none b', e2, f3, f4, f5, f6, .no, .no, .no, .no] := by
  obtain ⟨x, b1, hx1, hx2, B1, q1⟩ := pull b B 998 (by decide) (by decide)
  obtain ⟨y, b2, hy1, hy2, B2, q2⟩ := pull b1 B1 998 (by decide) (by decide)
  obtain ⟨p, b3, hp, B3, q3⟩ := prime_ok b2 B2
  obtain ⟨p1, p2, p3, p4⟩ := primes_at hp
  obtain ⟨i, b4, hi, B4, q4⟩ := any_ok b3 B3 ([p + 1, p - 1, p * 2, (2 + x) * (2 + y), 100000000000000000000000000000 + (2 + x), 0 - p, 1, 0, 2, 9973].map .int) (by rw [List.length_map]; exact Nat.zero_lt_succ _) (by rw [List.length_map]; show 10 < 1000; decide)
  have hn : ∀ n ∈ [p + 1, p - 1, p * 2, (2 + x) * (2 + y), 100000000000000000000000000000 + (2 + x), 0 - p, 1, 0, 2, 9973], modB n = false := by
    intro n hn
    simp only [List.mem_cons, List.not_mem_nil, or_false] at hn
    rcases hn with rfl | rfl | rfl | rfl | rfl | rfl | rfl | rfl | rfl | rfl
    · exact modB_even (by omega) (by omega)
    · exact modB_even (by omega) (by omega)
    · exact modB_even (by omega) (by omega)
    · exact modB_mul (by omega) (by omega)
    · exact modB_high (by omega)
    · exact modB_low (by omega)
    · exact modB_low (by omega)
    · exact modB_low (by omega)
    · exact modB_low (by omega)
    · exact modB_low (by omega)
  have hi' := hi
  rw [List.length_map] at hi'
  have hm := hn _ (List.getElem_mem hi')
  rw [List.getElem_map] at q4
  generalize [p + 1, p - 1, p * 2, (2 + x) * (2 + y), 100000000000000000000000000000 + (2 + x), 0 - p, 1, 0, 2, 9973][i] = z at q4 hm
  simp only [List.map_cons, List.map_nil] at q4
  have m1 : Gf_is_modulus [.va (.int ((2 + x) * (2 + y)))] = .ok (.va (.bl false)) [.no] := by rw [modulus_ok, modB_mul (by omega) (by omega)]
  have m2 : Gf_is_modulus [.va (.int z)] = .ok (.va (.bl false)) [.no] := by rw [modulus_ok, hm]
  have m3 : Gf_is_modulus [.va (.int p)] = .ok (.va (.bl true)) [.no] := by rw [modulus_ok, p1]
  have l1 : Gf_is_letter [.va (.int 0), .va (.int p)] = .ok (.va (.bl true)) [.no, .no] := by rw [letter_ok, decide_eq_true (by omega), decide_eq_true (by omega)]; rfl
  have l2 : Gf_is_letter [.va (.int (p - 1)), .va (.int p)] = .ok (.va (.bl true)) [.no, .no] := by rw [letter_ok, decide_eq_true (by omega), decide_eq_true (by omega)]; rfl
  have l3 : Gf_is_letter [.va (.int p), .va (.int p)] = .ok (.va (.bl false)) [.no, .no] := by rw [letter_ok, decide_eq_true (by omega), decide_eq_false (by omega)]; rfl
  have l4 : Gf_is_letter [.va (.int (0 - 1)), .va (.int p)] = .ok (.va (.bl false)) [.no, .no] := by rw [letter_ok, decide_eq_false (by omega)]; rfl
  have l5 : Gf_is_letter [.va (.int (2 + x)), .va (.int p)] = .ok (.va (.bl true)) [.no, .no] := by rw [letter_ok, decide_eq_true (by omega), decide_eq_true (by omega)]; rfl
  have k1 := mulD_l (i := p) (j := 2) ⟨by omega, by omega⟩
  have k2 := mulD_l (i := 2 + x) (j := 2 + y) ⟨by omega, by omega⟩
  have ne : neD (.lst [.bl true, .bl true, .bl false, .bl false, .bl true]) (.lst [.bl true, .bl true, .bl false, .bl false, .bl true]) = some (.same (.bl false)) := rfl
  refine ⟨b4, .va (.int (2 + x)), .va (.int (2 + y)), .va (.int p), .va (.int z), B4, ?_⟩
  have s1 : S1_law [.va (.scr sc), .ow none b, e2, e3, e4, e5, e6, .no, .no, .no, .no] = .ok .nx [.va (.scr sc), .ow none b2, e2, .va (.int (2 + x)), .va (.int (2 + y)), e5, e6, .no, .no, .no, .no] := by
    simp (config := { maxSteps := 5000000 }) only [S1_law, q1, q2, seqR, parVV, setR, setO, retR, dropR, ifS, nameR, cR, binR, callR, callB, callU, ownR, retB, retU, vas, consR, consV, nilA, listR, tupR, nxS, toB, notR, orR, andR, andV, orV, notV, R.bind, toVa, fz, opK, cont, conts, outO, outR, addD_int, subD_int, lcR, seqI, itemsD, lcLoop, noX, wipeE, nameT, yesT, List.getElem?_cons_zero, List.getElem?_cons_succ, List.set_cons_zero, List.set_cons_succ, List.length_cons, List.length_nil, Option.map_some, List.append_nil, List.nil_append, List.cons_append, List.map_cons, List.map_nil, ↓reduceIte, Nat.reduceAdd, Nat.reduceLeDiff, Nat.reduceLT, Bool.not_false, Bool.not_true, Bool.false_eq_true, notBD, decide_true, big, and_self, and_true, true_and, ge_iff_le, gt_iff_lt]
  have s2 : (setR 5 (callB 1 Gf__law_prime [] (consR (nameR 1) nilA))) [.va (.scr sc), .ow none b2, e2, .va (.int (2 + x)), .va (.int (2 + y)), e5, e6, .no, .no, .no, .no] = .ok .nx [.va (.scr sc), .ow none b3, e2, .va (.int (2 + x)), .va (.int (2 + y)), .va (.int p), e6, .no, .no, .no, .no] := by
    simp (config := { maxSteps := 5000000 }) only [q3, seqR, parVV, setR, setO, retR, dropR, ifS, nameR, cR, binR, callR, callB, callU, ownR, retB, retU, vas, consR, consV, nilA, listR, tupR, nxS, toB, notR, orR, andR, andV, orV, notV, R.bind, toVa, fz, opK, cont, conts, outO, outR, addD_int, subD_int, lcR, seqI, itemsD, lcLoop, noX, wipeE, nameT, yesT, List.getElem?_cons_zero, List.getElem?_cons_succ, List.set_cons_zero, List.set_cons_succ, List.length_cons, List.length_nil, Option.map_some, List.append_nil, List.nil_append, List.cons_append, List.map_cons, List.map_nil, ↓reduceIte, Nat.reduceAdd, Nat.reduceLeDiff, Nat.reduceLT, Bool.not_false, Bool.not_true, Bool.false_eq_true, notBD, decide_true, big, and_self, and_true, true_and, ge_iff_le, gt_iff_lt]
  have s3 : S2_law [.va (.scr sc), .ow none b3, e2, .va (.int (2 + x)), .va (.int (2 + y)), .va (.int p), e6, .no, .no, .no, .no] = .ok .nx [.va (.scr sc), .ow none b4, e2, .va (.int (2 + x)), .va (.int (2 + y)), .va (.int p), .va (.int z), .no, .no, .no, .no] := by
    simp (config := { maxSteps := 5000000 }) only [S2_law, k1, k2, p1029, q4, seqR, parVV, setR, setO, retR, dropR, ifS, nameR, cR, binR, callR, callB, callU, ownR, retB, retU, vas, consR, consV, nilA, listR, tupR, nxS, toB, notR, orR, andR, andV, orV, notV, R.bind, toVa, fz, opK, cont, conts, outO, outR, addD_int, subD_int, lcR, seqI, itemsD, lcLoop, noX, wipeE, nameT, yesT, List.getElem?_cons_zero, List.getElem?_cons_succ, List.set_cons_zero, List.set_cons_succ, List.length_cons, List.length_nil, Option.map_some, List.append_nil, List.nil_append, List.cons_append, List.map_cons, List.map_nil, ↓reduceIte, Nat.reduceAdd, Nat.reduceLeDiff, Nat.reduceLT, Bool.not_false, Bool.not_true, Bool.false_eq_true, notBD, decide_true, big, and_self, and_true, true_and, ge_iff_le, gt_iff_lt]
  have s4 : S3_law [.va (.scr sc), .ow none b4, e2, .va (.int (2 + x)), .va (.int (2 + y)), .va (.int p), .va (.int z), .no, .no, .no, .no] = .ok .nx [.va (.scr sc), .ow none b4, e2, .va (.int (2 + x)), .va (.int (2 + y)), .va (.int p), .va (.int z), .no, .no, .no, .no] := by
    simp (config := { maxSteps := 5000000 }) only [S3_law, k2, m1, m2, m3, seqR, parVV, setR, setO, retR, dropR, ifS, nameR, cR, binR, callR, callB, callU, ownR, retB, retU, vas, consR, consV, nilA, listR, tupR, nxS, toB, notR, orR, andR, andV, orV, notV, R.bind, toVa, fz, opK, cont, conts, outO, outR, addD_int, subD_int, lcR, seqI, itemsD, lcLoop, noX, wipeE, nameT, yesT, List.getElem?_cons_zero, List.getElem?_cons_succ, List.set_cons_zero, List.set_cons_succ, List.length_cons, List.length_nil, Option.map_some, List.append_nil, List.nil_append, List.cons_append, List.map_cons, List.map_nil, ↓reduceIte, Nat.reduceAdd, Nat.reduceLeDiff, Nat.reduceLT, Bool.not_false, Bool.not_true, Bool.false_eq_true, notBD, decide_true, big, and_self, and_true, true_and, ge_iff_le, gt_iff_lt]
  have s5 : S4_law [.va (.scr sc), .ow none b4, e2, .va (.int (2 + x)), .va (.int (2 + y)), .va (.int p), .va (.int z), .no, .no, .no, .no] = .ok .nx [.va (.scr sc), .ow none b4, e2, .va (.int (2 + x)), .va (.int (2 + y)), .va (.int p), .va (.int z), .no, .no, .no, .no] := by
    simp (config := { maxSteps := 5000000 }) only [S4_law, l1, l2, l3, l4, l5, ne, seqR, parVV, setR, setO, retR, dropR, ifS, nameR, cR, binR, callR, callB, callU, ownR, retB, retU, vas, consR, consV, nilA, listR, tupR, nxS, toB, notR, orR, andR, andV, orV, notV, R.bind, toVa, fz, opK, cont, conts, outO, outR, addD_int, subD_int, lcR, seqI, itemsD, lcLoop, noX, wipeE, nameT, yesT, List.getElem?_cons_zero, List.getElem?_cons_succ, List.set_cons_zero, List.set_cons_succ, List.length_cons, List.length_nil, Option.map_some, List.append_nil, List.nil_append, List.cons_append, List.map_cons, List.map_nil, ↓reduceIte, Nat.reduceAdd, Nat.reduceLeDiff, Nat.reduceLT, Bool.not_false, Bool.not_true, Bool.false_eq_true, notBD, decide_true, big, and_self, and_true, true_and, ge_iff_le, gt_iff_lt]
  exact seq_nx s1 (seq_nx s2 (seq_nx s3 (seq_nx s4 s5)))
theorem cut_mem {ds : List D} {lo hi : Option Int} {d : D} (h : d ∈ cutD ds lo hi) : d ∈ ds := List.mem_of_mem_drop (List.mem_of_mem_take h)
theorem forR_inv {f : D → List Ent → Option (List Ent)} {B : List Ent → R Fl} (I : List Ent → Prop) : ∀ (ds : List D) (ρ : List Ent), (∀ d ∈ ds, ∀ ρ, I ρ → ∃ ρ1 ρ2, f d ρ = some ρ1 ∧ B ρ1 = .ok .nx ρ2 ∧ I ρ2) → I ρ → ∃ ρ', forR f B ds ρ = .ok .nx ρ' ∧ I ρ'
  | [], ρ, _, i => ⟨ρ, rfl, i⟩
  | d :: ds, ρ, h, i => by
    obtain ⟨ρ1, ρ2, h1, h2, h3⟩ := h d (List.mem_cons_self ..) ρ i
    obtain ⟨ρ', h4, h5⟩ := forR_inv I ds ρ2 (fun e he => h e (List.mem_cons_of_mem _ he)) h3
    refine ⟨ρ', ?_, h5⟩
    unfold forR
    rw [h1]
    simp only
    rw [h2]
    exact h4
theorem draws_ok (ns : List Int) : ∃ b, Bag b ∧ Gf__law_draws [.va (.scr ns)] = .ok (.ow b) [.no] := by
  refine ⟨bag (cutD (ns.map .int) none (some 63)) 0 0 10045 0, ⟨_, _, _, _, _, rfl, fun d hd => ?_, by decide, by decide, by decide, by decide⟩, ?_⟩
  · obtain ⟨x, _, e⟩ := List.mem_map.mp (cut_mem hd)
    exact ⟨x, e.symm⟩
  · rfl
theorem like_ok : ∃ ρ, Gf__law_like 2 [.va (.lst [.int 10007, .int 999983, .bl true, .bl true, .bl false, .bl false, .bl false]), .va (.lst [.int 10007, .int 999983, .bl true, .bl true, .bl false, .bl false, .bl false])] = .ok (.va (.bl true)) ρ := ⟨[.no, .no], rfl⟩
theorem main (ns : List Int) (_ : ns.length ≤ 63) : ∃ ρ, Gf_law [.va (.scr ns)] = .ok (.va (.bl true)) ρ := by
  obtain ⟨b, B, q0⟩ := draws_ok ns
  obtain ⟨ρ', hl, b', e2, e3, e4, e5, e6, B', rfl⟩ := forR_inv (f := nameT 2) (B := B5_law) (fun ρ => ∃ (b : D) (e2 e3 e4 e5 e6 : Ent), Bag b ∧ ρ = [.va (.scr ns), .ow none b, e2, e3, e4, e5, e6, .no, .no, .no, .no]) (rangeD 0 8) [.va (.scr ns), .ow none b, .no, .no, .no, .no, .no, .no, .no, .no, .no] (by
    rintro d _ ρ ⟨b, e2, e3, e4, e5, e6, B, rfl⟩
    obtain ⟨b', f3, f4, f5, f6, B', q⟩ := turn_ok ns b B (.va d) e3 e4 e5 e6
    exact ⟨_, _, rfl, q, b', _, f3, f4, f5, f6, B', rfl⟩) ⟨b, _, _, _, _, _, B, rfl⟩
  obtain ⟨ρl, ql⟩ := like_ok
  have m1 : Gf_is_modulus [.va .non] = .ok (.va (.bl false)) [.no] := modulus_no _ (by simp [tag]) rfl
  have m2 : Gf_is_modulus [.va (.bl true)] = .ok (.va (.bl false)) [.no] := modulus_no _ (by simp [tag]) rfl
  have m3 : Gf_is_modulus [.va (.str "10007")] = .ok (.va (.bl false)) [.no] := modulus_no _ (by simp [tag]) rfl
  have m4 : Gf_is_modulus [.va (.tup [.int 10007])] = .ok (.va (.bl false)) [.no] := modulus_no _ (by simp [tag]) rfl
  have m5 : Gf_is_modulus [.va (.lst [.int 10007])] = .ok (.va (.bl false)) [.no] := modulus_no _ (by simp [tag]) rfl
  have m6 : ∀ kvs, Gf_is_modulus [.va (.dic kvs)] = .ok (.va (.bl false)) [.no] := fun kvs => modulus_no _ (by simp [tag]) rfl
  have m7 : Gf_is_modulus [.va (.int (999979 + 21))] = .ok (.va (.bl false)) [.no] := by rw [modulus_ok, modB_high (by decide)]
  have m8 : Gf_is_modulus [.va (.int 1000003)] = .ok (.va (.bl false)) [.no] := by rw [modulus_ok, modB_high (by decide)]
  have m9 : Gf_is_modulus [.va (.int 10006)] = .ok (.va (.bl false)) [.no] := by rw [modulus_ok, modB_low (by decide)]
  have m10 : Gf_is_modulus [.va (.int (997 * 1003))] = .ok (.va (.bl false)) [.no] := by rw [modulus_ok, modB_high (by decide)]
  have m11 : Gf_is_modulus [.va (.int 999983)] = .ok (.va (.bl true)) [.no] := by rw [modulus_ok, prime_999983]
  have m12 : Gf_is_modulus [.va (.int 10007)] = .ok (.va (.bl true)) [.no] := by rw [modulus_ok, prime_10007]
  have m13 : Gf_is_modulus [.va (.int (991 * 997))] = .ok (.va (.bl false)) [.no] := by rw [modulus_ok, modB_mul (by decide) (by decide)]
  have m14 : Gf_is_modulus [.va (.int (991 * 991))] = .ok (.va (.bl false)) [.no] := by rw [modulus_ok, modB_mul (by decide) (by decide)]
  have m15 : Gf_is_modulus [.va (.int (103 * 103))] = .ok (.va (.bl false)) [.no] := by rw [modulus_ok, modB_mul (by decide) (by decide)]
  have l1 : Gf_is_letter [.va .non, .va (.int 10007)] = .ok (.va (.bl false)) [.no, .no] := letter_no _ _ (by simp [tag]) rfl
  have l2 : Gf_is_letter [.va (.bl true), .va (.int 10007)] = .ok (.va (.bl false)) [.no, .no] := letter_no _ _ (by simp [tag]) rfl
  have l3 : Gf_is_letter [.va (.bl false), .va (.int 10007)] = .ok (.va (.bl false)) [.no, .no] := letter_no _ _ (by simp [tag]) rfl
  have l4 : Gf_is_letter [.va (.str "1"), .va (.int 10007)] = .ok (.va (.bl false)) [.no, .no] := letter_no _ _ (by simp [tag]) rfl
  have l5 : Gf_is_letter [.va (.tup [.int 1]), .va (.int 10007)] = .ok (.va (.bl false)) [.no, .no] := letter_no _ _ (by simp [tag]) rfl
  have l6 : Gf_is_letter [.va (.lst [.int 1]), .va (.int 10007)] = .ok (.va (.bl false)) [.no, .no] := letter_no _ _ (by simp [tag]) rfl
  have k1 : mulD (.int 997) (.int 1003) = some (.same (.int (997 * 1003))) := rfl
  have k2 : mulD (.int 991) (.int 997) = some (.same (.int (991 * 997))) := rfl
  have k3 : mulD (.int 991) (.int 991) = some (.same (.int (991 * 991))) := rfl
  have k4 : mulD (.int 103) (.int 103) = some (.same (.int (103 * 103))) := rfl
  have k5 : mulD (.lst [.bl false]) (.int 10) = some (.newL [.bl false, .bl false, .bl false, .bl false, .bl false, .bl false, .bl false, .bl false, .bl false, .bl false]) := rfl
  have k6 : mulD (.lst [.bl false]) (.int 6) = some (.newL [.bl false, .bl false, .bl false, .bl false, .bl false, .bl false]) := rfl
  have n1 : neD (.lst [.bl false, .bl false, .bl false, .bl false, .bl false, .bl false, .bl false, .bl false, .bl false, .bl false]) (.lst [.bl false, .bl false, .bl false, .bl false, .bl false, .bl false, .bl false, .bl false, .bl false, .bl false]) = some (.same (.bl false)) := rfl
  have n2 : neD (.lst [.bl false, .bl false, .bl false, .bl false, .bl false, .bl false]) (.lst [.bl false, .bl false, .bl false, .bl false, .bl false, .bl false]) = some (.same (.bl false)) := rfl
  have a1 : addD (.lst [.int 10007, .int 999983, .bl true, .bl true, .bl false, .bl false]) (.lst [.bl false]) = some (.newL [.int 10007, .int 999983, .bl true, .bl true, .bl false, .bl false, .bl false]) := rfl
  have d1 : dispR (consP (cR (.int 10007)) (cR (.int 1)) nilP) = fun ρ => .ok (.ow (.dic [(.inl 10007, .int 1)])) ρ := rfl
  have r8 : rng1I (consV (cR (.int 8)) nilA) = fun ρ => .ok (rangeD 0 8) ρ := rfl
  have s1 : (setO 1 (callU 1 Gf__law_draws [] (consV (nameR 0) nilA))) [.va (.scr ns), .no, .no, .no, .no, .no, .no, .no, .no, .no, .no] = .ok .nx [.va (.scr ns), .ow none b, .no, .no, .no, .no, .no, .no, .no, .no, .no] := by
    simp (config := { maxSteps := 5000000 }) only [q0, seqR, parVV, setR, setO, retR, dropR, ifS, nameR, cR, binR, callR, callB, callU, ownR, retB, retU, vas, consR, consV, nilA, listR, tupR, nxS, toB, notR, orR, andR, andV, orV, notV, R.bind, toVa, fz, opK, cont, conts, outO, outR, addD_int, subD_int, lcR, seqI, itemsD, lcLoop, noX, wipeE, nameT, yesT, List.getElem?_cons_zero, List.getElem?_cons_succ, List.set_cons_zero, List.set_cons_succ, List.length_cons, List.length_nil, Option.map_some, List.append_nil, List.nil_append, List.cons_append, List.map_cons, List.map_nil, ↓reduceIte, Nat.reduceAdd, Nat.reduceLeDiff, Nat.reduceLT, Bool.not_false, Bool.not_true, Bool.false_eq_true, notBD, decide_true, big, and_self, and_true, true_and, ge_iff_le, gt_iff_lt]
  have s2 : (forS (rng1I (consV (cR (.int 8)) nilA)) (nameT 2) B5_law) [.va (.scr ns), .ow none b, .no, .no, .no, .no, .no, .no, .no, .no, .no] = .ok .nx [.va (.scr ns), .ow none b', e2, e3, e4, e5, e6, .no, .no, .no, .no] := by
    simp only [forS, r8, R.bind, hl]
  generalize hodd : D.lst [.non, .bl true, .str "10007", .tup [.int 10007], .lst [.int 10007], .dic [(.inl 10007, .int 1)], .int (999979 + 21), .int 1000003, .int 10006, .int (997 * 1003)] = odd
  have s3 : S6_law [.va (.scr ns), .ow none b', e2, e3, e4, e5, e6, .no, .no, .no, .no] = .ok .nx [.va (.scr ns), .ow none b', e2, e3, e4, e5, e6, .va odd, .no, .no, .no] := by
    rw [← hodd]
    simp (config := { maxSteps := 5000000 }) only [S6_law, k1, d1, seqR, parVV, setR, setO, retR, dropR, ifS, nameR, cR, binR, callR, callB, callU, ownR, retB, retU, vas, consR, consV, nilA, listR, tupR, nxS, toB, notR, orR, andR, andV, orV, notV, R.bind, toVa, fz, opK, cont, conts, outO, outR, addD_int, subD_int, lcR, seqI, itemsD, lcLoop, noX, wipeE, nameT, yesT, List.getElem?_cons_zero, List.getElem?_cons_succ, List.set_cons_zero, List.set_cons_succ, List.length_cons, List.length_nil, Option.map_some, List.append_nil, List.nil_append, List.cons_append, List.map_cons, List.map_nil, ↓reduceIte, Nat.reduceAdd, Nat.reduceLeDiff, Nat.reduceLT, Bool.not_false, Bool.not_true, Bool.false_eq_true, notBD, decide_true, big, and_self, and_true, true_and, ge_iff_le, gt_iff_lt]
  have s4 : S7_law [.va (.scr ns), .ow none b', e2, e3, e4, e5, e6, .va odd, .no, .no, .no] = .ok .nx [.va (.scr ns), .ow none b', e2, e3, e4, e5, e6, .va odd, .no, .no, .no] := by
    rw [← hodd]
    simp (config := { maxSteps := 5000000 }) only [S7_law, m1, m2, m3, m4, m5, m6, m7, m8, m9, m10, k5, n1, seqR, parVV, setR, setO, retR, dropR, ifS, nameR, cR, binR, callR, callB, callU, ownR, retB, retU, vas, consR, consV, nilA, listR, tupR, nxS, toB, notR, orR, andR, andV, orV, notV, R.bind, toVa, fz, opK, cont, conts, outO, outR, addD_int, subD_int, lcR, seqI, itemsD, lcLoop, noX, wipeE, nameT, yesT, List.getElem?_cons_zero, List.getElem?_cons_succ, List.set_cons_zero, List.set_cons_succ, List.length_cons, List.length_nil, Option.map_some, List.append_nil, List.nil_append, List.cons_append, List.map_cons, List.map_nil, ↓reduceIte, Nat.reduceAdd, Nat.reduceLeDiff, Nat.reduceLT, Bool.not_false, Bool.not_true, Bool.false_eq_true, notBD, decide_true, big, and_self, and_true, true_and, ge_iff_le, gt_iff_lt]
  have s5 : S8_law [.va (.scr ns), .ow none b', e2, e3, e4, e5, e6, .va odd, .no, .no, .no] = .ok .nx [.va (.scr ns), .ow none b', e2, e3, e4, e5, e6, .va odd, .no, .no, .no] := by
    simp (config := { maxSteps := 5000000 }) only [S8_law, l1, l2, l3, l4, l5, l6, k6, n2, seqR, parVV, setR, setO, retR, dropR, ifS, nameR, cR, binR, callR, callB, callU, ownR, retB, retU, vas, consR, consV, nilA, listR, tupR, nxS, toB, notR, orR, andR, andV, orV, notV, R.bind, toVa, fz, opK, cont, conts, outO, outR, addD_int, subD_int, lcR, seqI, itemsD, lcLoop, noX, wipeE, nameT, yesT, List.getElem?_cons_zero, List.getElem?_cons_succ, List.set_cons_zero, List.set_cons_succ, List.length_cons, List.length_nil, Option.map_some, List.append_nil, List.nil_append, List.cons_append, List.map_cons, List.map_nil, ↓reduceIte, Nat.reduceAdd, Nat.reduceLeDiff, Nat.reduceLT, Bool.not_false, Bool.not_true, Bool.false_eq_true, notBD, decide_true, big, and_self, and_true, true_and, ge_iff_le, gt_iff_lt]
  generalize hfnd : D.lst [.int 10007, .int 999983, .bl true, .bl true, .bl false, .bl false] = fnd
  have s6 : S9_law [.va (.scr ns), .ow none b', e2, e3, e4, e5, e6, .va odd, .no, .no, .no] = .ok .nx [.va (.scr ns), .ow none b', e2, e3, e4, e5, e6, .va odd, .va fnd, .no, .no] := by
    rw [← hfnd]
    simp (config := { maxSteps := 5000000 }) only [S9_law, m11, m12, m13, m14, k2, k3, seqR, parVV, setR, setO, retR, dropR, ifS, nameR, cR, binR, callR, callB, callU, ownR, retB, retU, vas, consR, consV, nilA, listR, tupR, nxS, toB, notR, orR, andR, andV, orV, notV, R.bind, toVa, fz, opK, cont, conts, outO, outR, addD_int, subD_int, lcR, seqI, itemsD, lcLoop, noX, wipeE, nameT, yesT, List.getElem?_cons_zero, List.getElem?_cons_succ, List.set_cons_zero, List.set_cons_succ, List.length_cons, List.length_nil, Option.map_some, List.append_nil, List.nil_append, List.cons_append, List.map_cons, List.map_nil, ↓reduceIte, Nat.reduceAdd, Nat.reduceLeDiff, Nat.reduceLT, Bool.not_false, Bool.not_true, Bool.false_eq_true, notBD, decide_true, big, and_self, and_true, true_and, ge_iff_le, gt_iff_lt]
  have s7 : S10_law [.va (.scr ns), .ow none b', e2, e3, e4, e5, e6, .va odd, .va fnd, .no, .no] = .ok (.rt (.va (.bl true))) [.va (.scr ns), .ow none b', e2, e3, e4, e5, e6, .va odd, .va fnd, .no, .no] := by
    rw [← hfnd]
    simp (config := { maxSteps := 5000000 }) only [S10_law, m15, k4, a1, ql, seqR, parVV, setR, setO, retR, dropR, ifS, nameR, cR, binR, callR, callB, callU, ownR, retB, retU, vas, consR, consV, nilA, listR, tupR, nxS, toB, notR, orR, andR, andV, orV, notV, R.bind, toVa, fz, opK, cont, conts, outO, outR, addD_int, subD_int, lcR, seqI, itemsD, lcLoop, noX, wipeE, nameT, yesT, List.getElem?_cons_zero, List.getElem?_cons_succ, List.set_cons_zero, List.set_cons_succ, List.length_cons, List.length_nil, Option.map_some, List.append_nil, List.nil_append, List.cons_append, List.map_cons, List.map_nil, ↓reduceIte, Nat.reduceAdd, Nat.reduceLeDiff, Nat.reduceLT, Bool.not_false, Bool.not_true, Bool.false_eq_true, notBD, decide_true, big, and_self, and_true, true_and, ge_iff_le, gt_iff_lt]
  have g : G_law [.va (.scr ns), .no, .no, .no, .no, .no, .no, .no, .no, .no, .no] = _ := seq_nx s1 (seq_nx s2 (seq_nx s3 (seq_nx s4 (seq_nx s5 (seq_nx s6 s7)))))
  refine ⟨[.no], ?_⟩
  show fin 1 (G_law [.va (.scr ns), .no, .no, .no, .no, .no, .no, .no, .no, .no, .no]) = _
  rw [g]
  rfl
end K02

namespace K02
open PySem PySem.Spec PyProof.Rows L2 DL
theorem walk {l : PySem.W.OpenLaw} {q : Program} {loose : List Str} {XP : (Str → Option Value) → Heap → Prop} {YP : World → Heap → Prop} {d : DefRec} {K : Params → PySem.W.Frag} (hn : l.most = some 63) (hdf : d.params.defaults = [])
    (hY : ∀ (w : World) (h : Heap), YP w h → (K w.params).In h)
    (F : ∀ (w : World) (mg : Str → Option Value) (fa : Addr) (h : Heap), (K w.params).In h → h.Ns mainGlobals mg → mg d.name = some (.ref fa) →
      ∃ fd : FuncData, (∀ (s : Shared) (u : Value), BindsTo s fd ⟨[u], []⟩ [("_law_script", u)]) ∧ ∀ base : Heap, (K w.params).In base → base.Ns mainGlobals mg → FnOk l.prog w (K w.params) mg base (L2.CX l.prog w) 4 fa fd ["_law_script"] (spD (K w.params) 1 Gf_law)) :
    PySem.W.WalkO q loose XP YP l.row.toRowW d [] (fun f vs => PySem.call f vs) :=
  L2.walk_of (n := 63) (k := 4) (x := "_law_script") (CX := fun w => L2.CX l.prog w) (sp := fun w => spD (K w.params) 1 Gf_law) hn (by decide) hdf ⟨rfl, by decide, by decide⟩ hY F (fun w H a ns hl _ hS => law_true (main ns hl) hS) noCX
end K02
open PySem PySem.W PyProof.Rows
set_option maxRecDepth 100000 in
set_option maxHeartbeats 0 in
theorem PySem.Challenge.cw_mendworth_k02_moduli_and_letters_holds : PySem.Challenge.rw_mendworth_k02_moduli_and_letters.Holds := by
  w_on; o_law; k_head; (case hw => w_witness2)
  k_fill
  refine K02.walk (l := PySem.Challenge.rw_mendworth_k02_moduli_and_letters) rfl rfl (fun w h Y => PySem.W.kIn_of Y) ?F
  case F =>
    intro w mg fa h KX G hmg
    refine' K02.all_mk KX G hmg ?a0 ?l0 ?c0 ?k0 ?a1 ?l1 ?c1 ?k1 ?a2 ?l2 ?c2 ?k2 ?a3 ?l3 ?c3 ?k3 ?a4 ?l4 ?c4 ?k4 ?a5 ?l5 ?c5 ?k5 ?a6 ?l6 ?c6 ?k6 ?a7 ?l7 ?c7 ?k7 ?a8 ?l8 ?c8 ?k8 ?z0 ?z1 ?z2 ?z3 ?z4 ?z5 ?z6 ?z7 ?z8 ?z9 ?z10 ?z11 ?z12 ?z13
    (case a0 => k_is)
    (case l0 => k_is)
    (case c0 => k_is)
    (case k0 => k_is)
    (case a1 => k_is)
    (case l1 => k_is)
    (case c1 => k_is)
    (case k1 => k_is)
    (case a2 => k_is)
    (case l2 => k_is)
    (case c2 => k_is)
    (case k2 => k_is)
    (case a3 => k_is)
    (case l3 => k_is)
    (case c3 => k_is)
    (case k3 => k_is)
    (case a4 => k_is)
    (case l4 => k_is)
    (case c4 => k_is)
    (case k4 => k_is)
    (case a5 => k_is)
    (case l5 => k_is)
    (case c5 => k_is)
    (case k5 => k_is)
    (case a6 => k_is)
    (case l6 => k_is)
    (case c6 => k_is)
    (case k6 => k_is)
    (case a7 => k_is)
    (case l7 => k_is)
    (case c7 => k_is)
    (case k7 => k_is)
    (case a8 => k_is)
    (case l8 => k_is)
    (case c8 => k_is)
    (case k8 => k_is)
    (case z0 => k_is)
    (case z1 => k_is)
    (case z2 => k_is)
    (case z3 => k_is)
    (case z4 => k_is)
    (case z5 => k_is)
    (case z6 => k_is)
    (case z7 => k_is)
    (case z8 => k_is)
    (case z9 => k_is)
    (case z10 => k_is)
    (case z11 => k_is)
    (case z12 => k_is)
    (case z13 => k_is)
