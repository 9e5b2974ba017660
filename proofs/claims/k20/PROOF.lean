import PyProof.Rows.All
import Wide.All
import OpenK.AllK
import Wide.FinOn
import PySem.Challenge.RW_rangekeep_k20_whole_words_are_mended
import HandS.ForMost
import HandS.Evl
import HandS.Flow
import HandS.TupAny
import HandS.TupMul
import HandS.IsInst
import HandS.Zip
import HandS.Rev
import HandS.Style
import PyProof.Draws
import KE.GoesEnum
import KE.KTupSum
set_option Elab.async false
set_option linter.all false
set_option maxRecDepth 100000
set_option maxHeartbeats 4000000
/-! The data layer: plain data D for what stands in the heap; stores of slots; what a reading makes of a store. -/
namespace Mi
open PySem PySem.Spec PyProof.Rows L2 Evl

inductive D where
  | non | bl (b : Bool) | int (i : Int) | str (x : Str) | tup (ds : List D) | lst (ds : List D) | fro (ds : List D) | ins (C : Addr) (ns : List Str) (ds : List D)
instance : Inhabited D := ⟨.non⟩

mutual
inductive Rep (K : PySem.W.Frag) (H : Hp) : V → D → Prop
  | non : Rep K H .non .non
  | bl (b : Bool) : Rep K H (.bl b) (.bl b)
  | int (i : Int) : Rep K H (.int i) (.int i)
  | str (x : Str) : Rep K H (.str x) (.str x)
  | tup {a : Addr} {xs : List V} {ds : List D} : SqT K H a xs → RepL K H xs ds → Rep K H (.ref a) (.tup ds)
  | lst {a : Addr} {xs : List V} {ds : List D} : H a = some (.lst xs) → RepL K H xs ds → Rep K H (.ref a) (.lst ds)
  | fro {a : Addr} {xs : List V} {ds : List D} : SqL K H a xs → RepL K H xs ds → Rep K H (.ref a) (.fro ds)
  | ins {a C dx : Addr} {fs : List (Str × V)} {ns : List Str} {ds : List D} : H a = some (.ins C dx fs) → fs.map (·.1) = ns → RepL K H (fs.map (·.2)) ds → Rep K H (.ref a) (.ins C ns ds)
inductive RepL (K : PySem.W.Frag) (H : Hp) : List V → List D → Prop
  | nil : RepL K H [] []
  | cons {v : V} {vs : List V} {d : D} {ds : List D} : Rep K H v d → RepL K H vs ds → RepL K H (v :: vs) (d :: ds)
end
section
variable {K : PySem.W.Frag} {H H' : Hp}
mutual
theorem Rep.mono (e : Ex H H') : ∀ (d : D) (v : V), Rep K H v d → Rep K H' v d
  | .non, _, h => by cases h; exact .non
  | .bl b, _, h => by cases h; exact .bl b
  | .int i, _, h => by cases h; exact .int i
  | .str x, _, h => by cases h; exact .str x
  | .tup ds, _, h => by cases h with | tup a b => exact .tup (ex_t e a) (RepL.mono e ds _ b)
  | .lst ds, _, h => by cases h with | lst a b => exact .lst (e _ _ a) (RepL.mono e ds _ b)
  | .fro ds, _, h => by cases h with | fro a b => exact .fro (ex_l e a) (RepL.mono e ds _ b)
  | .ins C ns ds, _, h => by cases h with | ins a b c => exact .ins (e _ _ a) b (RepL.mono e ds _ c)
theorem RepL.mono (e : Ex H H') : ∀ (ds : List D) (vs : List V), RepL K H vs ds → RepL K H' vs ds
  | [], _, h => by cases h; exact .nil
  | d :: ds, _, h => by cases h with | cons a b => exact .cons (Rep.mono e d _ a) (RepL.mono e ds _ b)
end
theorem Rep.up {v : V} {d : D} (h : Rep K H v d) (e : Ex H H') : Rep K H' v d := Rep.mono e d v h
theorem RepL.up {vs : List V} {ds : List D} (h : RepL K H vs ds) (e : Ex H H') : RepL K H' vs ds := RepL.mono e ds vs h
theorem RepL.len : ∀ {vs : List V} {ds : List D}, RepL K H vs ds → vs.length = ds.length
  | _, _, .nil => rfl
  | _, _, .cons _ t => by rw [List.length_cons, List.length_cons, RepL.len t]
theorem RepL.app : ∀ {vs ws : List V} {ds es : List D}, RepL K H vs ds → RepL K H ws es → RepL K H (vs ++ ws) (ds ++ es)
  | _, _, _, _, .nil, h => h
  | _, _, _, _, .cons a t, h => .cons a (RepL.app t h)
theorem RepL.get : ∀ {vs : List V} {ds : List D} {i : Nat} {d : D}, RepL K H vs ds → ds[i]? = some d → ∃ v, vs[i]? = some v ∧ Rep K H v d
  | _, _, _, _, .nil, e => by simp at e
  | _, _, 0, _, .cons a _, e => by simp at e; subst e; exact ⟨_, rfl, a⟩
  | _, _, i + 1, d, .cons _ t, e => by
    obtain ⟨v, h1, h2⟩ := RepL.get (i := i) (d := d) t (by simpa using e)
    exact ⟨v, by simpa using h1, h2⟩
theorem RepL.getv : ∀ {vs : List V} {ds : List D} {i : Nat} {v : V}, RepL K H vs ds → vs[i]? = some v → ∃ d, ds[i]? = some d ∧ Rep K H v d
  | _, _, _, _, .nil, e => by simp at e
  | _, _, 0, _, .cons a _, e => by simp at e; subst e; exact ⟨_, rfl, a⟩
  | _, _, i + 1, d, .cons _ t, e => by
    obtain ⟨v, h1, h2⟩ := RepL.getv (i := i) (v := d) t (by simpa using e)
    exact ⟨v, by simpa using h1, h2⟩
theorem RepL.set {v : V} {d : D} (r : Rep K H v d) : ∀ {vs : List V} {ds : List D} (i : Nat), RepL K H vs ds → RepL K H (vs.set i v) (ds.set i d)
  | _, _, _, .nil => .nil
  | _, _, 0, .cons _ t => .cons r t
  | _, _, i + 1, .cons a t => .cons a (RepL.set r i t)
theorem RepL.take : ∀ {vs : List V} {ds : List D} (i : Nat), RepL K H vs ds → RepL K H (vs.take i) (ds.take i)
  | _, _, 0, _ => .nil
  | _, _, _ + 1, .nil => .nil
  | _, _, i + 1, .cons a t => .cons a (RepL.take i t)
theorem RepL.drop : ∀ {vs : List V} {ds : List D} (i : Nat), RepL K H vs ds → RepL K H (vs.drop i) (ds.drop i)
  | _, _, 0, r => r
  | _, _, _ + 1, .nil => .nil
  | _, _, i + 1, .cons _ t => RepL.drop i t
theorem RepL.rep : ∀ (n : Nat) {vs : List V} {ds : List D}, RepL K H vs ds → RepL K H (List.replicate n vs).flatten (List.replicate n ds).flatten
  | 0, _, _, _ => .nil
  | n + 1, _, _, r => by
    rw [List.replicate_succ, List.replicate_succ, List.flatten_cons, List.flatten_cons]
    exact r.app (RepL.rep n r)
theorem RepL.nilv {vs : List V} {ds : List D} (r : RepL K H vs ds) : vs = [] ↔ ds = [] := by
  cases r with
  | nil => exact ⟨fun _ => rfl, fun _ => rfl⟩
  | cons _ _ => exact ⟨fun z => (by cases z), fun z => (by cases z)⟩
/-- ints -/
def iL (ns : List Int) : List D := ns.map D.int
theorem RepL.toI : ∀ {vs : List V} {ns : List Int}, RepL K H vs (iL ns) → vs = ns.map V.int
  | _, [], h => by cases h; rfl
  | _, n :: ns, h => by
    cases h with
    | cons a t =>
      cases a
      rw [RepL.toI t]
      rfl
theorem RepL.of_ints : ∀ (ns : List Int), RepL K H (ns.map V.int) (iL ns)
  | [] => .nil
  | n :: ns => .cons (.int n) (RepL.of_ints ns)
end
end Mi

namespace Mi
open PySem PySem.Spec PyProof.Rows L2 Evl

/-- a slot: nothing is said; a datum that stands still; a list of this def's own; the list that the def may change for its caller -/
inductive SV where
  | un | dat (d : D) | own (ds : List D) | par (ds : List D)
abbrev Sto := List SV
def SV.owns : SV → Bool
  | .own _ => true
  | .par _ => true
  | _ => false
def SV.put : SV → List D → SV
  | .own _, ds => .own ds
  | .par _, ds => .par ds
  | x, _ => x
def SV.ls : SV → Option (List D)
  | .own ds => some ds
  | .par ds => some ds
  | _ => none
/-- what an expression gives: a datum, or the list at a slot -/
inductive Bv where
  | dat (d : D) | slot (j : Nat)
/-- what must stand (P), what stood still at the start (B), the list that may change (os) -/
structure Fr where
  P : Hp
  B : Hp
  os : Option Addr

section
variable (K : PySem.W.Frag)
def SVok (f : Fr) (H Hb : Hp) : SV → Option V → Prop
  | .un, _ => True
  | .dat d, o => ∃ v, o = some v ∧ Rep K Hb v d
  | .own ds, o => ∃ l vs, o = some (.ref l) ∧ Hb l = none ∧ f.P l = none ∧ f.os ≠ some l ∧ H l = some (.lst vs) ∧ RepL K Hb vs ds
  | .par ds, o => ∃ l vs, o = some (.ref l) ∧ Hb l = none ∧ f.os = some l ∧ H l = some (.lst vs) ∧ RepL K Hb vs ds
structure Rw (f : Fr) (σ : L2.St) (H : Hp) (s : Sto) (Hb : Hp) : Prop where
  hb : Ex Hb H
  up : Ex f.B Hb
  ag : ∀ a, f.P a ≠ none → Hb a = f.B a
  kp : ∀ a o, f.P a = some o → H a = some o
  os : ∀ l, f.os = some l → Hb l = none ∧ f.P l = none ∧ ∃ vs, H l = some (.lst vs)
  len : s.length = σ.length
  ok : ∀ (i : Nat) (sv : SV) (o : Option V), s[i]? = some sv → σ[i]? = some o → SVok K f H Hb sv o
  dist : ∀ (i j : Nat) (si sj : SV), i ≠ j → s[i]? = some si → s[j]? = some sj → si.owns = true → sj.owns = true → σ[i]? ≠ σ[j]?
/-- the value of a Bv -/
def RepB (σ : L2.St) (Hb : Hp) (v : V) : Bv → Prop
  | .dat d => Rep K Hb v d
  | .slot j => σ[j]? = some (some v)
end
section
variable {K : PySem.W.Frag} {f : Fr} {σ : L2.St} {H H' Hb Hb' : Hp} {s : Sto}
theorem Rw.slot (R : Rw K f σ H s Hb) {i : Nat} {sv : SV} (h : s[i]? = some sv) : ∃ o, σ[i]? = some o ∧ SVok K f H Hb sv o := by
  have hl : i < s.length := (List.getElem?_eq_some_iff.mp h).1
  have h2 : i < σ.length := by rw [← R.len]; exact hl
  exact ⟨_, List.getElem?_eq_getElem h2, R.ok i sv _ h (List.getElem?_eq_getElem h2)⟩
/-- a list of a slot: where it stands -/
theorem Rw.list (R : Rw K f σ H s Hb) {j : Nat} {sv : SV} {ds : List D} (h : s[j]? = some sv) (hs : sv.ls = some ds) :
    ∃ l vs, σ[j]? = some (some (.ref l)) ∧ Hb l = none ∧ f.P l = none ∧ H l = some (.lst vs) ∧ RepL K Hb vs ds := by
  obtain ⟨o, ho, k⟩ := R.slot h
  cases sv with
  | un => cases hs
  | dat d => cases hs
  | own es =>
    cases hs
    obtain ⟨l, vs, rfl, h1, h2, _, h3, h4⟩ := k
    exact ⟨l, vs, ho, h1, h2, h3, h4⟩
  | par es =>
    cases hs
    obtain ⟨l, vs, rfl, h1, h2, h3, h4⟩ := k
    exact ⟨l, vs, ho, h1, (R.os l h2).2.1, h3, h4⟩
theorem Rw.fresh (R : Rw K f σ H s Hb) {p : Addr} (h : H p = none) : Hb p = none ∧ f.P p = none ∧ f.os ≠ some p := by
  refine ⟨fresh_back R.hb h, ?_, fun e => ?_⟩
  · cases q : f.P p with
    | none => rfl
    | some o =>
      have := R.kp p o q
      rw [h] at this
      cases this
  · obtain ⟨_, _, vs, hv⟩ := R.os p e
    rw [h] at hv
    cases hv
/-- the heap grows; what stood stands -/
theorem Rw.step (R : Rw K f σ H s Hb) (e1 : Ex Hb Hb') (e2 : Ex Hb' H') (ag : ∀ a, H a ≠ none → Hb' a = Hb a) (kp : Ex H H') : Rw K f σ H' s Hb' where
  hb := e2
  up := R.up.trans e1
  ag := fun a ha => by
    have : H a ≠ none := fun z => ha (by
      cases q : f.P a with
      | none => rfl
      | some o =>
        have := R.kp a o q
        rw [z] at this
        cases this)
    rw [ag a this]
    exact R.ag a ha
  kp := fun a o h => kp a o (R.kp a o h)
  os := fun l h => by
    obtain ⟨h1, h2, vs, h3⟩ := R.os l h
    exact ⟨by rw [ag l (by rw [h3]; simp)]; exact h1, h2, vs, kp _ _ h3⟩
  len := R.len
  ok := fun i sv o h1 h2 => by
    have k := R.ok i sv o h1 h2
    cases sv with
    | un => trivial
    | dat d =>
      obtain ⟨v, rfl, r⟩ := k
      exact ⟨v, rfl, r.up e1⟩
    | own ds =>
      obtain ⟨l, vs, rfl, a1, a2, a3, a4, a5⟩ := k
      exact ⟨l, vs, rfl, by rw [ag l (by rw [a4]; simp)]; exact a1, a2, a3, kp _ _ a4, a5.up e1⟩
    | par ds =>
      obtain ⟨l, vs, rfl, a1, a2, a4, a5⟩ := k
      exact ⟨l, vs, rfl, by rw [ag l (by rw [a4]; simp)]; exact a1, a2, kp _ _ a4, a5.up e1⟩
  dist := R.dist
/-- a new thing that stands still -/
theorem Rw.new (R : Rw K f σ H s Hb) {p : Addr} (o : HO) (h : H p = none) : Ex Hb (upd Hb p o) ∧ Rw K f σ (upd H p o) s (upd Hb p o) := by
  have h1 := (R.fresh h).1
  have e1 : Ex Hb (upd Hb p o) := Ex.new h1
  refine ⟨e1, R.step e1 (fun a u e => ?_) (fun a ha => upd_ne fun z => ha (by rw [z]; exact h)) (Ex.new h)⟩
  by_cases hp : a = p
  · subst hp
    rw [upd_same] at e ⊢
    exact e
  · rw [upd_ne hp] at e ⊢
    exact R.hb a u e
/-- a slot takes a datum -/
theorem Rw.set (R : Rw K f σ H s Hb) (i : Nat) {v : V} {d : D} (r : Rep K Hb v d) : Rw K f (σ.set i (some v)) H (s.set i (.dat d)) Hb where
  hb := R.hb
  up := R.up
  ag := R.ag
  kp := R.kp
  os := R.os
  len := by rw [List.length_set, List.length_set]; exact R.len
  ok := fun j sv o h1 h2 => by
    by_cases e : i = j
    · subst e
      have hl : i < s.length := by
        have := (List.getElem?_eq_some_iff.mp h1).1
        rw [List.length_set] at this
        exact this
      rw [List.getElem?_set_self hl] at h1
      rw [List.getElem?_set_self (by rw [← R.len]; exact hl)] at h2
      cases h1
      cases h2
      exact ⟨v, rfl, r⟩
    · rw [List.getElem?_set_ne e] at h1 h2
      exact R.ok j sv o h1 h2
  dist := fun a b sa sb hab ha hb oa ob => by
    have na : i ≠ a := fun e => by
      subst e
      have hl : i < s.length := by
        have := (List.getElem?_eq_some_iff.mp ha).1
        rw [List.length_set] at this
        exact this
      rw [List.getElem?_set_self hl] at ha
      cases ha
      cases oa
    have nb : i ≠ b := fun e => by
      subst e
      have hl : i < s.length := by
        have := (List.getElem?_eq_some_iff.mp hb).1
        rw [List.length_set] at this
        exact this
      rw [List.getElem?_set_self hl] at hb
      cases hb
      cases ob
    rw [List.getElem?_set_ne na] at ha ⊢
    rw [List.getElem?_set_ne nb] at hb ⊢
    exact R.dist a b sa sb hab ha hb oa ob
/-- a new list that the slot i owns -/
theorem Rw.setOwn (R : Rw K f σ H s Hb) (i : Nat) {p : Addr} {vs : List V} {ds : List D} (h0 : Hb p = none) (h1 : f.P p = none) (h2 : f.os ≠ some p) (h3 : H p = some (.lst vs)) (h4 : RepL K Hb vs ds)
    (h5 : ∀ (j : Nat) (sv : SV), s[j]? = some sv → sv.owns = true → σ[j]? ≠ some (some (.ref p))) : Rw K f (σ.set i (some (.ref p))) H (s.set i (.own ds)) Hb where
  hb := R.hb
  up := R.up
  ag := R.ag
  kp := R.kp
  os := R.os
  len := by rw [List.length_set, List.length_set]; exact R.len
  ok := fun j sv o g1 g2 => by
    by_cases e : i = j
    · subst e
      have hl : i < s.length := by
        have := (List.getElem?_eq_some_iff.mp g1).1
        rw [List.length_set] at this
        exact this
      rw [List.getElem?_set_self hl] at g1
      rw [List.getElem?_set_self (by rw [← R.len]; exact hl)] at g2
      cases g1
      cases g2
      exact ⟨p, vs, rfl, h0, h1, h2, h3, h4⟩
    · rw [List.getElem?_set_ne e] at g1 g2
      exact R.ok j sv o g1 g2
  dist := fun a b sa sb hab ha hb oa ob => by
    by_cases na : i = a
    · subst na
      have nb : i ≠ b := hab
      have hl : i < s.length := by
        have := (List.getElem?_eq_some_iff.mp ha).1
        rw [List.length_set] at this
        exact this
      rw [List.getElem?_set_ne nb] at hb ⊢
      rw [List.getElem?_set_self (by rw [← R.len]; exact hl)]
      exact fun e => h5 b sb hb ob e.symm
    · by_cases nb : i = b
      · subst nb
        have hl : i < s.length := by
          have := (List.getElem?_eq_some_iff.mp hb).1
          rw [List.length_set] at this
          exact this
        rw [List.getElem?_set_ne na] at ha ⊢
        rw [List.getElem?_set_self (by rw [← R.len]; exact hl)]
        exact h5 a sa ha oa
      · rw [List.getElem?_set_ne na] at ha ⊢
        rw [List.getElem?_set_ne nb] at hb ⊢
        exact R.dist a b sa sb hab ha hb oa ob
/-- the list of the slot j changes, whatever else grows -/
theorem Rw.stepAt (R : Rw K f σ H s Hb) {j : Nat} {sv : SV} {es ds : List D} {l : Addr} {vs : List V} (hj : s[j]? = some sv) (hs : sv.ls = some es) (hl : σ[j]? = some (some (.ref l)))
    (e1 : Ex Hb Hb') (e2 : Ex Hb' H') (ag : ∀ a, H a ≠ none → Hb' a = Hb a) (kp : ∀ a o, a ≠ l → H a = some o → H' a = some o) (h1 : H' l = some (.lst vs)) (h2 : RepL K Hb' vs ds) :
    Rw K f σ H' (s.set j (sv.put ds)) Hb' := by
  have hjl : j < s.length := (List.getElem?_eq_some_iff.mp hj).1
  obtain ⟨l', vs', q1, q2, q3, q4, q5⟩ := R.list hj hs
  rw [hl] at q1
  cases q1
  have ow : sv.owns = true := by cases sv <;> first | rfl | cases hs
  refine ⟨e2, R.up.trans e1, fun a ha => ?_, fun a o h => ?_, fun k h => ?_, ?_, fun i sv2 o g1 g2 => ?_, fun a b sa sb hab ha hb oa ob => ?_⟩
  · have : H a ≠ none := fun z => ha (by
      cases q : f.P a with
      | none => rfl
      | some o =>
        have := R.kp a o q
        rw [z] at this
        cases this)
    rw [ag a this]
    exact R.ag a ha
  · exact kp a o (fun z => by rw [z, q3] at h; cases h) (R.kp a o h)
  · obtain ⟨k1, k2, ws, k3⟩ := R.os k h
    refine ⟨by rw [ag k (by rw [k3]; simp)]; exact k1, k2, ?_⟩
    by_cases e : k = l
    · subst e; exact ⟨vs, h1⟩
    · exact ⟨ws, kp _ _ e k3⟩
  · rw [List.length_set]; exact R.len
  · by_cases e : j = i
    · subst e
      rw [List.getElem?_set_self hjl] at g1
      cases g1
      rw [hl] at g2
      cases g2
      have k := R.ok j sv _ hj hl
      cases sv with
      | un => cases hs
      | dat d => cases hs
      | own d0 =>
        obtain ⟨l2, vs2, e0, a1, a2, a3, a4, a5⟩ := k
        cases e0
        exact ⟨_, vs, rfl, by rw [ag _ (by rw [a4]; simp)]; exact a1, a2, a3, h1, h2⟩
      | par d0 =>
        obtain ⟨l2, vs2, e0, a1, a2, a4, a5⟩ := k
        cases e0
        exact ⟨_, vs, rfl, by rw [ag _ (by rw [a4]; simp)]; exact a1, a2, h1, h2⟩
    · rw [List.getElem?_set_ne e] at g1
      have k := R.ok i sv2 o g1 g2
      cases sv2 with
      | un => trivial
      | dat d =>
        obtain ⟨v, rfl, r⟩ := k
        exact ⟨v, rfl, r.up e1⟩
      | own d0 =>
        obtain ⟨l2, vs2, rfl, a1, a2, a3, a4, a5⟩ := k
        have ne : l2 ≠ l := fun z => R.dist i j _ sv (fun q => e q.symm) g1 hj rfl ow (by rw [g2, hl, z])
        exact ⟨l2, vs2, rfl, by rw [ag l2 (by rw [a4]; simp)]; exact a1, a2, a3, kp _ _ ne a4, a5.up e1⟩
      | par d0 =>
        obtain ⟨l2, vs2, rfl, a1, a2, a4, a5⟩ := k
        have ne : l2 ≠ l := fun z => R.dist i j _ sv (fun q => e q.symm) g1 hj rfl ow (by rw [g2, hl, z])
        exact ⟨l2, vs2, rfl, by rw [ag l2 (by rw [a4]; simp)]; exact a1, a2, kp _ _ ne a4, a5.up e1⟩
  · have own2 : ∀ (c : Nat) (sc : SV), (s.set j (sv.put ds))[c]? = some sc → sc.owns = true → ∃ sc', s[c]? = some sc' ∧ sc'.owns = true := fun c sc h o => by
      by_cases e : j = c
      · subst e; exact ⟨sv, hj, ow⟩
      · rw [List.getElem?_set_ne e] at h
        exact ⟨sc, h, o⟩
    obtain ⟨sa', ha', oa'⟩ := own2 a sa ha oa
    obtain ⟨sb', hb', ob'⟩ := own2 b sb hb ob
    exact R.dist a b sa' sb' hab ha' hb' oa' ob'
/-- the list of the slot j stands still from here on -/
theorem Rw.freeze (R : Rw K f σ H s Hb) {j : Nat} {ds : List D} (hj : s[j]? = some (.own ds)) :
    ∃ l vs, σ[j]? = some (some (.ref l)) ∧ H l = some (.lst vs) ∧ Ex Hb (upd Hb l (.lst vs)) ∧ Rep K (upd Hb l (.lst vs)) (.ref l) (.lst ds) ∧ Rw K f σ H (s.set j (.dat (.lst ds))) (upd Hb l (.lst vs)) := by
  obtain ⟨o, ho, l, vs, rfl, h1, h2, h3, h4, h5⟩ := R.slot hj
  have hjl : j < s.length := (List.getElem?_eq_some_iff.mp hj).1
  have e1 : Ex Hb (upd Hb l (.lst vs)) := Ex.new h1
  have rp : Rep K (upd Hb l (.lst vs)) (.ref l) (.lst ds) := .lst upd_same (h5.up e1)
  refine ⟨l, vs, ho, h4, e1, rp, ⟨fun a u e => ?_, R.up.trans e1, fun a ha => ?_, R.kp, fun k hk => ?_, ?_, fun i sv o g1 g2 => ?_, fun a b sa sb hab ha hb oa ob => ?_⟩⟩
  · by_cases q : a = l
    · subst q
      rw [upd_same] at e
      cases e
      exact h4
    · rw [upd_ne q] at e
      exact R.hb a u e
  · rw [upd_ne (fun z => ha (by rw [z]; exact h2))]
    exact R.ag a ha
  · obtain ⟨k1, k2, k3⟩ := R.os k hk
    exact ⟨by rw [upd_ne (fun z => h3 (by rw [hk, z]))]; exact k1, k2, k3⟩
  · rw [List.length_set]; exact R.len
  · by_cases e : j = i
    · subst e
      rw [List.getElem?_set_self hjl] at g1
      cases g1
      rw [ho] at g2
      cases g2
      exact ⟨_, rfl, rp⟩
    · rw [List.getElem?_set_ne e] at g1
      have k := R.ok i sv o g1 g2
      cases sv with
      | un => trivial
      | dat d =>
        obtain ⟨v, rfl, r⟩ := k
        exact ⟨v, rfl, r.up e1⟩
      | own d0 =>
        obtain ⟨l2, vs2, rfl, a1, a2, a3, a4, a5⟩ := k
        have ne : l2 ≠ l := fun z => R.dist i j _ _ (fun q => e q.symm) g1 hj rfl rfl (by rw [g2, ho, z])
        exact ⟨l2, vs2, rfl, by rw [upd_ne ne]; exact a1, a2, a3, a4, a5.up e1⟩
      | par d0 =>
        obtain ⟨l2, vs2, rfl, a1, a2, a4, a5⟩ := k
        have ne : l2 ≠ l := fun z => R.dist i j _ _ (fun q => e q.symm) g1 hj rfl rfl (by rw [g2, ho, z])
        exact ⟨l2, vs2, rfl, by rw [upd_ne ne]; exact a1, a2, a4, a5.up e1⟩
  · have na : ∀ (c : Nat) (sc : SV), (s.set j (.dat (.lst ds)))[c]? = some sc → sc.owns = true → s[c]? = some sc := fun c sc h o => by
      by_cases e : j = c
      · subst e
        rw [List.getElem?_set_self hjl] at h
        cases h
        cases o
      · rw [List.getElem?_set_ne e] at h
        exact h
    exact R.dist a b sa sb hab (na a sa ha oa) (na b sb hb ob) oa ob
end
end Mi

namespace Mi
open PySem PySem.Spec PyProof.Rows L2 Evl

abbrev ME := Sto → Option (Bv × Sto)
abbrev MT := Sto → Option (Bool × Sto)
abbrev MA := Sto → Option (List Bv × Sto)
abbrev MF := Sto → Option (List D × Sto)
abbrev MI := Sto → Option (List D × Sto)
abbrev MG := D → Sto → Option Sto
inductive Out where
  | nx | rt (d : D) | bk | ct
abbrev MS := Sto → Option (Out × Sto)
abbrev Mf := List SV → Option (D × Option (List D))

/-- the datum of a Bv as it stands | made to stand still -/
def look (s : Sto) : Bv → Option D
  | .dat d => some d
  | .slot j => match s[j]? with
    | some (.dat d) => some d
    | some (.own ds) => some (.lst ds)
    | some (.par ds) => some (.lst ds)
    | _ => none
def frz (s : Sto) : Bv → Option (D × Sto)
  | .dat d => some (d, s)
  | .slot j => match s[j]? with
    | some (.dat d) => some (d, s)
    | some (.own ds) => some (.lst ds, s.set j (.dat (.lst ds)))
    | _ => none
def frzs : Sto → List Bv → Option (List D × Sto)
  | s, [] => some ([], s)
  | s, b :: bs => (frz s b).bind fun r => (frzs r.2 bs).bind fun q => some (r.1 :: q.1, q.2)
def looks (s : Sto) : List Bv → Option (List D)
  | [] => some []
  | b :: bs => (look s b).bind fun d => (looks s bs).bind fun ds => some (d :: ds)
def D.scal : D → Bool
  | .non => true | .bl _ => true | .int _ => true | .str _ => true | _ => false
def D.seqL : D → Option (List D)
  | .lst ds => some ds | .fro ds => some ds | _ => none
def D.seqT : D → Option (List D)
  | .tup ds => some ds | _ => none

section
variable (K : PySem.W.Frag)
/-- the value of a datum that is just looked at: it stands still, or it is the list of a slot -/
def RepC (H Hb : Hp) (v : V) (d : D) : Prop := Rep K Hb v d ∨ ∃ l vs ds, v = .ref l ∧ d = .lst ds ∧ H l = some (.lst vs) ∧ RepL K Hb vs ds
def RepBs (σ : L2.St) (Hb : Hp) : List V → List Bv → Prop
  | [], [] => True
  | v :: vs, b :: bs => RepB K σ Hb v b ∧ RepBs σ Hb vs bs
  | _, _ => False
def RepCs (H Hb : Hp) : List V → List D → Prop
  | [], [] => True
  | v :: vs, d :: ds => RepC K H Hb v d ∧ RepCs H Hb vs ds
  | _, _ => False
def SndE (te : TE) (m : ME) : Prop := ∀ f σ H s Hb b s', Rw K f σ H s Hb → m s = some (b, s') → ∀ Q : VK, (∀ v H' Hb', Ex Hb Hb' → Rw K f σ H' s' Hb' → RepB K σ Hb' v b → Q v H') → te σ H Q
def SndT (tt : TT) (m : MT) : Prop := ∀ f σ H s Hb b s', Rw K f σ H s Hb → m s = some (b, s') → ∀ Q : Bool → Hp → Prop, (∀ H' Hb', Ex Hb Hb' → Rw K f σ H' s' Hb' → Q b H') → tt σ H Q
def SndA (ta : TA) (m : MA) : Prop := ∀ f σ H s Hb b s', Rw K f σ H s Hb → m s = some (b, s') → ∀ Q : List V → Hp → Prop, (∀ v H' Hb', Ex Hb Hb' → Rw K f σ H' s' Hb' → RepBs K σ Hb' v b → Q v H') → ta σ H Q
/-- a list that is new -/
structure NewL (f : Fr) (σ : L2.St) (H : Hp) (s : Sto) (Hb : Hp) (p : Addr) (ds : List D) : Prop where
  h0 : Hb p = none
  h1 : f.P p = none
  h2 : f.os ≠ some p
  h3 : ∃ vs, H p = some (.lst vs) ∧ RepL K Hb vs ds
  h5 : ∀ (j : Nat) (sv : SV), s[j]? = some sv → sv.owns = true → σ[j]? ≠ some (some (.ref p))
def SndF (te : TE) (m : MF) : Prop := ∀ f σ H s Hb b s', Rw K f σ H s Hb → m s = some (b, s') → ∀ Q : VK, (∀ p H' Hb', Ex Hb Hb' → Rw K f σ H' s' Hb' → NewL K f σ H' s' Hb' p b → Q (.ref p) H') → te σ H Q
def SndO (to : TO) (m : Sto → Option (Option Int × Sto)) : Prop := ∀ f σ H s Hb b s', Rw K f σ H s Hb → m s = some (b, s') → ∀ Q : Option Int → Hp → Prop, (∀ H' Hb', Ex Hb Hb' → Rw K f σ H' s' Hb' → Q b H') → to σ H Q
/-- an operation by values: r's answer is g's -/
def SndR (r : R2) (g : D → D → Option D) : Prop := ∀ H Hb v w x y z, Ex Hb H → RepC K H Hb v x → RepC K H Hb w y → g x y = some z → ∀ Q : VK, (∀ v', Rep K Hb v' z → Q v' H) → (∀ p o, H p = none → Rep K (upd Hb p o) (.ref p) z → Q (.ref p) (upd H p o)) → r v w H Q
def SndU (r : V → Hp → VK → Prop) (g : D → Option D) : Prop := ∀ H Hb v x z, Ex Hb H → RepC K H Hb v x → g x = some z → ∀ Q : VK, (∀ v', Rep K Hb v' z → Q v' H) → (∀ p o, H p = none → Rep K (upd Hb p o) (.ref p) z → Q (.ref p) (upd H p o)) → r v H Q
def SndC (r : List V → Hp → VK → Prop) (g : List D → Option D) : Prop := ∀ H Hb vs xs z, Ex Hb H → RepCs K H Hb vs xs → g xs = some z → ∀ Q : VK, (∀ v', Rep K Hb v' z → Q v' H) → (∀ p o, H p = none → Rep K (upd Hb p o) (.ref p) z → Q (.ref p) (upd H p o)) → r vs H Q
/-- .. whose answer is a new list -/
def SndRF (r : R2) (g : D → D → Option (List D)) : Prop := ∀ H Hb v w x y z, Ex Hb H → RepC K H Hb v x → RepC K H Hb w y → g x y = some z → ∀ Q : VK, (∀ p vs, H p = none → RepL K Hb vs z → Q (.ref p) (upd H p (.lst vs))) → r v w H Q
def SndCF (r : List V → Hp → VK → Prop) (g : List D → Option (List D)) : Prop := ∀ H Hb vs xs z, Ex Hb H → RepCs K H Hb vs xs → g xs = some z → ∀ Q : VK, (∀ p vs, H p = none → RepL K Hb vs z → Q (.ref p) (upd H p (.lst vs))) → r vs H Q
def SndSl (r : V → Option Int → Option Int → Hp → VK → Prop) (g : D → Option Int → Option Int → Option D) : Prop := ∀ H Hb v x lo hi z, Ex Hb H → RepC K H Hb v x → g x lo hi = some z → ∀ Q : VK, (∀ v', Rep K Hb v' z → Q v' H) → (∀ p o, H p = none → Rep K (upd Hb p o) (.ref p) z → Q (.ref p) (upd H p o)) → r v lo hi H Q
def SndSlF (r : V → Option Int → Option Int → Hp → VK → Prop) (g : D → Option Int → Option Int → Option (List D)) : Prop := ∀ H Hb v x lo hi z, Ex Hb H → RepC K H Hb v x → g x lo hi = some z → ∀ Q : VK, (∀ p vs, H p = none → RepL K Hb vs z → Q (.ref p) (upd H p (.lst vs))) → r v lo hi H Q
end
/-- a piece of the text, its reading, what it makes -/
structure PX (X : Cx) (e : Expr) (te : TE) (m : ME) : Prop where
  pe : PE X e te
  sn : SndE X.K te m
structure PXT (X : Cx) (e : Expr) (te : TT) (m : MT) : Prop where
  pe : PT X e te
  sn : SndT X.K te m
structure PXW (X : Cx) (e : Expr) (te : TT) (m : MT) : Prop where
  pe : PW X e te
  sn : SndT X.K te m
structure PXA (X : Cx) (es : List Expr) (ta : TA) (m : MA) : Prop where
  pe : PA X es ta
  sn : SndA X.K ta m
structure PXF (X : Cx) (e : Expr) (te : TE) (m : MF) : Prop where
  pe : PE X e te
  sn : SndF X.K te m
structure PXO (X : Cx) (e : Option Expr) (to : TO) (m : Sto → Option (Option Int × Sto)) : Prop where
  pe : PO X e to
  sn : SndO X.K to m

section
variable {K : PySem.W.Frag} {f : Fr} {σ : L2.St} {H H' Hb Hb' : Hp} {s s' : Sto}
theorem bnd {α β : Type} {o : Option α} {g : α → Option β} {z : β} (h : o.bind g = some z) : ∃ x, o = some x ∧ g x = some z := by
  cases o with
  | none => cases h
  | some x => exact ⟨x, rfl, h⟩
theorem Rep.sc {v : V} {d : D} (h : Rep K H v d) (hs : d.scal = true) (H2 : Hp) : Rep K H2 v d := by
  cases h with
  | non => exact .non
  | bl b => exact .bl b
  | int i => exact .int i
  | str x => exact .str x
  | tup _ _ => cases hs
  | lst _ _ => cases hs
  | fro _ _ => cases hs
  | ins _ _ _ => cases hs
theorem RepL.sc : ∀ {vs : List V} {ds : List D}, RepL K H vs ds → ds.all D.scal = true → ∀ H2 : Hp, RepL K H2 vs ds
  | _, _, .nil, _, _ => .nil
  | _, _, .cons a t, h, H2 => by
    rw [List.all_cons, Bool.and_eq_true] at h
    exact .cons (a.sc h.1 H2) (RepL.sc t h.2 H2)
theorem RepB.up {v : V} {b : Bv} (h : RepB K σ Hb v b) (e : Ex Hb Hb') : RepB K σ Hb' v b := by
  cases b with
  | dat d => exact Rep.up h e
  | slot j => exact h
theorem RepBs.up : ∀ {vs : List V} {bs : List Bv}, RepBs K σ Hb vs bs → Ex Hb Hb' → RepBs K σ Hb' vs bs
  | [], [], _, _ => trivial
  | _ :: _, _ :: _, h, e => ⟨h.1.up e, RepBs.up h.2 e⟩
  | [], _ :: _, h, _ => h.elim
  | _ :: _, [], h, _ => h.elim
theorem RepC.rep {v : V} {d : D} (h : RepC K H Hb v d) (e : Ex Hb H) : Rep K H v d := by
  rcases h with h | ⟨l, vs, ds, rfl, rfl, h1, h2⟩
  · exact h.up e
  · exact .lst h1 (h2.up e)
theorem look_ok (R : Rw K f σ H s Hb) {v : V} {b : Bv} {d : D} (h : RepB K σ Hb v b) (hl : look s b = some d) : RepC K H Hb v d := by
  cases b with
  | dat d0 =>
    cases hl
    exact .inl h
  | slot j =>
    have h : σ[j]? = some (some v) := h
    unfold look at hl
    cases q : s[j]? with
    | none => simp [q] at hl
    | some sv =>
      have k := R.ok j sv _ q h
      cases sv with
      | un => simp [q] at hl
      | dat d0 =>
        simp [q] at hl
        subst hl
        obtain ⟨v', e, r⟩ := k
        cases e
        exact .inl r
      | own ds =>
        simp [q] at hl
        subst hl
        obtain ⟨l, vs, e, _, _, _, h4, h5⟩ := k
        cases e
        exact .inr ⟨l, vs, ds, rfl, rfl, h4, h5⟩
      | par ds =>
        simp [q] at hl
        subst hl
        obtain ⟨l, vs, e, _, _, h4, h5⟩ := k
        cases e
        exact .inr ⟨l, vs, ds, rfl, rfl, h4, h5⟩
theorem looks_ok (R : Rw K f σ H s Hb) : ∀ {vs : List V} {bs : List Bv} {ds : List D}, RepBs K σ Hb vs bs → looks s bs = some ds → RepCs K H Hb vs ds
  | [], [], _, _, h => by cases h; trivial
  | v :: vs, b :: bs, ds, r, h => by
    obtain ⟨d, h1, h⟩ := bnd h
    obtain ⟨es, h2, h⟩ := bnd h
    cases h
    exact ⟨look_ok R r.1 h1, looks_ok R r.2 h2⟩
  | [], _ :: _, _, h, _ => h.elim
  | _ :: _, [], _, h, _ => h.elim
theorem frz_ok (R : Rw K f σ H s Hb) {v : V} {b : Bv} {d : D} (h : RepB K σ Hb v b) (hl : frz s b = some (d, s')) : ∃ Hb', Ex Hb Hb' ∧ Rw K f σ H s' Hb' ∧ Rep K Hb' v d := by
  cases b with
  | dat d0 =>
    cases hl
    exact ⟨Hb, Ex.refl _, R, h⟩
  | slot j =>
    have h : σ[j]? = some (some v) := h
    unfold frz at hl
    cases q : s[j]? with
    | none => simp [q] at hl
    | some sv =>
      cases sv with
      | un => simp [q] at hl
      | par ds => simp [q] at hl
      | dat d0 =>
        simp [q] at hl
        obtain ⟨rfl, rfl⟩ := hl
        obtain ⟨v', e, r⟩ := R.ok j _ _ q h
        cases e
        exact ⟨Hb, Ex.refl _, R, r⟩
      | own ds =>
        simp [q] at hl
        obtain ⟨rfl, rfl⟩ := hl
        obtain ⟨l, vs, h1, h2, e1, rp, R'⟩ := R.freeze q
        rw [h] at h1
        cases h1
        exact ⟨_, e1, R', rp⟩
theorem frzs_ok : ∀ {s : Sto} {Hb : Hp} {vs : List V} {bs : List Bv} {ds : List D} {s' : Sto}, Rw K f σ H s Hb → RepBs K σ Hb vs bs → frzs s bs = some (ds, s') → ∃ Hb', Ex Hb Hb' ∧ Rw K f σ H s' Hb' ∧ RepL K Hb' vs ds
  | s, Hb, [], [], _, _, R, _, h => by
    cases h
    exact ⟨Hb, Ex.refl _, R, .nil⟩
  | s, Hb, v :: vs, b :: bs, ds, s', R, r, h => by
    obtain ⟨x, h1, h⟩ := bnd h
    obtain ⟨y, h2, h⟩ := bnd h
    cases h
    obtain ⟨Hb1, e1, R1, r1⟩ := frz_ok R r.1 h1
    obtain ⟨Hb2, e2, R2, r2⟩ := frzs_ok R1 (r.2.up e1) h2
    exact ⟨Hb2, e1.trans e2, R2, .cons (r1.up e2) r2⟩
  | _, _, [], _ :: _, _, _, _, h, _ => h.elim
  | _, _, _ :: _, [], _, _, _, h, _ => h.elim
/-- a new list, not yet of any slot -/
theorem Rw.alloc (R : Rw K f σ H s Hb) {p : Addr} {vs : List V} {ds : List D} (h : H p = none) (r : RepL K Hb vs ds) : Rw K f σ (upd H p (.lst vs)) s Hb ∧ NewL K f σ (upd H p (.lst vs)) s Hb p ds := by
  obtain ⟨a, b, c⟩ := R.fresh h
  refine ⟨R.step (Ex.refl _) (R.hb.trans (Ex.new h)) (fun _ _ => rfl) (Ex.new h), a, b, c, ⟨vs, upd_same, r⟩, fun j sv g o e => ?_⟩
  have : ∃ es, sv.ls = some es := by cases sv <;> first | exact ⟨_, rfl⟩ | cases o
  obtain ⟨es, hes⟩ := this
  obtain ⟨l, ws, q1, _, _, q4, _⟩ := R.list g hes
  rw [q1] at e
  cases e
  rw [h] at q4
  cases q4
/-- .. stands still from here on -/
theorem Rw.still (R : Rw K f σ H s Hb) {p : Addr} {ds : List D} (N : NewL K f σ H s Hb p ds) : ∃ Hb', Ex Hb Hb' ∧ Rw K f σ H s Hb' ∧ Rep K Hb' (.ref p) (.lst ds) := by
  obtain ⟨h0, h1, h2, ⟨vs, h3, h4⟩, h5⟩ := N
  have e1 : Ex Hb (upd Hb p (.lst vs)) := Ex.new h0
  refine ⟨upd Hb p (.lst vs), e1, ⟨fun a u e => ?_, R.up.trans e1, fun a ha => ?_, R.kp, fun k hk => ?_, R.len, fun i sv o g1 g2 => ?_, R.dist⟩, .lst upd_same (h4.up e1)⟩
  · by_cases q : a = p
    · subst q
      rw [upd_same] at e
      cases e
      exact h3
    · rw [upd_ne q] at e
      exact R.hb a u e
  · rw [upd_ne (fun z => ha (by rw [z]; exact h1))]
    exact R.ag a ha
  · obtain ⟨k1, k2, k3⟩ := R.os k hk
    exact ⟨by rw [upd_ne (fun z => h2 (by rw [hk, z]))]; exact k1, k2, k3⟩
  · have k := R.ok i sv o g1 g2
    cases sv with
    | un => trivial
    | dat d =>
      obtain ⟨v, rfl, r⟩ := k
      exact ⟨v, rfl, r.up e1⟩
    | own d0 =>
      obtain ⟨l2, vs2, rfl, a1, a2, a3, a4, a5⟩ := k
      have ne : l2 ≠ p := fun z => h5 i _ g1 rfl (by rw [g2, z])
      exact ⟨l2, vs2, rfl, by rw [upd_ne ne]; exact a1, a2, a3, a4, a5.up e1⟩
    | par d0 =>
      obtain ⟨l2, vs2, rfl, a1, a2, a4, a5⟩ := k
      have ne : l2 ≠ p := fun z => h5 i _ g1 rfl (by rw [g2, z])
      exact ⟨l2, vs2, rfl, by rw [upd_ne ne]; exact a1, a2, a4, a5.up e1⟩
theorem RepC.seqL {v : V} {d : D} {ds : List D} (h : RepC K H Hb v d) (e : Ex Hb H) (hd : d.seqL = some ds) : ∃ l vs, v = .ref l ∧ SqL K H l vs ∧ RepL K Hb vs ds := by
  rcases h with h | ⟨l, vs, es, rfl, rfl, h1, h2⟩
  · cases h with
    | lst a b => cases hd; exact ⟨_, _, rfl, ex_l e (sq_of a), b⟩
    | fro a b => cases hd; exact ⟨_, _, rfl, ex_l e a, b⟩
    | _ => cases hd
  · cases hd
    exact ⟨l, vs, rfl, sq_of h1, h2⟩
theorem RepC.lst {v : V} {ds : List D} (h : RepC K H Hb v (.lst ds)) (e : Ex Hb H) : ∃ l vs, v = .ref l ∧ H l = some (.lst vs) ∧ RepL K Hb vs ds := by
  rcases h with h | ⟨l, vs, es, rfl, q, h1, h2⟩
  · cases h with
    | lst a b => exact ⟨_, _, rfl, e _ _ a, b⟩
  · cases q
    exact ⟨l, vs, rfl, h1, h2⟩
theorem RepC.tup {v : V} {ds : List D} (h : RepC K H Hb v (.tup ds)) (e : Ex Hb H) : ∃ l vs, v = .ref l ∧ SqT K H l vs ∧ RepL K Hb vs ds := by
  rcases h with h | ⟨l, vs, es, rfl, q, h1, h2⟩
  · cases h with
    | tup a b => exact ⟨_, _, rfl, ex_t e a, b⟩
  · cases q
theorem RepC.int {v : V} {i : Int} (h : RepC K H Hb v (.int i)) : v = .int i := by
  rcases h with h | ⟨l, vs, es, rfl, q, h1, h2⟩
  · cases h; rfl
  · cases q
theorem RepC.bl {v : V} {i : Bool} (h : RepC K H Hb v (.bl i)) : v = .bl i := by
  rcases h with h | ⟨l, vs, es, rfl, q, h1, h2⟩
  · cases h; rfl
  · cases q
theorem RepC.of (h : Rep K Hb v d) : RepC K H Hb v d := .inl h
end
end Mi

namespace Mi
open PySem PySem.Spec PyProof.Rows L2 Evl

/-! ### what the pieces make of a store -/
def mVar (i : Nat) : ME := fun s => match s[i]? with
  | some (.dat d) => some (.dat d, s)
  | some (.own _) => some (.slot i, s)
  | some (.par _) => some (.slot i, s)
  | _ => none
def mC (d : D) : ME := fun s => some (.dat d, s)
def mBin (g : D → D → Option D) (ma mb : ME) : ME := fun s =>
  (ma s).bind fun a => (mb a.2).bind fun b => (look b.2 a.1).bind fun x => (look b.2 b.1).bind fun y => (g x y).bind fun z => some (.dat z, b.2)
def mUn (g : D → Option D) (ma : ME) : ME := fun s => (ma s).bind fun a => (look a.2 a.1).bind fun x => (g x).bind fun z => some (.dat z, a.2)
def mBinF (g : D → D → Option (List D)) (ma mb : ME) : MF := fun s =>
  (ma s).bind fun a => (mb a.2).bind fun b => (look b.2 a.1).bind fun x => (look b.2 b.1).bind fun y => (g x y).bind fun z => some (z, b.2)
def aNil : MA := fun s => some ([], s)
def aCons (ma : ME) (mr : MA) : MA := fun s => (ma s).bind fun a => (mr a.2).bind fun r => some (a.1 :: r.1, r.2)
def mBi (g : List D → Option D) (ma : MA) : ME := fun s => (ma s).bind fun a => (looks a.2 a.1).bind fun xs => (g xs).bind fun z => some (.dat z, a.2)
def mBiF (g : List D → Option (List D)) (ma : MA) : MF := fun s => (ma s).bind fun a => (looks a.2 a.1).bind fun xs => (g xs).bind fun z => some (z, a.2)
def mTup (ma : MA) : ME := fun s => (ma s).bind fun a => (frzs a.2 a.1).bind fun q => if q.1.length ≤ 16000000 then some (.dat (.tup q.1), q.2) else none
def mLst (ma : MA) : MF := fun s => (ma s).bind fun a => (frzs a.2 a.1).bind fun q => if q.1.length ≤ 16000000 then some (q.1, q.2) else none
/-- a new list, as a datum -/
def mF (mf : MF) : ME := fun s => (mf s).bind fun q => some (.dat (.lst q.1), q.2)
def mIfE (mt : MT) (ma mb : ME) : ME := fun s => (mt s).bind fun c => if c.1 = true then ma c.2 else mb c.2
def mTest (ma : ME) : MT := fun s => (ma s).bind fun a => match a.1 with
  | .dat (.bl b) => some (b, a.2)
  | _ => none
def truD : D → Bool
  | .non => false | .bl b => b | .int i => i != 0 | .tup ds => !ds.isEmpty | .lst ds => !ds.isEmpty | .fro ds => !ds.isEmpty | _ => true
def D.hasTru : D → Bool
  | .non => true | .bl _ => true | .int _ => true | .tup _ => true | .lst _ => true | .fro _ => true | _ => false
def mTru (ma : ME) : MT := fun s => (ma s).bind fun a => (look a.2 a.1).bind fun d => if d.hasTru = true then some (truD d, a.2) else none
def mAnd (ma mb : MT) : MT := fun s => (ma s).bind fun a => if a.1 = true then mb a.2 else some (false, a.2)
def mOr (ma mb : MT) : MT := fun s => (ma s).bind fun a => if a.1 = true then some (true, a.2) else mb a.2
def mNot (ma : MT) : MT := fun s => (ma s).bind fun a => some (!a.1, a.2)
def mAndV (ma mb : ME) : ME := fun s => (mTest ma s).bind fun a => if a.1 = true then mb a.2 else some (.dat (.bl false), a.2)
def mOrV (ma mb : ME) : ME := fun s => (mTest ma s).bind fun a => if a.1 = true then some (.dat (.bl true), a.2) else mb a.2
def mNotV (ma : ME) : ME := fun s => (mTest ma s).bind fun a => some (.dat (.bl (!a.1)), a.2)
def oNone : Sto → Option (Option Int × Sto) := fun s => some (none, s)
def oSome (ma : ME) : Sto → Option (Option Int × Sto) := fun s => (ma s).bind fun a => match a.1 with
  | .dat (.int i) => some (some i, a.2)
  | _ => none
def mSl (g : D → Option Int → Option Int → Option D) (ma : ME) (ml mh : Sto → Option (Option Int × Sto)) : ME := fun s =>
  (ma s).bind fun a => (ml a.2).bind fun l => (mh l.2).bind fun h => (look h.2 a.1).bind fun x => (g x l.1 h.1).bind fun z => some (.dat z, h.2)
def mSlF (g : D → Option Int → Option Int → Option (List D)) (ma : ME) (ml mh : Sto → Option (Option Int × Sto)) : MF := fun s =>
  (ma s).bind fun a => (ml a.2).bind fun l => (mh l.2).bind fun h => (look h.2 a.1).bind fun x => (g x l.1 h.1).bind fun z => some (z, h.2)

/-! ### they are what the readings say -/
section
variable {K : PySem.W.Frag} {ta tb te : TE} {ma mb : ME} {r : R2} {t u : TT} {mt mu : MT} {tas : TA} {mas : MA}
theorem snd_var (i : Nat) : SndE K (tVar i) (mVar i) := by
  intro f σ H s Hb b s' R h Q q
  unfold mVar at h
  cases e : s[i]? with
  | none => simp [e] at h
  | some sv =>
    obtain ⟨o, ho, k⟩ := R.slot e
    cases sv with
    | un => simp [e] at h
    | dat d =>
      simp [e] at h
      obtain ⟨rfl, rfl⟩ := h
      obtain ⟨v, rfl, r⟩ := k
      exact ⟨v, ho, q v H Hb (Ex.refl _) R r⟩
    | own ds =>
      simp [e] at h
      obtain ⟨rfl, rfl⟩ := h
      obtain ⟨l, vs, rfl, _⟩ := k
      exact ⟨_, ho, q _ H Hb (Ex.refl _) R ho⟩
    | par ds =>
      simp [e] at h
      obtain ⟨rfl, rfl⟩ := h
      obtain ⟨l, vs, rfl, _⟩ := k
      exact ⟨_, ho, q _ H Hb (Ex.refl _) R ho⟩
theorem snd_c {v : V} {d : D} (hr : ∀ Hb : Hp, Rep K Hb v d) : SndE K (tC v) (mC d) := by
  intro f σ H s Hb b s' R h Q q
  cases h
  exact q v H Hb (Ex.refl _) R (hr Hb)
theorem snd_bin {g : D → D → Option D} (hr : SndR K r g) (ha : SndE K ta ma) (hb : SndE K tb mb) : SndE K (tOp r ta tb) (mBin g ma mb) := by
  intro f σ H s Hb b s' R h Q q
  obtain ⟨a, h1, h⟩ := bnd h
  obtain ⟨b, h2, h⟩ := bnd h
  obtain ⟨x, h3, h⟩ := bnd h
  obtain ⟨y, h4, h⟩ := bnd h
  obtain ⟨z, h5, h⟩ := bnd h
  cases h
  refine ha f σ H s Hb _ _ R h1 _ fun v H1 Hb1 e1 R1 r1 => hb f σ H1 _ Hb1 _ _ R1 h2 _ fun w H2 Hb2 e2 R2 r2 => ?_
  exact hr H2 Hb2 v w x y _ R2.hb (look_ok R2 (r1.up e2) h3) (look_ok R2 r2 h4) h5 _ (fun v' rv => q v' H2 Hb2 (e1.trans e2) R2 rv)
    fun p o hp rp => q _ _ _ ((e1.trans e2).trans (R2.new o hp).1) (R2.new o hp).2 rp
theorem snd_binF {g : D → D → Option (List D)} (hr : SndRF K r g) (ha : SndE K ta ma) (hb : SndE K tb mb) : SndF K (tOp r ta tb) (mBinF g ma mb) := by
  intro f σ H s Hb b s' R h Q q
  obtain ⟨a, h1, h⟩ := bnd h
  obtain ⟨b, h2, h⟩ := bnd h
  obtain ⟨x, h3, h⟩ := bnd h
  obtain ⟨y, h4, h⟩ := bnd h
  obtain ⟨z, h5, h⟩ := bnd h
  cases h
  refine ha f σ H s Hb _ _ R h1 _ fun v H1 Hb1 e1 R1 r1 => hb f σ H1 _ Hb1 _ _ R1 h2 _ fun w H2 Hb2 e2 R2 r2 => ?_
  exact hr H2 Hb2 v w x y _ R2.hb (look_ok R2 (r1.up e2) h3) (look_ok R2 r2 h4) h5 _ fun p vs hp rp => q _ _ _ (e1.trans e2) (R2.alloc hp rp).1 (R2.alloc hp rp).2
theorem snd_un {r : V → Hp → VK → Prop} {g : D → Option D} (hr : SndU K r g) (ha : SndE K ta ma) : SndE K (tUn r ta) (mUn g ma) := by
  intro f σ H s Hb b s' R h Q q
  obtain ⟨a, h1, h⟩ := bnd h
  obtain ⟨x, h3, h⟩ := bnd h
  obtain ⟨z, h5, h⟩ := bnd h
  cases h
  refine ha f σ H s Hb _ _ R h1 _ fun v H1 Hb1 e1 R1 r1 => ?_
  exact hr H1 Hb1 v x _ R1.hb (look_ok R1 r1 h3) h5 _ (fun v' rv => q v' H1 Hb1 e1 R1 rv) fun p o hp rp => q _ _ _ (e1.trans (R1.new o hp).1) (R1.new o hp).2 rp
theorem snd_nil : SndA K tNil aNil := by
  intro f σ H s Hb b s' R h Q q
  cases h
  exact q [] H Hb (Ex.refl _) R trivial
theorem snd_cons (ha : SndE K ta ma) (hr : SndA K tas mas) : SndA K (tCons ta tas) (aCons ma mas) := by
  intro f σ H s Hb b s' R h Q q
  obtain ⟨a, h1, h⟩ := bnd h
  obtain ⟨b, h2, h⟩ := bnd h
  cases h
  refine ha f σ H s Hb _ _ R h1 _ fun v H1 Hb1 e1 R1 r1 => hr f σ H1 _ Hb1 _ _ R1 h2 _ fun vs H2 Hb2 e2 R2 r2 => ?_
  exact q _ H2 Hb2 (e1.trans e2) R2 ⟨r1.up e2, r2⟩
theorem snd_bi {r : List V → Hp → VK → Prop} {g : List D → Option D} (hr : SndC K r g) (ha : SndA K tas mas) : SndE K (tCB r tas) (mBi g mas) := by
  intro f σ H s Hb b s' R h Q q
  obtain ⟨a, h1, h⟩ := bnd h
  obtain ⟨x, h3, h⟩ := bnd h
  obtain ⟨z, h5, h⟩ := bnd h
  cases h
  refine ha f σ H s Hb _ _ R h1 _ fun v H1 Hb1 e1 R1 r1 => ?_
  exact hr H1 Hb1 v x _ R1.hb (looks_ok R1 r1 h3) h5 _ (fun v' rv => q v' H1 Hb1 e1 R1 rv) fun p o hp rp => q _ _ _ (e1.trans (R1.new o hp).1) (R1.new o hp).2 rp
theorem snd_biF {r : List V → Hp → VK → Prop} {g : List D → Option (List D)} (hr : SndCF K r g) (ha : SndA K tas mas) : SndF K (tCB r tas) (mBiF g mas) := by
  intro f σ H s Hb b s' R h Q q
  obtain ⟨a, h1, h⟩ := bnd h
  obtain ⟨x, h3, h⟩ := bnd h
  obtain ⟨z, h5, h⟩ := bnd h
  cases h
  refine ha f σ H s Hb _ _ R h1 _ fun v H1 Hb1 e1 R1 r1 => ?_
  exact hr H1 Hb1 v x _ R1.hb (looks_ok R1 r1 h3) h5 _ fun p vs hp rp => q _ _ _ e1 (R1.alloc hp rp).1 (R1.alloc hp rp).2
theorem lim_le {n : Nat} (h : n ≤ 16000000) : n ≤ sizeLine := by rw [sizeLine_eq]; omega
theorem lim_lt {n : Nat} (h : n < 16000000) : n < sizeLine := by rw [sizeLine_eq]; omega
theorem snd_tup (ha : SndA K tas mas) : SndE K (tTup tas) (mTup mas) := by
  intro f σ H s Hb b s' R h Q q
  obtain ⟨a, h1, h⟩ := bnd h
  obtain ⟨x, h3, h⟩ := bnd h
  split at h
  · next hl =>
    cases h
    refine ha f σ H s Hb _ _ R h1 _ fun v H1 Hb1 e1 R1 r1 => ?_
    obtain ⟨Hb2, e2, R2, r2⟩ := frzs_ok R1 r1 h3
    refine ⟨lim_le (by rw [r2.len]; exact hl), fun p hp => ?_⟩
    have n := R2.new (.tup v) hp
    exact q _ _ _ ((e1.trans e2).trans n.1) n.2 (.tup (st_of upd_same) (r2.up n.1))
  · cases h
theorem snd_lst (ha : SndA K tas mas) : SndF K (tLst tas) (mLst mas) := by
  intro f σ H s Hb b s' R h Q q
  obtain ⟨a, h1, h⟩ := bnd h
  obtain ⟨x, h3, h⟩ := bnd h
  split at h
  · next hl =>
    cases h
    refine ha f σ H s Hb _ _ R h1 _ fun v H1 Hb1 e1 R1 r1 => ?_
    obtain ⟨Hb2, e2, R2, r2⟩ := frzs_ok R1 r1 h3
    refine ⟨lim_le (by rw [r2.len]; exact hl), fun p hp => ?_⟩
    exact q _ _ _ (e1.trans e2) (R2.alloc hp r2).1 (R2.alloc hp r2).2
  · cases h
theorem snd_F {mf : MF} (h : SndF K te mf) : SndE K te (mF mf) := by
  intro f σ H s Hb b s' R hm Q q
  obtain ⟨x, h1, hm⟩ := bnd hm
  cases hm
  refine h f σ H s Hb _ _ R h1 _ fun p H1 Hb1 e1 R1 n => ?_
  obtain ⟨Hb2, e2, R2, r2⟩ := R1.still n
  exact q _ _ _ (e1.trans e2) R2 r2
theorem snd_ifE (ht : SndT K t mt) (ha : SndE K ta ma) (hb : SndE K tb mb) : SndE K (tIf t ta tb) (mIfE mt ma mb) := by
  intro f σ H s Hb b s' R h Q q
  obtain ⟨c, h1, h⟩ := bnd h
  refine ht f σ H s Hb _ _ R h1 _ fun H1 Hb1 e1 R1 => ?_
  by_cases hc : c.1 = true
  · rw [if_pos hc] at h ⊢
    exact ha f σ H1 _ Hb1 _ _ R1 h _ fun v H2 Hb2 e2 R2 r2 => q v H2 Hb2 (e1.trans e2) R2 r2
  · rw [if_neg hc] at h ⊢
    exact hb f σ H1 _ Hb1 _ _ R1 h _ fun v H2 Hb2 e2 R2 r2 => q v H2 Hb2 (e1.trans e2) R2 r2
theorem mTest_of {s : Sto} {b : Bool} {s' : Sto} (h : mTest ma s = some (b, s')) : ma s = some (.dat (.bl b), s') := by
  obtain ⟨a, h1, h⟩ := bnd h
  obtain ⟨a1, a2⟩ := a
  cases a1 with
  | slot j => cases h
  | dat d =>
    cases d with
    | bl c => cases h; exact h1
    | _ => cases h
theorem snd_test (ha : SndE K ta ma) : SndT K (tTest ta) (mTest ma) := by
  intro f σ H s Hb b s' R h Q q
  refine ha f σ H s Hb _ _ R (mTest_of h) _ fun v H1 Hb1 e1 R1 r1 => ?_
  cases r1
  exact ⟨b, rfl, q H1 Hb1 e1 R1⟩
theorem snd_B (ha : SndE K ta ma) : SndT K (tB ta) (mTest ma) := by
  intro f σ H s Hb b s' R h Q q
  refine ha f σ H s Hb _ _ R (mTest_of h) _ fun v H1 Hb1 e1 R1 r1 => ?_
  cases r1
  exact ⟨b, rfl, q H1 Hb1 e1 R1⟩
theorem RepL.emp {H : Hp} {vs : List V} {ds : List D} (r : RepL K H vs ds) : vs.isEmpty = ds.isEmpty := by cases r <;> rfl
theorem tru_of {H Hb : Hp} {v : V} {d : D} (e : Ex Hb H) (r : RepC K H Hb v d) (h : d.hasTru = true) : TruV K v H (truD d) := by
  cases d with
  | non =>
    rcases r with r | ⟨_, _, _, _, z, _⟩
    · cases r; rfl
    · cases z
  | bl b => rw [r.bl]; rfl
  | int i => rw [r.int]; rfl
  | tup ds =>
    obtain ⟨l, vs, rfl, h1, h2⟩ := r.tup e
    exact .inr (.inl ⟨vs, h1, by rw [h2.emp]; rfl⟩)
  | lst ds =>
    obtain ⟨l, vs, rfl, h1, h2⟩ := r.seqL e rfl
    exact .inl ⟨vs, h1, by rw [h2.emp]; rfl⟩
  | fro ds =>
    obtain ⟨l, vs, rfl, h1, h2⟩ := r.seqL e rfl
    exact .inl ⟨vs, h1, by rw [h2.emp]; rfl⟩
  | str x => cases h
  | ins _ _ _ => cases h
theorem snd_tru (ha : SndE K ta ma) : SndT K (fun σ H Q => ta σ H fun x H' => ∃ k, TruV K x H' k ∧ Q k H') (mTru ma) := by
  intro f σ H s Hb b s' R h Q q
  obtain ⟨a, h1, h⟩ := bnd h
  obtain ⟨d, h2, h⟩ := bnd h
  split at h
  · next hd =>
    cases h
    refine ha f σ H s Hb _ _ R h1 _ fun v H1 Hb1 e1 R1 r1 => ?_
    exact ⟨_, tru_of R1.hb (look_ok R1 r1 h2) hd, q H1 Hb1 e1 R1⟩
  · cases h
theorem snd_and (ha : SndT K t mt) (hb : SndT K u mu) : SndT K (tAnd t u) (mAnd mt mu) := by
  intro f σ H s Hb b s' R h Q q
  obtain ⟨c, h1, h⟩ := bnd h
  refine ha f σ H s Hb _ _ R h1 _ fun H1 Hb1 e1 R1 => ?_
  by_cases hc : c.1 = true
  · rw [if_pos hc] at h ⊢
    exact hb f σ H1 _ Hb1 _ _ R1 h _ fun H2 Hb2 e2 R2 => q H2 Hb2 (e1.trans e2) R2
  · rw [if_neg hc] at h ⊢
    cases h
    exact q _ _ e1 R1
theorem snd_or (ha : SndT K t mt) (hb : SndT K u mu) : SndT K (tOr t u) (mOr mt mu) := by
  intro f σ H s Hb b s' R h Q q
  obtain ⟨c, h1, h⟩ := bnd h
  refine ha f σ H s Hb _ _ R h1 _ fun H1 Hb1 e1 R1 => ?_
  by_cases hc : c.1 = true
  · rw [if_pos hc] at h ⊢
    cases h
    exact q _ _ e1 R1
  · rw [if_neg hc] at h ⊢
    exact hb f σ H1 _ Hb1 _ _ R1 h _ fun H2 Hb2 e2 R2 => q H2 Hb2 (e1.trans e2) R2
theorem snd_not (ha : SndT K t mt) : SndT K (tNot t) (mNot mt) := by
  intro f σ H s Hb b s' R h Q q
  obtain ⟨c, h1, h⟩ := bnd h
  cases h
  exact ha f σ H s Hb _ _ R h1 _ fun H1 Hb1 e1 R1 => q _ _ e1 R1
theorem snd_andV (ha : SndE K ta ma) (hb : SndE K tb mb) : SndE K (tAndV ta tb) (mAndV ma mb) := by
  intro f σ H s Hb b s' R h Q q
  obtain ⟨c, h1, h⟩ := bnd h
  refine ha f σ H s Hb _ _ R (mTest_of h1) _ fun v H1 Hb1 e1 R1 r1 => ?_
  cases r1
  refine ⟨c.1, rfl, ?_⟩
  by_cases hc : c.1 = true
  · rw [if_pos hc] at h ⊢
    exact hb f σ H1 _ Hb1 _ _ R1 h _ fun v H2 Hb2 e2 R2 r2 => q v H2 Hb2 (e1.trans e2) R2 r2
  · rw [if_neg hc] at h ⊢
    cases h
    exact q _ _ _ e1 R1 (.bl false)
theorem snd_orV (ha : SndE K ta ma) (hb : SndE K tb mb) : SndE K (tOrV ta tb) (mOrV ma mb) := by
  intro f σ H s Hb b s' R h Q q
  obtain ⟨c, h1, h⟩ := bnd h
  refine ha f σ H s Hb _ _ R (mTest_of h1) _ fun v H1 Hb1 e1 R1 r1 => ?_
  cases r1
  refine ⟨c.1, rfl, ?_⟩
  by_cases hc : c.1 = true
  · rw [if_pos hc] at h ⊢
    cases h
    exact q _ _ _ e1 R1 (.bl true)
  · rw [if_neg hc] at h ⊢
    exact hb f σ H1 _ Hb1 _ _ R1 h _ fun v H2 Hb2 e2 R2 r2 => q v H2 Hb2 (e1.trans e2) R2 r2
theorem snd_notV (ha : SndE K ta ma) : SndE K (tNotV ta) (mNotV ma) := by
  intro f σ H s Hb b s' R h Q q
  obtain ⟨c, h1, h⟩ := bnd h
  cases h
  refine ha f σ H s Hb _ _ R (mTest_of h1) _ fun v H1 Hb1 e1 R1 r1 => ?_
  cases r1
  exact ⟨c.1, rfl, q _ _ _ e1 R1 (.bl _)⟩
theorem snd_oNone : SndO K tNoPart oNone := by
  intro f σ H s Hb b s' R h Q q
  cases h
  exact q H Hb (Ex.refl _) R
theorem snd_oSome (ha : SndE K ta ma) : SndO K (tPart ta) (oSome ma) := by
  intro f σ H s Hb b s' R h Q q
  obtain ⟨a, h1, h⟩ := bnd h
  obtain ⟨a1, a2⟩ := a
  cases a1 with
  | slot j => cases h
  | dat d =>
    cases d with
    | int i =>
      cases h
      refine ha f σ H s Hb _ _ R h1 _ fun v H1 Hb1 e1 R1 r1 => ?_
      cases r1
      exact ⟨i, rfl, q _ _ e1 R1⟩
    | _ => cases h
theorem snd_sl {r : V → Option Int → Option Int → Hp → VK → Prop} {g : D → Option Int → Option Int → Option D} {tl th : TO} {ml mh : Sto → Option (Option Int × Sto)} (hr : SndSl K r g) (ha : SndE K ta ma) (hl : SndO K tl ml) (hh : SndO K th mh) : SndE K (tSl r ta tl th) (mSl g ma ml mh) := by
  intro f σ H s Hb b s' R h Q q
  obtain ⟨a, h1, h⟩ := bnd h
  obtain ⟨b, h2, h⟩ := bnd h
  obtain ⟨c, h3, h⟩ := bnd h
  obtain ⟨x, h4, h⟩ := bnd h
  obtain ⟨z, h5, h⟩ := bnd h
  cases h
  refine ha f σ H s Hb _ _ R h1 _ fun v H1 Hb1 e1 R1 r1 => hl f σ H1 _ Hb1 _ _ R1 h2 _ fun H2 Hb2 e2 R2 => hh f σ H2 _ Hb2 _ _ R2 h3 _ fun H3 Hb3 e3 R3 => ?_
  exact hr H3 Hb3 v x _ _ _ R3.hb (look_ok R3 (r1.up (e2.trans e3)) h4) h5 _ (fun v' rv => q v' H3 Hb3 ((e1.trans e2).trans e3) R3 rv)
    fun p o hp rp => q _ _ _ (((e1.trans e2).trans e3).trans (R3.new o hp).1) (R3.new o hp).2 rp
theorem snd_slF {r : V → Option Int → Option Int → Hp → VK → Prop} {g : D → Option Int → Option Int → Option (List D)} {tl th : TO} {ml mh : Sto → Option (Option Int × Sto)} (hr : SndSlF K r g) (ha : SndE K ta ma) (hl : SndO K tl ml) (hh : SndO K th mh) : SndF K (tSl r ta tl th) (mSlF g ma ml mh) := by
  intro f σ H s Hb b s' R h Q q
  obtain ⟨a, h1, h⟩ := bnd h
  obtain ⟨b, h2, h⟩ := bnd h
  obtain ⟨c, h3, h⟩ := bnd h
  obtain ⟨x, h4, h⟩ := bnd h
  obtain ⟨z, h5, h⟩ := bnd h
  cases h
  refine ha f σ H s Hb _ _ R h1 _ fun v H1 Hb1 e1 R1 r1 => hl f σ H1 _ Hb1 _ _ R1 h2 _ fun H2 Hb2 e2 R2 => hh f σ H2 _ Hb2 _ _ R2 h3 _ fun H3 Hb3 e3 R3 => ?_
  exact hr H3 Hb3 v x _ _ _ R3.hb (look_ok R3 (r1.up (e2.trans e3)) h4) h5 _ fun p vs hp rp => q _ _ _ ((e1.trans e2).trans e3) (R3.alloc hp rp).1 (R3.alloc hp rp).2
end
end Mi

namespace Mi
open PySem PySem.Spec PyProof.Rows L2 Evl

/-! ### operations by data -/
def addD : D → D → Option D
  | .int i, .int j => some (.int (i + j))
  | .lst a, .lst b => if a.length + b.length ≤ 16000000 then some (.lst (a ++ b)) else none
  | .tup a, .tup b => if a.length + b.length ≤ 16000000 then some (.tup (a ++ b)) else none
  | _, _ => none
def catF : D → D → Option (List D)
  | .lst a, .lst b => if a.length + b.length ≤ 16000000 then some (a ++ b) else none
  | _, _ => none
def intOp (g : Int → Int → Option Int) : D → D → Option D
  | .int i, .int j => (g i j).bind fun k => some (.int k)
  | _, _ => none
def subI : Int → Int → Option Int := fun i j => some (i - j)
def fdivI : Int → Int → Option Int := fun i j => if 0 < j ∧ j < 1073741824 then some (i / j) else none
def modI : Int → Int → Option Int := fun i j => if 0 < j then some (i % j) else none
def powI : Int → Int → Option Int := fun i j => if 0 ≤ j ∧ j ≤ 1000000 ∧ i.natAbs < 18446744073709551616 then some (i ^ j.toNat) else none
def shlI : Int → Int → Option Int := fun i j => if 0 ≤ j ∧ j ≤ 1000000 ∧ i.natAbs < 18446744073709551616 then some (i * 2 ^ j.toNat) else none
def shrI : Int → Int → Option Int := fun i j => if 0 ≤ j then some (i / 2 ^ j.toNat) else none
def andI : Int → Int → Option Int := fun i j => some (Builtin.bitAnd i j)
def orI : Int → Int → Option Int := fun i j => some (Builtin.bitOr i j)
def xorI : Int → Int → Option Int := fun i j => some (Builtin.bitXor i j)
def mulD : D → D → Option D
  | .int i, .int j => if (-18446744073709551616 < i ∧ i < 18446744073709551616) ∨ (-18446744073709551616 < j ∧ j < 18446744073709551616) then some (.int (i * j)) else none
  | .lst a, .int k => if -9223372036854775808 ≤ k ∧ k < 9223372036854775808 ∧ a.length * k.toNat ≤ 16000000 then some (.lst (List.replicate k.toNat a).flatten) else none
  | .tup a, .int k => if a ≠ [] ∧ 2 ≤ k ∧ k ≤ 1000 ∧ a.length ≤ 1000 then some (.tup (List.replicate k.toNat a).flatten) else none
  | _, _ => none
def repF : D → D → Option (List D)
  | .lst a, .int k => if -9223372036854775808 ≤ k ∧ k < 9223372036854775808 ∧ a.length * k.toNat ≤ 16000000 then some (List.replicate k.toNat a).flatten else none
  | _, _ => none
def cmpI (g : Int → Int → Bool) : D → D → Option D
  | .int i, .int j => some (.bl (g i j))
  | _, _ => none
def ltI : Int → Int → Bool := fun i j => decide (i < j)
def leI : Int → Int → Bool := fun i j => decide (i ≤ j)
def gtI : Int → Int → Bool := fun i j => decide (j < i)
def geI : Int → Int → Bool := fun i j => decide (j ≤ i)
mutual
def D.py : D → PyData
  | .non => .none | .bl b => .bool b | .int i => .int i | .str x => .str x | .tup ds => .tuple (D.pys ds) | .lst ds => .list (D.pys ds) | .fro ds => .list (D.pys ds) | .ins _ _ _ => .dict []
def D.pys : List D → List PyData
  | [] => []
  | d :: ds => d.py :: D.pys ds
end
mutual
theorem dp_of {K : PySem.W.Frag} {H : Hp} : ∀ (d : D) (v : V), Rep K H v d → d.py.canLay0 = true → Dp K H v d.py
  | .non, _, h, _ => by cases h; exact .non
  | .bl b, _, h, _ => by cases h; exact .bl b
  | .int i, _, h, _ => by cases h; exact .int i
  | .str x, _, h, _ => by cases h; exact .str x
  | .tup ds, _, h, c => by cases h with | tup a b => exact .tup a (dps_of ds _ b (by simpa [D.py, PyData.canLay0] using c))
  | .lst ds, _, h, c => by cases h with | lst a b => exact .lst (sq_of a) (dps_of ds _ b (by simpa [D.py, PyData.canLay0] using c))
  | .fro ds, _, h, c => by cases h with | fro a b => exact .lst a (dps_of ds _ b (by simpa [D.py, PyData.canLay0] using c))
  | .ins C ns ds, _, h, c => by simp [D.py, PyData.canLay0] at c
theorem dps_of {K : PySem.W.Frag} {H : Hp} : ∀ (ds : List D) (vs : List V), RepL K H vs ds → PyData.canLayAll0 (D.pys ds) = true → DpAll K H vs (D.pys ds)
  | [], _, h, _ => by cases h; exact .nil
  | d :: ds, _, h, c => by
    cases h with
    | cons a b =>
      have c' : d.py.canLay0 = true ∧ PyData.canLayAll0 (D.pys ds) = true := by simpa [D.pys, PyData.canLayAll0] using c
      exact .cons (dp_of d _ a c'.1) (dps_of ds _ b c'.2)
end
def eqD (x y : D) : Option D := if SeqAt.shaped x.py = true ∧ SeqAt.shaped y.py = true then some (.bl (PyData.eqv x.py y.py)) else none
def neD (x y : D) : Option D := if SeqAt.shaped x.py = true ∧ SeqAt.shaped y.py = true then some (.bl (!PyData.eqv x.py y.py)) else none
def D.isN : D → Bool
  | .non => true | _ => false
def isD (x y : D) : Option D := match y with
  | .non => some (.bl x.isN)
  | _ => none
def isnD (x y : D) : Option D := match y with
  | .non => some (.bl (!x.isN))
  | _ => none
def D.seq : D → Option (List D)
  | .lst ds => some ds | .fro ds => some ds | .tup ds => some ds | _ => none
def ixD (x y : D) : Option D := match y with
  | .int i => x.seq.bind fun ds => atI ds i
  | _ => none
def cutG {α : Type} (xs : List α) (lo hi : Option Int) : List α := (xs.drop (HT.sIx xs.length 0 lo)).take (HT.sIx xs.length xs.length hi - HT.sIx xs.length 0 lo)
def slD (x : D) (lo hi : Option Int) : Option D := match x with
  | .tup ds => some (.tup (cutG ds lo hi))
  | .lst ds => some (.lst (cutG ds lo hi))
  | .fro ds => some (.lst (cutG ds lo hi))
  | _ => none
def slF (x : D) (lo hi : Option Int) : Option (List D) := match x with
  | .lst ds => some (cutG ds lo hi)
  | .fro ds => some (cutG ds lo hi)
  | _ => none
def negD : D → Option D
  | .int i => some (.int (-i)) | _ => none
def lenD : List D → Option D
  | [x] => x.seq.bind fun ds => some (.int (ds.length : Int))
  | _ => none
def absD : List D → Option D
  | [.int i] => some (.int (if i < 0 then -i else i)) | _ => none
def maxD : List D → Option D
  | [.int i, .int j] => some (.int (if j > i then j else i)) | _ => none
def minD : List D → Option D
  | [.int i, .int j] => some (.int (if j < i then j else i)) | _ => none
def intD : List D → Option D
  | [.int i] => some (.int i) | [.bl k] => some (.int (if k then 1 else 0)) | _ => none
def boolD : List D → Option D
  | [.int i] => some (.bl (i != 0)) | [.bl k] => some (.bl k) | _ => none
def listF : List D → Option (List D)
  | [x] => x.seq
  | _ => none
def tupleD : List D → Option D
  | [x] => x.seq.bind fun ds => some (.tup ds)
  | _ => none
def asI : List D → Option (List Int)
  | [] => some []
  | .int i :: ds => (asI ds).bind fun ns => some (i :: ns)
  | _ :: _ => none
def sumD : List D → Option D
  | [x] => x.seqL.bind fun ds => (asI ds).bind fun ns => some (.int ns.sum)
  | _ => none
def flatD : D → Bool
  | .non => true | .bl _ => true | .int _ => true | .str _ => true | _ => false
def eqS : D → D → Bool
  | .non, .non => true
  | .bl a, .bl b => a == b
  | .bl a, .int j => (if a then 1 else 0) == j
  | .int i, .bl b => i == (if b then 1 else 0)
  | .int i, .int j => i == j
  | .str x, .str y => x == y
  | _, _ => false

theorem ite_some {α : Type} {c : Prop} [Decidable c] {a z : α} (h : (if c then some a else none) = some z) : c ∧ a = z := by
  by_cases hc : c
  · rw [if_pos hc] at h
    exact ⟨hc, Option.some.inj h⟩
  · rw [if_neg hc] at h
    cases h
theorem asI_of : ∀ {ds : List D} {ns : List Int}, asI ds = some ns → ds = iL ns
  | [], ns, h => by cases h; rfl
  | .int i :: ds, ns, h => by
    obtain ⟨ms, h1, h⟩ := bnd h
    cases h
    rw [asI_of h1]
    rfl
  | .non :: _, _, h => by cases h
  | .bl _ :: _, _, h => by cases h
  | .str _ :: _, _, h => by cases h
  | .tup _ :: _, _, h => by cases h
  | .lst _ :: _, _, h => by cases h
  | .fro _ :: _, _, h => by cases h
  | .ins _ _ _ :: _, _, h => by cases h
theorem asI_iL : ∀ ns : List Int, asI (iL ns) = some ns
  | [] => rfl
  | n :: ns => by
    show (asI (iL ns)).bind _ = _
    rw [asI_iL ns]
    rfl

section
variable {K : PySem.W.Frag} {H Hb : Hp}
theorem RepC.nocase {v : V} {d : D} (h : RepC K H Hb v d) : True := trivial
theorem new_rep {p : Addr} {o : HO} {vs : List V} {ds : List D} (e : Ex Hb H) (hp : H p = none) (r : RepL K Hb vs ds) : RepL K (upd Hb p o) vs ds := r.up (Ex.new (fresh_back e hp))
theorem OpR.or {X : Cx} {f : Value → Value → Sem Value} {r r' : R2} (h : OpR X f r) (h' : OpR X f r') : OpR X f (fun x y H Q => r x y H Q ∨ r' x y H Q) := by
  intro pins s σ H x y v u Q I rx ry q
  rcases q with q | q
  · exact h pins s σ H x y v u Q I rx ry q
  · exact h' pins s σ H x y v u Q I rx ry q
theorem CallR.or {X : Cx} {f : Value} {r r' : List V → Hp → VK → Prop} (h : CallR X f r) (h' : CallR X f r') : CallR X f (fun x H Q => r x H Q ∨ r' x H Q) := by
  intro pins s σ H xs us Q I rx q
  rcases q with q | q
  · exact h pins s σ H xs us Q I rx q
  · exact h' pins s σ H xs us Q I rx q
theorem SlR.or {X : Cx} {r r' : V → Option Int → Option Int → Hp → VK → Prop} (h : SlR X r) (h' : SlR X r') : SlR X (fun x l u H Q => r x l u H Q ∨ r' x l u H Q) := by
  intro pins s σ H x v vl vu lo hi sl Q I rx hs pl pu q
  rcases q with q | q
  · exact h pins s σ H x v vl vu lo hi sl Q I rx hs pl pu q
  · exact h' pins s σ H x v vl vu lo hi sl Q I rx hs pl pu q
theorem r_I {C : Int → Int → Prop} {g : Int → Int → Int} {m : Int → Int → Option Int} (h : ∀ i j k, m i j = some k → C i j ∧ k = g i j) : SndR K (rI C fun i j => .int (g i j)) (intOp m) := by
  intro H Hb v w x y z e rx ry hz Q q1 _
  cases x with
  | int i =>
    cases y with
    | int j =>
      obtain ⟨k, h1, hz⟩ := bnd hz
      cases hz
      obtain ⟨c, rfl⟩ := h i j k h1
      exact ⟨i, j, rx.int, ry.int, c, q1 _ (.int _)⟩
    | _ => cases hz
  | _ => cases hz
theorem r_I0 {g : Int → Int → Int} {m : Int → Int → Option Int} (h : ∀ i j, m i j = some (g i j)) : SndR K (rI0 fun i j => .int (g i j)) (intOp m) := by
  intro H Hb v w x y z e rx ry hz Q q1 _
  cases x with
  | int i =>
    cases y with
    | int j =>
      obtain ⟨k, h1, hz⟩ := bnd hz
      cases hz
      rw [h] at h1
      cases h1
      exact ⟨i, j, rx.int, ry.int, q1 _ (.int _)⟩
    | _ => cases hz
  | _ => cases hz
theorem r_B0 {g : Int → Int → Bool} : SndR K (rI0 fun i j => .bl (g i j)) (cmpI g) := by
  intro H Hb v w x y z e rx ry hz Q q1 _
  cases x with
  | int i =>
    cases y with
    | int j => cases hz; exact ⟨i, j, rx.int, ry.int, q1 _ (.bl _)⟩
    | _ => cases hz
  | _ => cases hz
def rAddP (K : PySem.W.Frag) : R2 := fun x y H Q => rI0 (fun i j => .int (i + j)) x y H Q ∨ (rCat x y H Q ∨ rCatA K x y H Q)
theorem op_addP {X : Cx} : OpR X (binaryOp .Add) (rAddP X.K) := OpR.or op_add (OpR.or op_cat op_catA)
theorem r_addP : SndR K (rAddP K) addD := by
  intro H Hb v w x y z e rx ry hz Q q1 q2
  cases x with
  | int i =>
    cases y with
    | int j => cases hz; exact .inl ⟨i, j, rx.int, ry.int, q1 _ (.int _)⟩
    | _ => cases hz
  | lst a =>
    cases y with
    | lst b =>
      obtain ⟨hl, rfl⟩ := ite_some hz
      obtain ⟨l, vs, rfl, h1, h2⟩ := rx.lst e
      obtain ⟨m, ws, rfl, h3, h4⟩ := ry.lst e
      refine .inr (.inl ⟨l, m, vs, ws, rfl, rfl, h1, h3, lim_le (by rw [h2.len, h4.len]; exact hl), fun p hp => q2 p _ hp ?_⟩)
      exact .lst upd_same (new_rep e hp (h2.app h4))
    | _ => cases hz
  | tup a =>
    cases y with
    | tup b =>
      obtain ⟨hl, rfl⟩ := ite_some hz
      have hx := rx
      have hy := ry
      obtain ⟨l, vs, rfl, h1, h2⟩ := rx.tup e
      obtain ⟨m, ws, rfl, h3, h4⟩ := ry.tup e
      refine .inr (.inr ⟨l, m, vs, ws, rfl, rfl, h1, h3, lim_le (by rw [h2.len, h4.len]; exact hl), fun z => ?_, fun _ z => ?_, fun _ _ p hp => q2 p _ hp (.tup (st_of upd_same) (new_rep e hp (h2.app h4)))⟩)
      · rw [h2.nilv] at z
        subst z
        rcases hy with hy | ⟨_, _, _, _, k, _⟩
        · exact q1 _ hy
        · cases k
      · rw [h4.nilv] at z
        subst z
        rw [List.append_nil] at q1
        rcases hx with hx | ⟨_, _, _, _, k, _⟩
        · exact q1 _ hx
        · cases k
    | _ => cases hz
  | _ => cases hz
theorem r_catF : SndRF K (rAddP K) catF := by
  intro H Hb v w x y z e rx ry hz Q q1
  cases x with
  | lst a =>
    cases y with
    | lst b =>
      obtain ⟨hl, rfl⟩ := ite_some hz
      obtain ⟨l, vs, rfl, h1, h2⟩ := rx.lst e
      obtain ⟨m, ws, rfl, h3, h4⟩ := ry.lst e
      exact .inr (.inl ⟨l, m, vs, ws, rfl, rfl, h1, h3, lim_le (by rw [h2.len, h4.len]; exact hl), fun p hp => q1 p _ hp (h2.app h4)⟩)
    | _ => cases hz
  | _ => cases hz
def rMulP (K : PySem.W.Frag) : R2 := fun x y H Q => rI CMul (fun i j => .int (i * j)) x y H Q ∨ (rRep x y H Q ∨ rRepT K x y H Q)
theorem op_mulP {X : Cx} : OpR X (binaryOp .Mult) (rMulP X.K) := OpR.or op_mul (OpR.or op_rep op_repT)
theorem r_mulP : SndR K (rMulP K) mulD := by
  intro H Hb v w x y z e rx ry hz Q q1 q2
  cases x with
  | int i =>
    cases y with
    | int j =>
      obtain ⟨hl, rfl⟩ := ite_some hz
      exact .inl ⟨i, j, rx.int, ry.int, hl, q1 _ (.int _)⟩
    | _ => cases hz
  | lst a =>
    cases y with
    | int k =>
      obtain ⟨hl, rfl⟩ := ite_some hz
      obtain ⟨l, vs, rfl, h1, h2⟩ := rx.lst e
      refine .inr (.inl ⟨l, k, vs, rfl, ry.int, h1, hl.1, hl.2.1, lim_le (by rw [h2.len]; exact hl.2.2), fun p hp => q2 p _ hp ?_⟩)
      exact .lst upd_same (new_rep e hp (h2.rep _))
    | _ => cases hz
  | tup a =>
    cases y with
    | int k =>
      obtain ⟨hl, rfl⟩ := ite_some hz
      obtain ⟨l, vs, rfl, h1, h2⟩ := rx.tup e
      refine .inr (.inr ⟨l, k, vs, rfl, ry.int, h1, fun z => hl.1 (h2.nilv.mp z), hl.2.1, hl.2.2.1, by rw [h2.len]; exact hl.2.2.2, fun p hp => q2 p _ hp ?_⟩)
      exact .tup (st_of upd_same) (new_rep e hp (h2.rep _))
    | _ => cases hz
  | _ => cases hz
theorem r_repF : SndRF K (rMulP K) repF := by
  intro H Hb v w x y z e rx ry hz Q q1
  cases x with
  | lst a =>
    cases y with
    | int k =>
      obtain ⟨hl, rfl⟩ := ite_some hz
      obtain ⟨l, vs, rfl, h1, h2⟩ := rx.lst e
      exact .inr (.inl ⟨l, k, vs, rfl, ry.int, h1, hl.1, hl.2.1, lim_le (by rw [h2.len]; exact hl.2.2), fun p hp => q1 p _ hp (h2.rep _)⟩)
    | _ => cases hz
  | _ => cases hz
theorem canLay_sh {d : PyData} (h : SeqAt.shaped d = true) : d.canLay0 = true := SeqAt.canLay_of_shaped h
theorem r_eq : SndR K (rEqD K) eqD := by
  intro H Hb v w x y z e rx ry hz Q q1 q2
  obtain ⟨hs, rfl⟩ := ite_some hz
  exact ⟨x.py, y.py, dp_of x v (rx.rep e) (canLay_sh hs.1), dp_of y w (ry.rep e) (canLay_sh hs.2), hs.1, hs.2, q1 _ (.bl _)⟩
theorem r_ne : SndR K (rNeD K) neD := by
  intro H Hb v w x y z e rx ry hz Q q1 q2
  obtain ⟨hs, rfl⟩ := ite_some hz
  exact ⟨x.py, y.py, dp_of x v (rx.rep e) (canLay_sh hs.1), dp_of y w (ry.rep e) (canLay_sh hs.2), hs.1, hs.2, q1 _ (.bl _)⟩
theorem isN_of {v : V} {x : D} (h : RepC K H Hb v x) : decide (v = .non) = x.isN := by
  rcases h with h | ⟨l, vs, ds, rfl, rfl, _⟩
  · cases h <;> first | rfl | exact decide_eq_false (fun z => V.noConfusion z)
  · exact decide_eq_false (fun z => V.noConfusion z)
def rIsP : R2 := fun x y H Q => y = .non ∧ Q (.bl (decide (x = .non))) H
def rIsnP : R2 := fun x y H Q => y = .non ∧ Q (.bl (!decide (x = .non))) H
theorem op_isP {X : Cx} : OpR X (compareOp .Is) rIsP := op_isN
theorem op_isnP {X : Cx} : OpR X (compareOp .IsNot) rIsnP := op_notN
theorem RepC.non {v : V} (h : RepC K H Hb v .non) : v = .non := by
  rcases h with h | ⟨l, vs, es, rfl, q, h1, h2⟩
  · cases h; rfl
  · cases q
theorem r_is : SndR K rIsP isD := by
  intro H Hb v w x y z e rx ry hz Q q1 q2
  cases y with
  | non =>
    cases hz
    refine ⟨ry.non, ?_⟩
    rw [isN_of rx]
    exact q1 _ (.bl _)
  | _ => cases hz
theorem r_isn : SndR K rIsnP isnD := by
  intro H Hb v w x y z e rx ry hz Q q1 q2
  cases y with
  | non =>
    cases hz
    refine ⟨ry.non, ?_⟩
    rw [isN_of rx]
    exact q1 _ (.bl _)
  | _ => cases hz
theorem RepL.atI {vs : List V} {ds : List D} {i : Int} {d : D} (r : RepL K Hb vs ds) (h : L2.atI ds i = some d) : ∃ v, L2.atI vs i = some v ∧ Rep K Hb v d := by
  unfold L2.atI at h ⊢
  rw [r.len]
  cases e : ixN ds.length i with
  | none => rw [e] at h; cases h
  | some j =>
    rw [e] at h
    exact RepL.get r h
theorem r_ix : SndR K (rIx K) ixD := by
  intro H Hb v w x y z e rx ry hz Q q1 q2
  cases y with
  | int i =>
    obtain ⟨ds, h1, h2⟩ := bnd hz
    have hw := ry.int
    subst hw
    cases x with
    | lst a =>
      cases h1
      obtain ⟨l, vs, rfl, g1, g2⟩ := rx.seqL e rfl
      obtain ⟨u, g3, g4⟩ := g2.atI h2
      exact .inl ⟨l, vs, i, u, rfl, rfl, g1, g3, q1 _ g4⟩
    | fro a =>
      cases h1
      obtain ⟨l, vs, rfl, g1, g2⟩ := rx.seqL e rfl
      obtain ⟨u, g3, g4⟩ := g2.atI h2
      exact .inl ⟨l, vs, i, u, rfl, rfl, g1, g3, q1 _ g4⟩
    | tup a =>
      cases h1
      obtain ⟨l, vs, rfl, g1, g2⟩ := rx.tup e
      obtain ⟨u, g3, g4⟩ := g2.atI h2
      exact .inr (.inl ⟨l, vs, i, u, rfl, rfl, g1, g3, q1 _ g4⟩)
    | _ => cases h1
  | _ => cases hz
theorem cut_rep {vs : List V} {ds : List D} (r : RepL K Hb vs ds) (lo hi : Option Int) : RepL K Hb (cutV vs lo hi) (cutG ds lo hi) := by
  unfold cutV cutG
  rw [r.len]
  exact (r.drop _).take _
def rSlP (K : PySem.W.Frag) : V → Option Int → Option Int → Hp → VK → Prop := fun x l u H Q => rSlL K x l u H Q ∨ rSlA K x l u H Q
theorem sl_P {X : Cx} : SlR X (rSlP X.K) := SlR.or sl_list sl_tupA
theorem cut_whole {α : Type} {xs : List α} {lo hi : Option Int} (h : HT.sIx xs.length 0 lo = 0 ∧ HT.sIx xs.length xs.length hi = xs.length) : cutG xs lo hi = xs := by
  unfold cutG
  rw [h.1, h.2]
  simp
theorem r_sl : SndSl K (rSlP K) slD := by
  intro H Hb v x lo hi z e rx hz Q q1 q2
  cases x with
  | lst a =>
    cases hz
    obtain ⟨l, vs, rfl, g1, g2⟩ := rx.seqL e rfl
    exact .inl ⟨l, vs, rfl, g1, fun p hp => q2 p _ hp (.lst upd_same (new_rep e hp (cut_rep g2 lo hi)))⟩
  | fro a =>
    cases hz
    obtain ⟨l, vs, rfl, g1, g2⟩ := rx.seqL e rfl
    exact .inl ⟨l, vs, rfl, g1, fun p hp => q2 p _ hp (.lst upd_same (new_rep e hp (cut_rep g2 lo hi)))⟩
  | tup a =>
    cases hz
    have hx := rx
    obtain ⟨l, vs, rfl, g1, g2⟩ := rx.tup e
    refine .inr ⟨l, vs, rfl, g1, fun z => ?_, fun _ p hp => q2 p _ hp (.tup (st_of upd_same) (new_rep e hp (cut_rep g2 lo hi)))⟩
    rw [g2.len] at z
    rw [cut_whole z] at q1
    rcases hx with hx | ⟨_, _, _, _, k, _⟩
    · exact q1 _ hx
    · cases k
  | _ => cases hz
theorem r_slF : SndSlF K (rSlP K) slF := by
  intro H Hb v x lo hi z e rx hz Q q1
  cases x with
  | lst a =>
    cases hz
    obtain ⟨l, vs, rfl, g1, g2⟩ := rx.seqL e rfl
    exact .inl ⟨l, vs, rfl, g1, fun p hp => q1 p _ hp (cut_rep g2 lo hi)⟩
  | fro a =>
    cases hz
    obtain ⟨l, vs, rfl, g1, g2⟩ := rx.seqL e rfl
    exact .inl ⟨l, vs, rfl, g1, fun p hp => q1 p _ hp (cut_rep g2 lo hi)⟩
  | _ => cases hz
theorem r_neg : SndU K (rU fun i => .int (-i)) negD := by
  intro H Hb v x z e rx hz Q q1 q2
  cases x with
  | int i => cases hz; exact ⟨i, rx.int, q1 _ (.int _)⟩
  | _ => cases hz
/-! calls of what is built in -/
theorem reps1 {vs : List V} {x : D} (h : RepCs K H Hb vs [x]) : ∃ v, vs = [v] ∧ RepC K H Hb v x := by
  match vs, h with
  | [v], h => exact ⟨v, rfl, h.1⟩
theorem reps2 {vs : List V} {x y : D} (h : RepCs K H Hb vs [x, y]) : ∃ v w, vs = [v, w] ∧ RepC K H Hb v x ∧ RepC K H Hb w y := by
  match vs, h with
  | [v, w], h => exact ⟨v, w, rfl, h.1, h.2.1⟩
def rLenP (K : PySem.W.Frag) : List V → Hp → VK → Prop := fun xs H Q => ∃ p ys, xs = [.ref p] ∧ (SqL K H p ys ∨ SqT K H p ys) ∧ Q (.int ys.length) H
theorem call_lenP {X : Cx} : CallR X (.builtin "len") (rLenP X.K) := call_len_seq
theorem RepC.seq {v : V} {x : D} {ds : List D} (h : RepC K H Hb v x) (e : Ex Hb H) (hd : x.seq = some ds) : ∃ l vs, v = .ref l ∧ (SqL K H l vs ∨ SqT K H l vs) ∧ RepL K Hb vs ds := by
  cases x with
  | lst a => cases hd; obtain ⟨l, vs, a, b, c⟩ := h.seqL e rfl; exact ⟨l, vs, a, .inl b, c⟩
  | fro a => cases hd; obtain ⟨l, vs, a, b, c⟩ := h.seqL e rfl; exact ⟨l, vs, a, .inl b, c⟩
  | tup a => cases hd; obtain ⟨l, vs, a, b, c⟩ := h.tup e; exact ⟨l, vs, a, .inr b, c⟩
  | _ => cases hd
theorem c_len : SndC K (rLenP K) lenD := by
  intro H Hb vs xs z e rx hz Q q1 q2
  match xs, hz with
  | [x], hz =>
    obtain ⟨ds, h1, h2⟩ := bnd hz
    cases h2
    obtain ⟨v, rfl, r⟩ := reps1 rx
    obtain ⟨l, ws, rfl, h3, h4⟩ := r.seq e h1
    refine ⟨l, ws, rfl, h3, ?_⟩
    rw [h4.len]
    exact q1 _ (.int _)
def rListP (K : PySem.W.Frag) : List V → Hp → VK → Prop := fun xs H Q => ∃ p ys, xs = [.ref p] ∧ (SqL K H p ys ∨ SqT K H p ys) ∧ ∀ l, H l = none → Q (.ref l) (upd H l (.lst ys))
theorem call_listP {X : Cx} : CallR X (.type "list") (rListP X.K) := call_list_of
theorem c_listF : SndCF K (rListP K) listF := by
  intro H Hb vs xs z e rx hz Q q1
  match xs, hz with
  | [x], hz =>
    obtain ⟨v, rfl, r⟩ := reps1 rx
    obtain ⟨l, ws, rfl, h3, h4⟩ := r.seq e hz
    exact ⟨l, ws, rfl, h3, fun p hp => q1 p _ hp h4⟩
def rTupleP (K : PySem.W.Frag) : List V → Hp → VK → Prop := fun xs H Q => ∃ p ys, xs = [.ref p] ∧ ((SqL K H p ys ∧ ∀ l, H l = none → Q (.ref l) (upd H l (.tup ys))) ∨ (SqT K H p ys ∧ Q (.ref p) H))
theorem call_tupleP {X : Cx} : CallR X (.type "tuple") (rTupleP X.K) := call_tuple_of
theorem c_tuple : SndC K (rTupleP K) tupleD := by
  intro H Hb vs xs z e rx hz Q q1 q2
  match xs, hz with
  | [x], hz =>
    obtain ⟨ds, h1, h2⟩ := bnd hz
    cases h2
    obtain ⟨v, rfl, r⟩ := reps1 rx
    cases x with
    | lst a =>
      cases h1
      obtain ⟨l, ws, rfl, g1, g2⟩ := r.seqL e rfl
      exact ⟨l, ws, rfl, .inl ⟨g1, fun p hp => q2 p _ hp (.tup (st_of upd_same) (new_rep e hp g2))⟩⟩
    | fro a =>
      cases h1
      obtain ⟨l, ws, rfl, g1, g2⟩ := r.seqL e rfl
      exact ⟨l, ws, rfl, .inl ⟨g1, fun p hp => q2 p _ hp (.tup (st_of upd_same) (new_rep e hp g2))⟩⟩
    | tup a =>
      cases h1
      have hx := r
      obtain ⟨l, ws, rfl, g1, g2⟩ := r.tup e
      refine ⟨l, ws, rfl, .inr ⟨g1, ?_⟩⟩
      rcases hx with hx | ⟨_, _, _, _, k, _⟩
      · exact q1 _ hx
      · cases k
    | _ => cases h1
theorem c_sum : SndC K (rSum K) sumD := by
  intro H Hb vs xs z e rx hz Q q1 q2
  match xs, hz with
  | [x], hz =>
    obtain ⟨ds, h1, hz⟩ := bnd hz
    obtain ⟨ns, h2, hz⟩ := bnd hz
    cases hz
    obtain ⟨v, rfl, r⟩ := reps1 rx
    obtain ⟨l, ws, rfl, g1, g2⟩ := r.seqL e h1
    rw [asI_of h2] at g2
    rw [g2.toI] at g1
    exact ⟨l, ns, rfl, g1, q1 _ (.int _)⟩
def rAbsP : List V → Hp → VK → Prop := fun xs H Q => ∃ i, xs = [.int i] ∧ Q (.int (if i < 0 then -i else i)) H
def rMaxP : List V → Hp → VK → Prop := fun xs H Q => ∃ i j, xs = [.int i, .int j] ∧ Q (.int (if j > i then j else i)) H
def rMinP : List V → Hp → VK → Prop := fun xs H Q => ∃ i j, xs = [.int i, .int j] ∧ Q (.int (if j < i then j else i)) H
def rIntP : List V → Hp → VK → Prop := fun xs H Q => (∃ i, xs = [.int i] ∧ Q (.int i) H) ∨ ∃ k, xs = [.bl k] ∧ Q (.int (if k then 1 else 0)) H
def rBoolP : List V → Hp → VK → Prop := fun xs H Q => (∃ i, xs = [.int i] ∧ Q (.bl (i != 0)) H) ∨ ∃ k, xs = [.bl k] ∧ Q (.bl k) H
theorem call_absP {X : Cx} : CallR X (.builtin "abs") rAbsP := call_abs
theorem call_maxP {X : Cx} (hc : X.calm = true) : CallR X (.builtin "max") rMaxP := call_max2 hc
theorem call_minP {X : Cx} (hc : X.calm = true) : CallR X (.builtin "min") rMinP := call_min2 hc
theorem call_intP {X : Cx} : CallR X (.type "int") rIntP := call_int1
theorem call_boolP {X : Cx} : CallR X (.type "bool") rBoolP := call_bool1
theorem c_abs : SndC K rAbsP absD := by
  intro H Hb vs xs z e rx hz Q q1 q2
  match xs, hz with
  | [.int i], hz =>
    cases hz
    obtain ⟨v, rfl, r⟩ := reps1 rx
    exact ⟨i, by rw [r.int], q1 _ (.int _)⟩
theorem c_max : SndC K rMaxP maxD := by
  intro H Hb vs xs z e rx hz Q q1 q2
  match xs, hz with
  | [.int i, .int j], hz =>
    cases hz
    obtain ⟨v, w, rfl, r1, r2⟩ := reps2 rx
    exact ⟨i, j, by rw [r1.int, r2.int], q1 _ (.int _)⟩
theorem c_min : SndC K rMinP minD := by
  intro H Hb vs xs z e rx hz Q q1 q2
  match xs, hz with
  | [.int i, .int j], hz =>
    cases hz
    obtain ⟨v, w, rfl, r1, r2⟩ := reps2 rx
    exact ⟨i, j, by rw [r1.int, r2.int], q1 _ (.int _)⟩
theorem c_int : SndC K rIntP intD := by
  intro H Hb vs xs z e rx hz Q q1 q2
  match xs, hz with
  | [.int i], hz =>
    cases hz
    obtain ⟨v, rfl, r⟩ := reps1 rx
    exact .inl ⟨i, by rw [r.int], q1 _ (.int _)⟩
  | [.bl i], hz =>
    cases hz
    obtain ⟨v, rfl, r⟩ := reps1 rx
    exact .inr ⟨i, by rw [r.bl], q1 _ (.int _)⟩
theorem c_bool : SndC K rBoolP boolD := by
  intro H Hb vs xs z e rx hz Q q1 q2
  match xs, hz with
  | [.int i], hz =>
    cases hz
    obtain ⟨v, rfl, r⟩ := reps1 rx
    exact .inl ⟨i, by rw [r.int], q1 _ (.bl _)⟩
  | [.bl i], hz =>
    cases hz
    obtain ⟨v, rfl, r⟩ := reps1 rx
    exact .inr ⟨i, by rw [r.bl], q1 _ (.bl _)⟩
end
end Mi
namespace Mi
open PySem PySem.Spec PyProof.Rows L2 Evl
section
variable {K : PySem.W.Frag}
def plusI : Int → Int → Option Int := fun i j => some (i + j)
def timesI : Int → Int → Option Int := fun i j => if (-18446744073709551616 < i ∧ i < 18446744073709551616) ∨ (-18446744073709551616 < j ∧ j < 18446744073709551616) then some (i * j) else none
theorem r_add : SndR K (rI0 fun i j => .int (i + j)) (intOp plusI) := r_I0 fun _ _ => rfl
theorem r_sub : SndR K (rI0 fun i j => .int (i - j)) (intOp subI) := r_I0 fun _ _ => rfl
theorem r_mul : SndR K (rI CMul fun i j => .int (i * j)) (intOp timesI) := r_I fun i j k h => by obtain ⟨a, b⟩ := ite_some h; exact ⟨a, b.symm⟩
theorem r_fdiv : SndR K (rI CDiv fun i j => .int (i / j)) (intOp fdivI) := r_I fun i j k h => by obtain ⟨a, b⟩ := ite_some h; exact ⟨a, b.symm⟩
theorem r_mod : SndR K (rI (fun _ j => 0 < j) fun i j => .int (i % j)) (intOp modI) := r_I fun i j k h => by obtain ⟨a, b⟩ := ite_some h; exact ⟨a, b.symm⟩
theorem r_pow : SndR K (rI CPow fun i j => .int (i ^ j.toNat)) (intOp powI) := r_I fun i j k h => by obtain ⟨a, b⟩ := ite_some h; exact ⟨a, b.symm⟩
theorem r_shl : SndR K (rI CPow fun i j => .int (i * 2 ^ j.toNat)) (intOp shlI) := r_I fun i j k h => by obtain ⟨a, b⟩ := ite_some h; exact ⟨a, b.symm⟩
theorem r_shr : SndR K (rI (fun _ j => 0 ≤ j) fun i j => .int (i / 2 ^ j.toNat)) (intOp shrI) := r_I fun i j k h => by obtain ⟨a, b⟩ := ite_some h; exact ⟨a, b.symm⟩
theorem r_and : SndR K (rI0 fun i j => .int (Builtin.bitAnd i j)) (intOp andI) := r_I0 fun _ _ => rfl
theorem r_or : SndR K (rI0 fun i j => .int (Builtin.bitOr i j)) (intOp orI) := r_I0 fun _ _ => rfl
theorem r_xor : SndR K (rI0 fun i j => .int (Builtin.bitXor i j)) (intOp xorI) := r_I0 fun _ _ => rfl
theorem cr_sumP {X : Cx} (hc : X.calm = true) : CallR X (.builtin "sum") (rSum X.K) := cr_sum hc
end
end Mi

namespace Mi
open PySem PySem.Spec PyProof.Rows L2 Evl

def Fr.grd (f : Fr) (p : Addr) (o : HO) : Fr := { f with P := upd f.P p o }
/-! ### what is walked -/
section
variable (K : PySem.W.Frag)
def ItOk (J : It) (Hb1 : Hp) (items : List D) : Prop := ∀ (f : Fr) (σ : L2.St) (H2 : Hp) (s : Sto) (Hb2 : Hp), Ex Hb1 Hb2 → Rw K f σ H2 s Hb2 → ∀ i : Nat,
  (∀ d, items[i]? = some d → J.go i H2 ∧ ∀ x H', J.yld i H2 x H' → ∃ Hb', Ex Hb2 Hb' ∧ Rw K f σ H' s Hb' ∧ Rep K Hb' x d) ∧ (items.length ≤ i → J.stop i H2)
def SndI (wi : TI) (m : MI) : Prop := ∀ f σ H s Hb items s', Rw K f σ H s Hb → m s = some (items, s') → ∀ R : It → Hp → Prop, (∀ J H' Hb', Ex Hb Hb' → Rw K f σ H' s' Hb' → ItOk K J Hb' items → R J H') → wi σ H R
def SndG (g : TG) (m : MG) (ws : List Nat) : Prop := ∀ f σ H s Hb d v s', Rw K f σ H s Hb → Rep K Hb v d → m d s = some s' → ∀ Q : L2.St → Hp → Prop, (∀ σ' H' Hb', Ex Hb Hb' → Rw K f σ' H' s' Hb' → (∀ vs, (∀ w ∈ ws, w ∈ vs) → wipe σ' vs = wipe σ vs) → Q σ' H') → g v σ H Q
def SndGs (g : TGs) (m : List D → Sto → Option Sto) (ws : List Nat) : Prop := ∀ f σ H s Hb ds vs s', Rw K f σ H s Hb → RepL K Hb vs ds → m ds s = some s' → ∀ Q : L2.St → Hp → Prop, (∀ σ' H' Hb', Ex Hb Hb' → Rw K f σ' H' s' Hb' → (∀ vs, (∀ w ∈ ws, w ∈ vs) → wipe σ' vs = wipe σ vs) → Q σ' H') → g vs σ H Q
/-- what is wanted behind a statement -/
def After (f : Fr) (Hb : Hp) (s' : Sto) (E : Ends) : Out → Prop
  | .nx => ∀ σ' H' Hb', Ex Hb Hb' → Rw K f σ' H' s' Hb' → E.nx σ' H'
  | .bk => ∀ σ' H' Hb', Ex Hb Hb' → Rw K f σ' H' s' Hb' → E.bk σ' H'
  | .ct => ∀ σ' H' Hb', Ex Hb Hb' → Rw K f σ' H' s' Hb' → E.ct σ' H'
  | .rt d => ∀ v σ' H' Hb', Ex Hb Hb' → Rw K f σ' H' s' Hb' → Rep K Hb' v d → E.rt v H'
def SndS (ts : TS) (m : MS) : Prop := ∀ f σ H s Hb o s', Rw K f σ H s Hb → m s = some (o, s') → ∀ E : Ends, After K f Hb s' E o → ts E σ H
end
structure PXI (X : Cx) (tg iter : Expr) (wi : TI) (m : MI) : Prop where
  pe : PI X tg iter wi
  sn : SndI X.K wi m
structure PXG (X : Cx) (tg : Expr) (g : TG) (m : MG) (ws : List Nat) : Prop where
  pe : PG X tg g
  sn : SndG X.K g m ws
structure PXGs (X : Cx) (tg : List Expr) (g : TGs) (m : List D → Sto → Option Sto) (ws : List Nat) : Prop where
  pe : PGs X tg g
  sn : SndGs X.K g m ws
structure PXS (X : Cx) (st : Stmt) (ts : TS) (m : MS) : Prop where
  pe : PS X st ts
  sn : SndS X.K ts m
structure PXB (X : Cx) (st : List Stmt) (ts : TS) (m : MS) : Prop where
  pe : PSs X st ts
  sn : SndS X.K ts m

/-! ### their meaning -/
def iSeq (ma : ME) : MI := fun s => (ma s).bind fun a => (frz a.2 a.1).bind fun q => (q.1.seq).bind fun ds => some (ds, q.2)
def iRev (ma : ME) : MI := fun s => (ma s).bind fun a => (frz a.2 a.1).bind fun q => (q.1.seq).bind fun ds => some (ds.reverse, q.2)
def rng (lo : Int) (n : Nat) : List D := (List.range n).map fun i => D.int (lo + ((i : Nat) : Int))
def bInt : Bv → Option Int
  | .dat (.int i) => some i
  | _ => none
def iR1 (ma : MA) : MI := fun s => (ma s).bind fun a => match a.1 with
  | [x] => (bInt x).bind fun n => if n < 4611686018427387904 ∧ -4611686018427387904 ≤ n then some (rng 0 n.toNat, a.2) else none
  | _ => none
def iR2 (ma : MA) : MI := fun s => (ma s).bind fun a => match a.1 with
  | [x, y] => (bInt x).bind fun m => (bInt y).bind fun n => if (-4611686018427387904 ≤ m ∧ m < 4611686018427387904) ∧ -4611686018427387904 ≤ n ∧ n < 4611686018427387904 then some (rng m (n - m).toNat, a.2) else none
  | _ => none
def gNm (i : Nat) : MG := fun d s => some (s.set i (.dat d))
def gsNil : List D → Sto → Option Sto := fun ds s => match ds with
  | [] => some s
  | _ => none
def gsCons (g : MG) (gs : List D → Sto → Option Sto) : List D → Sto → Option Sto := fun ds s => match ds with
  | d :: r => (g d s).bind fun s1 => gs r s1
  | [] => none
def gTp (n : Nat) (gs : List D → Sto → Option Sto) : MG := fun d s => match d with
  | .tup ds => if ds.length = n then gs ds s else none
  | _ => none
def mSeq (m1 m2 : MS) : MS := fun s => (m1 s).bind fun r => match r.1 with
  | .nx => m2 r.2
  | o => some (o, r.2)
def mNext : MS := fun s => some (.nx, s)
def mBrk : MS := fun s => some (.bk, s)
def mCnt : MS := fun s => some (.ct, s)
def mNever : MS := fun _ => none
def mIf (mt : MT) (m1 m2 : MS) : MS := fun s => (mt s).bind fun c => if c.1 = true then m1 c.2 else m2 c.2
def mAsg (me : ME) (g : MG) : MS := fun s => (me s).bind fun a => (frz a.2 a.1).bind fun q => (g q.1 q.2).bind fun s' => some (.nx, s')
def mAsgF (mf : MF) (i : Nat) : MS := fun s => (mf s).bind fun a => some (.nx, a.2.set i (.own a.1))
def mExpr (me : ME) : MS := fun s => (me s).bind fun a => some (.nx, a.2)
def mRet (me : ME) : MS := fun s => (me s).bind fun a => (frz a.2 a.1).bind fun q => some (.rt q.1, q.2)
def mRetN : MS := fun s => some (.rt .non, s)
def mPar (i j : Nat) (ma : MA) : MS := fun s => (ma s).bind fun a => (frzs a.2 a.1).bind fun q => match q.1 with
  | [x, y] => some (.nx, (q.2.set i (.dat x)).set j (.dat y))
  | _ => none
def mAug (i : Nat) (g : D → D → Option D) (me : ME) : MS := fun s => match s[i]? with
  | some (.dat x) => (me s).bind fun b => (look b.2 b.1).bind fun y => (g x y).bind fun z => some (.nx, b.2.set i (.dat z))
  | _ => none
def putAt (s : Sto) (j : Nat) (ds : List D) : Option Sto := match s[j]? with
  | some (.own _) => some (s.set j (.own ds))
  | some (.par _) => some (s.set j (.par ds))
  | _ => none
def lsAt (s : Sto) (j : Nat) : Option (List D) := match s[j]? with
  | some (.own ds) => some ds
  | some (.par ds) => some ds
  | _ => none
def mApp (j : Nat) (me : ME) : MS := fun s => (lsAt s j).bind fun _ => (me s).bind fun a => (frz a.2 a.1).bind fun q => (lsAt q.2 j).bind fun ds => if ds.length < 16000000 then (putAt q.2 j (ds ++ [q.1])).bind fun s' => some (.nx, s') else none
def mExt (j : Nat) (me : ME) : MS := fun s => (lsAt s j).bind fun _ => (me s).bind fun a => (look a.2 a.1).bind fun d => match d with
  | .lst es => (lsAt a.2 j).bind fun ds => if ds.length + es.length ≤ 16000000 then (putAt a.2 j (ds ++ es)).bind fun s' => some (.nx, s') else none
  | _ => none
def mSet (j : Nat) (mi me : ME) : MS := fun s => (me s).bind fun a => (lsAt a.2 j).bind fun _ => (mi a.2).bind fun b => (bInt b.1).bind fun i => (frz b.2 a.1).bind fun q => (lsAt q.2 j).bind fun ds => (ixN ds.length i).bind fun k => (putAt q.2 j (ds.set k q.1)).bind fun s' => some (.nx, s')
def forD (g : MG) (mb : MS) : List D → MS
  | [], s => some (.nx, s)
  | d :: ds, s => (g d s).bind fun s1 => (mb s1).bind fun r => match r.1 with
    | .nx => forD g mb ds r.2
    | .ct => forD g mb ds r.2
    | .bk => some (.nx, r.2)
    | .rt x => some (.rt x, r.2)
def mFor (mi : MI) (g : MG) (mb : MS) : MS := fun s => (mi s).bind fun a => forD g mb a.1 a.2
def whD (mt : MT) (mb : MS) : Nat → MS
  | 0, _ => none
  | n + 1, s => (mt s).bind fun c => if c.1 = true then (mb c.2).bind fun r => match r.1 with
      | .nx => whD mt mb n r.2
      | .ct => whD mt mb n r.2
      | .bk => some (.nx, r.2)
      | .rt x => some (.rt x, r.2)
    else some (.nx, c.2)
def mWhile (fuel : Sto → Nat) (mt : MT) (mb : MS) : MS := fun s => whD mt mb (fuel s) s
def wipeS (s : Sto) : List Nat → Sto
  | [] => s
  | j :: js => (wipeS s js).set j .un
def SV.back : SV → SV
  | .dat d => .dat d
  | _ => .un
/-- behind a comprehension: its own names are as they were -/
def backS (s0 : Sto) (s : Sto) : List Nat → Sto
  | [] => s
  | j :: js => (backS s0 s js).set j ((s0[j]?.getD .un).back)
def mYes : MT := fun s => some (true, s)
def compD (vs : List Nat) (g : MG) (mt : MT) (me : ME) : List D → List D → Sto → Option (List D × Sto)
  | [], acc, s => some (acc, s)
  | d :: ds, acc, s => (g d (wipeS s vs)).bind fun s1 => (mt s1).bind fun c => if c.1 = true then
      (me c.2).bind fun r => (frz r.2 r.1).bind fun q => if acc.length < 16000000 then compD vs g mt me ds (acc ++ [q.1]) q.2 else none
    else compD vs g mt me ds acc c.2
def mLc (mi : MI) (g : MG) (mt : MT) (me : ME) (vs : List Nat) : MF := fun s => (mi s).bind fun a => (compD vs g mt me a.1 [] a.2).bind fun q => some (q.1, backS a.2 (wipeS q.2 vs) vs)

section
variable {K : PySem.W.Frag} {f : Fr} {σ : L2.St} {H H' Hb Hb' : Hp} {s s' : Sto}
theorem rng_len (lo : Int) (n : Nat) : (rng lo n).length = n := by unfold rng; rw [List.length_map, List.length_range]
theorem rng_at {lo : Int} {n i : Nat} {d : D} (h : (rng lo n)[i]? = some d) : i < n ∧ d = .int (lo + (i : Nat)) := by
  have hi := (List.getElem?_eq_some_iff.mp h).1
  rw [rng_len] at hi
  refine ⟨hi, ?_⟩
  unfold rng at h
  rw [List.getElem?_map, List.getElem?_range hi] at h
  cases h
  rfl
theorem it_rng (lo : Int) (n : Nat) (Hb1 : Hp) : ItOk K (Itr lo n) Hb1 (rng lo n) := by
  intro f σ H2 s Hb2 e R i
  refine ⟨fun d hd => ?_, fun h => by rw [rng_len] at h; exact h⟩
  obtain ⟨hi, rfl⟩ := rng_at hd
  refine ⟨hi, fun x H' y => ?_⟩
  obtain ⟨rfl, rfl⟩ := y
  exact ⟨Hb2, Ex.refl _, R, .int _⟩
theorem it_list {a : Addr} {vs : List V} {ds : List D} {Hb1 : Hp} (h : SqL K Hb1 a vs) (r : RepL K Hb1 vs ds) : ItOk K (Itl K a) Hb1 ds := by
  intro f σ H2 s Hb2 e R i
  have h2 : SqL K H2 a vs := ex_l (e.trans R.hb) h
  refine ⟨fun d hd => ?_, fun hi => ⟨vs, h2, by rw [r.len]; exact hi⟩⟩
  obtain ⟨v, hv, rv⟩ := r.get hd
  refine ⟨⟨vs, v, h2, hv⟩, fun x H' y => ?_⟩
  obtain ⟨rfl, y⟩ := y
  have := (y vs h2).symm.trans hv
  cases this
  exact ⟨Hb2, Ex.refl _, R, rv.up e⟩
theorem it_tup {a : Addr} {vs : List V} {ds : List D} {Hb1 : Hp} (h : SqT K Hb1 a vs) (r : RepL K Hb1 vs ds) : ItOk K (Itt K a) Hb1 ds := by
  intro f σ H2 s Hb2 e R i
  have h2 : SqT K H2 a vs := ex_t (e.trans R.hb) h
  refine ⟨fun d hd => ?_, fun hi => ⟨vs, h2, by rw [r.len]; exact hi⟩⟩
  obtain ⟨v, hv, rv⟩ := r.get hd
  refine ⟨⟨vs, v, h2, hv⟩, fun x H' y => ?_⟩
  obtain ⟨rfl, y⟩ := y
  have := (y vs h2).symm.trans hv
  cases this
  exact ⟨Hb2, Ex.refl _, R, rv.up e⟩
theorem PI.or {X : Cx} {tg iter : Expr} {w1 w2 : TI} (h1 : PI X tg iter w1) (h2 : PI X tg iter w2) : PI X tg iter (fun σ H R => w1 σ H R ∨ w2 σ H R) := by
  refine ⟨fun pins s σ H R I h => ?_⟩
  rcases h with h | h
  · exact h1.run pins s σ H R I h
  · exact h2.run pins s σ H R I h
/-- a list or a tuple -/
def iSeqT (K : PySem.W.Frag) (tl : TE) : TI := fun σ H R => iList K tl σ H R ∨ iTup K tl σ H R
theorem pi_seq {X : Cx} {tg l : Expr} {tl : TE} (hl : PE X l tl) : PI X tg l (iSeqT X.K tl) := PI.or (pi_list hl) (pi_tup hl)
theorem snd_iSeq {te : TE} {me : ME} (he : SndE K te me) : SndI K (iSeqT K te) (iSeq me) := by
  intro f σ H s Hb items s' R h Rk q
  obtain ⟨a, h1, h⟩ := bnd h
  obtain ⟨b, h2, h⟩ := bnd h
  obtain ⟨ds, h3, h⟩ := bnd h
  cases h
  obtain ⟨d, s2⟩ := b
  cases d with
  | tup es =>
    cases h3
    refine .inr (he f σ H s Hb _ _ R h1 _ fun v H1 Hb1 e1 R1 r1 => ?_)
    obtain ⟨Hb2, e2, R2, r2⟩ := frz_ok R1 r1 h2
    cases r2 with
    | tup x y => exact ⟨_, rfl, ⟨_, ex_t R2.hb x⟩, q _ _ _ (e1.trans e2) R2 (it_tup x y)⟩
  | lst es =>
    cases h3
    refine .inl (he f σ H s Hb _ _ R h1 _ fun v H1 Hb1 e1 R1 r1 => ?_)
    obtain ⟨Hb2, e2, R2, r2⟩ := frz_ok R1 r1 h2
    cases r2 with
    | lst x y => exact ⟨_, rfl, ⟨_, ex_l R2.hb (sq_of x)⟩, q _ _ _ (e1.trans e2) R2 (it_list (sq_of x) y)⟩
  | fro es =>
    cases h3
    refine .inl (he f σ H s Hb _ _ R h1 _ fun v H1 Hb1 e1 R1 r1 => ?_)
    obtain ⟨Hb2, e2, R2, r2⟩ := frz_ok R1 r1 h2
    cases r2 with
    | fro x y => exact ⟨_, rfl, ⟨_, ex_l R2.hb x⟩, q _ _ _ (e1.trans e2) R2 (it_list x y)⟩
  | _ => cases h3
theorem it_rev {a : Addr} {vs : List V} {ds : List D} {Hb1 : Hp} (h : SqL K Hb1 a vs) (r : RepL K Hb1 vs ds) : ItOk K (Itv K a vs.length) Hb1 ds.reverse := by
  intro f σ H2 s Hb2 e R i
  have h2 : SqL K H2 a vs := ex_l (e.trans R.hb) h
  have hl := r.len
  refine ⟨fun d hd => ?_, fun hi => by rw [List.length_reverse, ← hl] at hi; exact hi⟩
  have hi := (List.getElem?_eq_some_iff.mp hd).1
  rw [List.length_reverse] at hi
  rw [List.getElem?_reverse hi] at hd
  obtain ⟨v, hv, rv⟩ := r.get hd
  rw [← hl] at hv
  refine ⟨⟨by omega, vs, v, h2, hv⟩, fun x H' y => ?_⟩
  obtain ⟨rfl, y⟩ := y
  have := (y vs h2).symm.trans hv
  cases this
  exact ⟨Hb2, Ex.refl _, R, rv.up e⟩
theorem it_revT {a : Addr} {vs : List V} {ds : List D} {Hb1 : Hp} (h : SqT K Hb1 a vs) (r : RepL K Hb1 vs ds) : ItOk K (RT.ItvT K a vs.length) Hb1 ds.reverse := by
  intro f σ H2 s Hb2 e R i
  have h2 : SqT K H2 a vs := ex_t (e.trans R.hb) h
  have hl := r.len
  refine ⟨fun d hd => ?_, fun hi => by rw [List.length_reverse, ← hl] at hi; exact hi⟩
  have hi := (List.getElem?_eq_some_iff.mp hd).1
  rw [List.length_reverse] at hi
  rw [List.getElem?_reverse hi] at hd
  obtain ⟨v, hv, rv⟩ := r.get hd
  rw [← hl] at hv
  refine ⟨⟨by omega, vs, v, h2, hv⟩, fun x H' y => ?_⟩
  obtain ⟨rfl, y⟩ := y
  have := (y vs h2).symm.trans hv
  cases this
  exact ⟨Hb2, Ex.refl _, R, rv.up e⟩
theorem snd_iRev {te : TE} {me : ME} (he : SndE K te me) : SndI K (RT.iRevA K te) (iRev me) := by
  intro f σ H s Hb items s' R h Rk q
  obtain ⟨a, h1, h⟩ := bnd h
  obtain ⟨b, h2, h⟩ := bnd h
  obtain ⟨ds, h3, h⟩ := bnd h
  cases h
  obtain ⟨d, s2⟩ := b
  refine he f σ H s Hb _ _ R h1 _ fun v H1 Hb1 e1 R1 r1 => ?_
  obtain ⟨Hb2, e2, R2, r2⟩ := frz_ok R1 r1 h2
  cases d with
  | tup es =>
    cases h3
    cases r2 with
    | tup x y => exact ⟨_, _, rfl, .inr ⟨ex_t R2.hb x, q _ _ _ (e1.trans e2) R2 (it_revT x y)⟩⟩
  | lst es =>
    cases h3
    cases r2 with
    | lst x y => exact ⟨_, _, rfl, .inl ⟨ex_l R2.hb (sq_of x), q _ _ _ (e1.trans e2) R2 (it_rev (sq_of x) y)⟩⟩
  | fro es =>
    cases h3
    cases r2 with
    | fro x y => exact ⟨_, _, rfl, .inl ⟨ex_l R2.hb x, q _ _ _ (e1.trans e2) R2 (it_rev x y)⟩⟩
  | _ => cases h3
theorem bInt_of {b : Bv} {i : Int} (h : bInt b = some i) : b = .dat (.int i) := by
  cases b with
  | slot j => cases h
  | dat d => cases d <;> first | (cases h; rfl) | cases h
theorem snd_iR1 {ta : TA} {ma : MA} (ha : SndA K ta ma) : SndI K (iRng1 ta) (iR1 ma) := by
  intro f σ H s Hb items s' R h Rk q
  obtain ⟨a, h1, h⟩ := bnd h
  obtain ⟨as, s1⟩ := a
  match as, h with
  | [x], h =>
    obtain ⟨n, h2, h⟩ := bnd h
    obtain ⟨h3, h4⟩ := ite_some h
    cases h4
    rw [bInt_of h2] at h1
    refine ha f σ H s Hb _ _ R h1 _ fun vs H1 Hb1 e1 R1 r1 => ?_
    match vs, r1 with
    | [v], r1 =>
      cases r1.1
      exact ⟨n, rfl, by omega, by omega, q _ _ _ e1 R1 (it_rng _ _ _)⟩
theorem snd_iR2 {ta : TA} {ma : MA} (ha : SndA K ta ma) : SndI K (iRng2 ta) (iR2 ma) := by
  intro f σ H s Hb items s' R h Rk q
  obtain ⟨a, h1, h⟩ := bnd h
  obtain ⟨as, s1⟩ := a
  match as, h with
  | [x, y], h =>
    obtain ⟨m, h2, h⟩ := bnd h
    obtain ⟨n, h5, h⟩ := bnd h
    obtain ⟨h3, h4⟩ := ite_some h
    cases h4
    rw [bInt_of h2, bInt_of h5] at h1
    refine ha f σ H s Hb _ _ R h1 _ fun vs H1 Hb1 e1 R1 r1 => ?_
    match vs, r1 with
    | [v, w], r1 =>
      cases r1.1
      cases r1.2.1
      exact ⟨m, n, rfl, ⟨by omega, by omega, by omega, by omega⟩, q _ _ _ e1 R1 (it_rng _ _ _)⟩
/-! targets -/
theorem wipe_get (vs : List Nat) (σ : L2.St) (j : Nat) (h : j ∉ vs) : (wipe σ vs)[j]? = σ[j]? := wipe_out h
theorem wipe_len (vs : List Nat) (σ : L2.St) : (wipe σ vs).length = σ.length := wipe_length σ vs
theorem wipe_at : ∀ (vs : List Nat) (σ : L2.St) (j : Nat), j ∈ vs → j < σ.length → (wipe σ vs)[j]? = some none
  | v :: vs, σ, j, h, hl => by
    show ((wipe σ vs).set v none)[j]? = _
    by_cases h1 : v = j
    · subst h1
      rw [List.getElem?_set_self (by rw [wipe_len]; exact hl)]
    · rw [List.getElem?_set_ne h1]
      rcases List.mem_cons.mp h with z | z
      · exact absurd z.symm h1
      · exact wipe_at vs σ j z hl
theorem wipe_ext {σ σ' : L2.St} {vs : List Nat} (hl : σ.length = σ'.length) (h : ∀ j, j ∉ vs → σ[j]? = σ'[j]?) : wipe σ vs = wipe σ' vs := by
  apply List.ext_getElem?
  intro j
  by_cases hj : j ∈ vs
  · by_cases hz : j < σ.length
    · rw [wipe_at vs σ j hj hz, wipe_at vs σ' j hj (by rw [← hl]; exact hz)]
    · rw [List.getElem?_eq_none (by rw [wipe_len]; omega), List.getElem?_eq_none (by rw [wipe_len]; omega)]
  · rw [wipe_get vs σ j hj, wipe_get vs σ' j hj, h j hj]
theorem wipe_set {σ : L2.St} {vs : List Nat} {i : Nat} {o : Option V} (h : i ∈ vs) : wipe (σ.set i o) vs = wipe σ vs :=
  wipe_ext (by rw [List.length_set]) fun j hj => List.getElem?_set_ne (fun z => hj (by rw [← z]; exact h))
theorem wipe_wipe (σ : L2.St) (vs : List Nat) : wipe (wipe σ vs) vs = wipe σ vs := wipe_ext (wipe_len vs σ) fun j hj => wipe_get vs σ j hj
theorem snd_gNm (i : Nat) : SndG K (gName i) (gNm i) [i] := by
  intro f σ H s Hb d v s' R r h Q q
  cases h
  exact q _ H Hb (Ex.refl _) (R.set i r) fun vs hw => wipe_set (hw i List.mem_cons_self)
theorem snd_gsNil : SndGs K gNil gsNil [] := by
  intro f σ H s Hb ds vs s' R r h Q q
  match ds, h with
  | [], h =>
    cases h
    cases r
    exact ⟨rfl, q _ H Hb (Ex.refl _) R fun _ _ => rfl⟩
theorem snd_gsCons {g : TG} {gs : TGs} {mg : MG} {ms : List D → Sto → Option Sto} {w1 w2 : List Nat} (h1 : SndG K g mg w1) (h2 : SndGs K gs ms w2) : SndGs K (gCons g gs) (gsCons mg ms) (w1 ++ w2) := by
  intro f σ H s Hb ds vs s' R r h Q q
  match ds, h with
  | d :: ds, h =>
    obtain ⟨s1, g1, h⟩ := bnd h
    cases r with
    | cons a t =>
      refine ⟨_, _, rfl, h1 f σ H s Hb _ _ _ R a g1 _ fun σ1 H1 Hb1 e1 R1 k1 => h2 f σ1 H1 _ Hb1 _ _ _ R1 (t.up e1) h _ fun σ2 H2 Hb2 e2 R2 k2 => ?_⟩
      exact q _ _ _ (e1.trans e2) R2 fun vs hw => (k2 vs fun w hm => hw w (List.mem_append_right _ hm)).trans (k1 vs fun w hm => hw w (List.mem_append_left _ hm))
theorem snd_gTp {gs : TGs} {ms : List D → Sto → Option Sto} {n : Nat} {ws : List Nat} (h : SndGs K gs ms ws) : SndG K (gTup K n gs) (gTp n ms) ws := by
  intro f σ H s Hb d v s' R r hm Q q
  cases d with
  | tup ds =>
    have hm : (if ds.length = n then ms ds s else none) = some s' := hm
    by_cases hn : ds.length = n
    · rw [if_pos hn] at hm
      cases r with
      | tup a b => exact ⟨_, _, rfl, ex_t R.hb a, by rw [b.len]; exact hn, h f σ H s Hb _ _ _ R b hm _ q⟩
    · rw [if_neg hn] at hm
      cases hm
  | _ => cases hm

/-! ### statements -/
section
variable {ta tb te : TE} {ma mb me : ME} {t : TT} {mt : MT} {t1 t2 : TS} {m1 m2 : MS} {tas : TA} {mas : MA} {g : TG} {mg : MG} {ws : List Nat}
theorem After.mono {f : Fr} {Hb Hb' : Hp} {s' : Sto} {E : Ends} {o : Out} (h : After K f Hb s' E o) (e : Ex Hb Hb') : After K f Hb' s' E o := by
  cases o with
  | nx => exact fun σ H Hb2 e2 R => h σ H Hb2 (e.trans e2) R
  | bk => exact fun σ H Hb2 e2 R => h σ H Hb2 (e.trans e2) R
  | ct => exact fun σ H Hb2 e2 R => h σ H Hb2 (e.trans e2) R
  | rt d => exact fun v σ H Hb2 e2 R r => h v σ H Hb2 (e.trans e2) R r
theorem snd_next : SndS K tNext mNext := by
  intro f σ H s Hb o s' R h E q
  cases h
  exact q σ H Hb (Ex.refl _) R
theorem snd_brk : SndS K tBreak mBrk := by
  intro f σ H s Hb o s' R h E q
  cases h
  exact q σ H Hb (Ex.refl _) R
theorem snd_cnt : SndS K tCont mCnt := by
  intro f σ H s Hb o s' R h E q
  cases h
  exact q σ H Hb (Ex.refl _) R
theorem snd_never : SndS K tNever mNever := by
  intro f σ H s Hb o s' R h E q
  cases h
theorem snd_seq (h1 : SndS K t1 m1) (h2 : SndS K t2 m2) : SndS K (tSeq t1 t2) (mSeq m1 m2) := by
  intro f σ H s Hb o s' R h E q
  obtain ⟨r, g1, h⟩ := bnd h
  obtain ⟨ro, rs⟩ := r
  refine h1 f σ H s Hb _ _ R g1 _ ?_
  cases ro with
  | nx => exact fun σ' H' Hb' e R' => h2 f σ' H' _ Hb' _ _ R' h _ (q.mono e)
  | bk => cases h; exact q
  | ct => cases h; exact q
  | rt d => cases h; exact q
theorem snd_if (ht : SndT K t mt) (h1 : SndS K t1 m1) (h2 : SndS K t2 m2) : SndS K (tIfS t t1 t2) (mIf mt m1 m2) := by
  intro f σ H s Hb o s' R h E q
  obtain ⟨c, g1, h⟩ := bnd h
  refine ht f σ H s Hb _ _ R g1 _ fun H1 Hb1 e1 R1 => ?_
  by_cases hc : c.1 = true
  · rw [if_pos hc] at h ⊢
    exact h1 f σ H1 _ Hb1 _ _ R1 h _ (q.mono e1)
  · rw [if_neg hc] at h ⊢
    exact h2 f σ H1 _ Hb1 _ _ R1 h _ (q.mono e1)
theorem snd_asg (he : SndE K te me) (hg : SndG K g mg ws) : SndS K (tAsg te g) (mAsg me mg) := by
  intro f σ H s Hb o s' R h E q
  obtain ⟨a, g1, h⟩ := bnd h
  obtain ⟨b, g2, h⟩ := bnd h
  obtain ⟨c, g3, h⟩ := bnd h
  cases h
  refine he f σ H s Hb _ _ R g1 _ fun v H1 Hb1 e1 R1 r1 => ?_
  obtain ⟨Hb2, e2, R2, r2⟩ := frz_ok R1 r1 g2
  exact hg f σ H1 _ Hb2 _ _ _ R2 r2 g3 _ fun σ' H' Hb' e' R' _ => q _ _ _ ((e1.trans e2).trans e') R'
theorem snd_asgF {mf : MF} (i : Nat) (he : SndF K te mf) : SndS K (tAsg te (gName i)) (mAsgF mf i) := by
  intro f σ H s Hb o s' R h E q
  obtain ⟨a, g1, h⟩ := bnd h
  cases h
  refine he f σ H s Hb _ _ R g1 _ fun p H1 Hb1 e1 R1 n => ?_
  obtain ⟨n0, n1, n2, ⟨vs, n3, n4⟩, n5⟩ := n
  exact q _ _ _ e1 (R1.setOwn i n0 n1 n2 n3 n4 n5)
theorem snd_expr (he : SndE K te me) : SndS K (tDrop te) (mExpr me) := by
  intro f σ H s Hb o s' R h E q
  obtain ⟨a, g1, h⟩ := bnd h
  cases h
  exact he f σ H s Hb _ _ R g1 _ fun v H1 Hb1 e1 R1 r1 => q _ _ _ e1 R1
theorem snd_ret (he : SndE K te me) : SndS K (tRet te) (mRet me) := by
  intro f σ H s Hb o s' R h E q
  obtain ⟨a, g1, h⟩ := bnd h
  obtain ⟨b, g2, h⟩ := bnd h
  cases h
  refine he f σ H s Hb _ _ R g1 _ fun v H1 Hb1 e1 R1 r1 => ?_
  obtain ⟨Hb2, e2, R2, r2⟩ := frz_ok R1 r1 g2
  exact q _ _ _ _ (e1.trans e2) R2 r2
theorem snd_retN : SndS K tRetN mRetN := by
  intro f σ H s Hb o s' R h E q
  cases h
  exact q _ σ H Hb (Ex.refl _) R .non
theorem snd_par (i j : Nat) (ha : SndA K tas mas) : SndS K (tPar i j tas) (mPar i j mas) := by
  intro f σ H s Hb o s' R h E q
  obtain ⟨a, g1, h⟩ := bnd h
  obtain ⟨b, g2, h⟩ := bnd h
  obtain ⟨bs, s2⟩ := b
  match bs, h with
  | [x, y], h =>
    cases h
    refine ha f σ H s Hb _ _ R g1 _ fun vs H1 Hb1 e1 R1 r1 => ?_
    obtain ⟨Hb2, e2, R2, r2⟩ := frzs_ok R1 r1 g2
    cases r2 with
    | cons a1 t1 =>
      cases t1 with
      | cons a2 t2 =>
        cases t2
        exact ⟨_, _, rfl, q _ _ _ (e1.trans e2) ((R2.set i a1).set j a2)⟩
theorem snd_aug {r : R2} {gg : D → D → Option D} (i : Nat) (hr : SndR K r gg) (he : SndE K te me) : SndS K (tAug i te r) (mAug i gg me) := by
  intro f σ H s Hb o s' R h E q
  unfold mAug at h
  cases e : s[i]? with
  | none => simp [e] at h
  | some sv =>
    obtain ⟨ov, ho, k⟩ := R.slot e
    cases sv with
    | dat x =>
      simp only [e] at h
      obtain ⟨b, g2, h⟩ := bnd h
      obtain ⟨y, g3, h⟩ := bnd h
      obtain ⟨z, g4, h⟩ := bnd h
      cases h
      obtain ⟨v, rfl, rv⟩ := k
      refine ⟨v, ho, he f σ H s Hb _ _ R g2 _ fun w H1 Hb1 e1 R1 r1 => ?_⟩
      exact hr H1 Hb1 v w x y _ R1.hb (.inl (rv.up e1)) (look_ok R1 r1 g3) g4 _ (fun v' rv' => q _ _ _ e1 (R1.set i rv'))
        fun p o hp rp => q _ _ _ (e1.trans (R1.new o hp).1) ((R1.new o hp).2.set i rp)
    | _ => simp [e] at h
/-! lists that change -/
theorem lsAt_of {j : Nat} {ds : List D} (h : lsAt s j = some ds) : ∃ sv, s[j]? = some sv ∧ sv.ls = some ds ∧ ∀ es, putAt s j es = some (s.set j (sv.put es)) := by
  unfold lsAt at h
  cases e : s[j]? with
  | none => simp [e] at h
  | some sv =>
    cases sv with
    | un => simp [e] at h
    | dat d => simp [e] at h
    | own d => simp [e] at h; subst h; exact ⟨_, rfl, rfl, fun es => by unfold putAt; rw [e]; rfl⟩
    | par d => simp [e] at h; subst h; exact ⟨_, rfl, rfl, fun es => by unfold putAt; rw [e]; rfl⟩
/-- the list at the slot j is changed where it stands -/
theorem Rw.write (R : Rw K f σ H s Hb) {j : Nat} {ds es : List D} {ws : List V} {s' : Sto} (h1 : lsAt s j = some ds) (h2 : putAt s j es = some s') {l : Addr} (hl : σ[j]? = some (some (.ref l))) (r : RepL K Hb ws es) : Rw K f σ (upd H l (.lst ws)) s' Hb := by
  obtain ⟨sv, g1, g2, g3⟩ := lsAt_of h1
  rw [g3] at h2
  cases h2
  obtain ⟨l', vs, k1, k2, k3, k4, k5⟩ := R.list g1 g2
  rw [hl] at k1
  cases k1
  exact R.stepAt g1 g2 hl (Ex.refl _) (Ex.mut R.hb k2) (fun _ _ => rfl) (fun a o ha h => by rw [upd_ne ha]; exact h) upd_same r
theorem Rw.lst (R : Rw K f σ H s Hb) {j : Nat} {ds : List D} (h : lsAt s j = some ds) : ∃ l vs, σ[j]? = some (some (.ref l)) ∧ H l = some (.lst vs) ∧ RepL K Hb vs ds := by
  obtain ⟨sv, g1, g2, _⟩ := lsAt_of h
  obtain ⟨l', vs, k1, k2, k3, k4, k5⟩ := R.list g1 g2
  exact ⟨l', vs, k1, k4, k5⟩
theorem snd_app (j : Nat) (he : SndE K te me) : SndS K (tDrop (tBM K "list" rAppend (tVar j) (tCons te tNil))) (mApp j me) := by
  intro f σ H s Hb o s' R h E q
  obtain ⟨d0, g0, h⟩ := bnd h
  obtain ⟨a, g1, h⟩ := bnd h
  obtain ⟨b, g2, h⟩ := bnd h
  obtain ⟨ds, g3, h⟩ := bnd h
  by_cases hl : ds.length < 16000000
  · rw [if_pos hl] at h
    obtain ⟨s2, g4, h⟩ := bnd h
    cases h
    obtain ⟨l, vs, k1, k2, k3⟩ := R.lst g0
    refine ⟨_, k1, .inl ⟨rfl, vs, sq_of k2⟩, ?_⟩
    refine he f σ H s Hb _ _ R g1 _ fun v H1 Hb1 e1 R1 r1 => ?_
    obtain ⟨Hb2, e2, R2, r2⟩ := frz_ok R1 r1 g2
    obtain ⟨l', ws, n1, n2, n3⟩ := R2.lst g3
    rw [k1] at n1
    cases n1
    exact ⟨l, ws, v, rfl, rfl, n2, lim_lt (by rw [n3.len]; exact hl), q _ _ _ (e1.trans e2) (R2.write g3 g4 k1 (n3.app (.cons r2 .nil)))⟩
  · rw [if_neg hl] at h
    cases h
theorem snd_ext (j : Nat) (he : SndE K te me) : SndS K (tDrop (tBM K "list" rExtend (tVar j) (tCons te tNil))) (mExt j me) := by
  intro f σ H s Hb o s' R h E q
  obtain ⟨d0, g0, h⟩ := bnd h
  obtain ⟨a, g1, h⟩ := bnd h
  obtain ⟨d, g2, h⟩ := bnd h
  cases d with
  | lst es =>
    obtain ⟨ds, g3, h⟩ := bnd h
    by_cases hl : ds.length + es.length ≤ 16000000
    · rw [if_pos hl] at h
      obtain ⟨s2, g4, h⟩ := bnd h
      cases h
      obtain ⟨l, vs, k1, k2, k3⟩ := R.lst g0
      refine ⟨_, k1, .inl ⟨rfl, vs, sq_of k2⟩, ?_⟩
      refine he f σ H s Hb _ _ R g1 _ fun v H1 Hb1 e1 R1 r1 => ?_
      obtain ⟨m, us, rfl, x1, x2⟩ := (look_ok R1 r1 g2).lst R1.hb
      obtain ⟨l', ws, n1, n2, n3⟩ := R1.lst g3
      rw [k1] at n1
      cases n1
      exact ⟨l, m, ws, us, rfl, rfl, n2, x1, lim_le (by rw [n3.len, x2.len]; exact hl), q _ _ _ e1 (R1.write g3 g4 k1 (n3.app x2))⟩
    · rw [if_neg hl] at h
      cases h
  | _ => cases h
theorem snd_set {ti : TE} {mi : ME} (j : Nat) (hi : SndE K ti mi) (he : SndE K te me) : SndS K (tAsg te (gSub (tVar j) ti rSetL)) (mSet j mi me) := by
  intro f σ H s Hb o s' R h E q
  obtain ⟨a, g1, h⟩ := bnd h
  obtain ⟨d0, g0, h⟩ := bnd h
  obtain ⟨b, g2, h⟩ := bnd h
  obtain ⟨i, g3, h⟩ := bnd h
  obtain ⟨c, g4, h⟩ := bnd h
  obtain ⟨ds, g5, h⟩ := bnd h
  obtain ⟨k, g6, h⟩ := bnd h
  obtain ⟨s2, g7, h⟩ := bnd h
  cases h
  refine he f σ H s Hb _ _ R g1 _ fun v H1 Hb1 e1 R1 r1 => ?_
  obtain ⟨l, _, k1, _, _⟩ := R1.lst g0
  refine ⟨_, k1, hi f σ H1 _ Hb1 _ _ R1 g2 _ fun w H2 Hb2 e2 R2 r2 => ?_⟩
  rw [bInt_of g3] at r2
  cases r2
  obtain ⟨Hb3, e3, R3, r3⟩ := frz_ok R2 (r1.up e2) g4
  obtain ⟨l', ws, n1, n2, n3⟩ := R3.lst g5
  rw [k1] at n1
  cases n1
  exact ⟨l, ws, i, k, rfl, rfl, n2, by rw [n3.len]; exact g6, q _ _ _ ((e1.trans e2).trans e3) (R3.write g5 g7 k1 (n3.set r3 k))⟩
theorem snd_for {wi : TI} {mi : MI} {tb : TS} {mb : MS} (hi : SndI K wi mi) (hg : SndG K g mg ws) (hb : SndS K tb mb) : SndS K (tFor wi g tb) (mFor mi mg mb) := by
  intro f σ H s Hb o s' R h E q
  obtain ⟨a, g1, h⟩ := bnd h
  obtain ⟨items, s1⟩ := a
  refine hi f σ H s Hb _ _ R g1 _ fun J H1 Hb1 e1 R1 it => ?_
  refine ⟨fun i m σ H => ∃ (t : Sto) (Hb2 : Hp), Ex Hb1 Hb2 ∧ Rw K f σ H t Hb2 ∧ forD mg mb (items.drop i) t = some (o, s') ∧ m = items.length - i, ⟨items.length, s1, Hb1, Ex.refl _, R1, h, rfl⟩, ?_⟩
  rintro i m σ2 H2 ⟨t, Hb2, e2, R2, h2, rfl⟩
  obtain ⟨k1, k2⟩ := it f σ2 H2 t Hb2 e2 R2 i
  by_cases hi : i < items.length
  · rw [List.drop_eq_getElem_cons hi] at h2
    obtain ⟨t1, h3, h2⟩ := bnd h2
    obtain ⟨r, h4, h2⟩ := bnd h2
    obtain ⟨go, yl⟩ := k1 _ (List.getElem?_eq_getElem hi)
    refine .inr ⟨go, fun σ' H' => ∃ (t : Sto) (Hb2 : Hp), Ex Hb1 Hb2 ∧ Rw K f σ' H' t Hb2 ∧ forD mg mb (items.drop (i + 1)) t = some (o, s'), fun σ' H' ⟨t', Hb', x1, x2, x3⟩ => ⟨items.length - (i + 1), by omega, t', Hb', x1, x2, x3, rfl⟩, fun x H' y => ?_⟩
    obtain ⟨Hb3, e3, R3, r3⟩ := yl x H' y
    refine hg f σ2 H' t Hb3 _ _ _ R3 r3 h3 _ fun σ4 H4 Hb4 e4 R4 _ => ?_
    refine hb f σ4 H4 _ Hb4 _ _ R4 h4 _ ?_
    have e14 : Ex Hb1 Hb4 := (e2.trans e3).trans e4
    obtain ⟨ro, rs⟩ := r
    cases ro with
    | nx => exact fun σ' H' Hb' e' R' => ⟨rs, Hb', e14.trans e', R', h2⟩
    | ct => exact fun σ' H' Hb' e' R' => ⟨rs, Hb', e14.trans e', R', h2⟩
    | bk =>
      cases h2
      exact fun σ' H' Hb' e' R' => q σ' H' Hb' (e1.trans (e14.trans e')) R'
    | rt d =>
      cases h2
      exact fun v σ' H' Hb' e' R' r' => q v σ' H' Hb' (e1.trans (e14.trans e')) R' r'
  · rw [List.drop_eq_nil_of_le (by omega)] at h2
    cases h2
    exact .inl ⟨k2 (by omega), q σ2 H2 Hb2 (e1.trans e2) R2⟩
theorem snd_while {tb : TS} {mb : MS} (fuel : Sto → Nat) (ht : SndT K t mt) (hb : SndS K tb mb) : SndS K (tWhile t tb) (mWhile fuel mt mb) := by
  intro f σ H s Hb o s' R h E q
  refine ⟨fun m σ H => ∃ (t : Sto) (Hb2 : Hp), Ex Hb Hb2 ∧ Rw K f σ H t Hb2 ∧ whD mt mb m t = some (o, s'), ⟨fuel s, s, Hb, Ex.refl _, R, h⟩, ?_⟩
  rintro m σ2 H2 ⟨t2, Hb2, e2, R2, h2⟩
  cases m with
  | zero => cases h2
  | succ m =>
    obtain ⟨c, h3, h2⟩ := bnd h2
    refine ht f σ2 H2 t2 Hb2 _ _ R2 h3 _ fun H3 Hb3 e3 R3 => ?_
    by_cases hc : c.1 = true
    · rw [if_pos hc] at h2 ⊢
      obtain ⟨r, h4, h2⟩ := bnd h2
      refine ⟨fun σ' H' => ∃ (t : Sto) (Hb2 : Hp), Ex Hb Hb2 ∧ Rw K f σ' H' t Hb2 ∧ whD mt mb m t = some (o, s'), fun σ' H' x => ⟨m, Nat.lt_succ_self m, x⟩, ?_⟩
      refine hb f σ2 H3 _ Hb3 _ _ R3 h4 _ ?_
      obtain ⟨ro, rs⟩ := r
      cases ro with
      | nx => exact fun σ' H' Hb' e' R' => ⟨rs, Hb', (e2.trans e3).trans e', R', h2⟩
      | ct => exact fun σ' H' Hb' e' R' => ⟨rs, Hb', (e2.trans e3).trans e', R', h2⟩
      | bk =>
        cases h2
        exact fun σ' H' Hb' e' R' => q σ' H' Hb' ((e2.trans e3).trans e') R'
      | rt d =>
        cases h2
        exact fun v σ' H' Hb' e' R' r' => q v σ' H' Hb' ((e2.trans e3).trans e') R' r'
    · rw [if_neg hc] at h2 ⊢
      cases h2
      exact q σ2 H3 Hb3 (e2.trans e3) R3

/-! ### comprehensions -/
theorem wipeS_get : ∀ (vs : List Nat) (s : Sto) (j : Nat), j ∉ vs → (wipeS s vs)[j]? = s[j]?
  | [], s, j, _ => rfl
  | v :: vs, s, j, h => by
    show ((wipeS s vs).set v .un)[j]? = _
    rw [List.getElem?_set_ne (fun z => h (by rw [z]; exact List.mem_cons_self)), wipeS_get vs s j fun z => h (List.mem_cons_of_mem _ z)]
theorem wipeS_len : ∀ (vs : List Nat) (s : Sto), (wipeS s vs).length = s.length
  | [], _ => rfl
  | v :: vs, s => by
    show ((wipeS s vs).set v .un).length = _
    rw [List.length_set, wipeS_len vs]
theorem wipeS_at : ∀ (vs : List Nat) (s : Sto) (j : Nat), j ∈ vs → j < s.length → (wipeS s vs)[j]? = some .un
  | v :: vs, s, j, h, hl => by
    show ((wipeS s vs).set v .un)[j]? = _
    by_cases h1 : v = j
    · subst h1
      rw [List.getElem?_set_self (by rw [wipeS_len]; exact hl)]
    · rw [List.getElem?_set_ne h1]
      rcases List.mem_cons.mp h with z | z
      · exact absurd z.symm h1
      · exact wipeS_at vs s j z hl
theorem backS_get : ∀ (vs : List Nat) (s0 s : Sto) (j : Nat), j ∉ vs → (backS s0 s vs)[j]? = s[j]?
  | [], s0, s, j, _ => rfl
  | v :: vs, s0, s, j, h => by
    show ((backS s0 s vs).set v ((s0[v]?.getD .un).back))[j]? = _
    rw [List.getElem?_set_ne (fun z => h (by rw [z]; exact List.mem_cons_self)), backS_get vs s0 s j fun z => h (List.mem_cons_of_mem _ z)]
theorem backS_len : ∀ (vs : List Nat) (s0 s : Sto), (backS s0 s vs).length = s.length
  | [], _, _ => rfl
  | v :: vs, s0, s => by
    show ((backS s0 s vs).set v _).length = _
    rw [List.length_set, backS_len vs]
theorem backS_at : ∀ (vs : List Nat) (s0 s : Sto) (j : Nat), j ∈ vs → j < s.length → (backS s0 s vs)[j]? = some ((s0[j]?.getD .un).back)
  | v :: vs, s0, s, j, h, hl => by
    show ((backS s0 s vs).set v ((s0[v]?.getD .un).back))[j]? = _
    by_cases h1 : v = j
    · subst h1
      rw [List.getElem?_set_self (by rw [backS_len]; exact hl)]
    · rw [List.getElem?_set_ne h1]
      rcases List.mem_cons.mp h with z | z
      · exact absurd z.symm h1
      · exact backS_at vs s0 s j z hl
theorem Rw.wipe (R : Rw K f σ H s Hb) (vs : List Nat) : Rw K f (L2.wipe σ vs) H (wipeS s vs) Hb where
  hb := R.hb
  up := R.up
  ag := R.ag
  kp := R.kp
  os := R.os
  len := by rw [wipeS_len, wipe_len]; exact R.len
  ok := fun i sv o h1 h2 => by
    by_cases hi : i ∈ vs
    · have hl : i < s.length := by
        have := (List.getElem?_eq_some_iff.mp h1).1
        rw [wipeS_len] at this
        exact this
      rw [wipeS_at vs s i hi hl] at h1
      cases h1
      trivial
    · rw [wipeS_get vs s i hi] at h1
      rw [wipe_get vs σ i hi] at h2
      exact R.ok i sv o h1 h2
  dist := fun a b sa sb hab ha hb oa ob => by
    have nv : ∀ (c : Nat) (sc : SV), (wipeS s vs)[c]? = some sc → sc.owns = true → c ∉ vs := fun c sc h o hc => by
      have hl : c < s.length := by
        have := (List.getElem?_eq_some_iff.mp h).1
        rw [wipeS_len] at this
        exact this
      rw [wipeS_at vs s c hc hl] at h
      cases h
      cases o
    have na := nv a sa ha oa
    have nb := nv b sb hb ob
    rw [wipeS_get vs s a na] at ha
    rw [wipeS_get vs s b nb] at hb
    rw [wipe_get vs σ a na, wipe_get vs σ b nb]
    exact R.dist a b sa sb hab ha hb oa ob
theorem Rw.back {s1 t : Sto} {Hb1 Hb2 : Hp} {H1 H2 : Hp} {vs : List Nat} (R1 : Rw K f σ H1 s1 Hb1) (R2 : Rw K f (L2.wipe σ vs) H2 (wipeS t vs) Hb2) (e : Ex Hb1 Hb2) : Rw K f σ H2 (backS s1 (wipeS t vs) vs) Hb2 where
  hb := R2.hb
  up := R2.up
  ag := R2.ag
  kp := R2.kp
  os := R2.os
  len := by
    have := R2.len
    rw [wipe_len] at this
    rw [backS_len]
    exact this
  ok := fun i sv o h1 h2 => by
    by_cases hi : i ∈ vs
    · have hl : i < (wipeS t vs).length := by
        have := (List.getElem?_eq_some_iff.mp h1).1
        rw [backS_len] at this
        exact this
      rw [backS_at vs s1 _ i hi hl] at h1
      cases h1
      cases e1 : s1[i]? with
      | none => trivial
      | some sx =>
        have k := R1.ok i sx o e1 h2
        cases sx with
        | dat d =>
          obtain ⟨v, rfl, r⟩ := k
          exact ⟨v, rfl, r.up e⟩
        | _ => trivial
    · rw [backS_get vs s1 _ i hi] at h1
      rw [← wipe_get vs σ i hi] at h2
      exact R2.ok i sv o h1 h2
  dist := fun a b sa sb hab ha hb oa ob => by
    have nv : ∀ (c : Nat) (sc : SV), (backS s1 (wipeS t vs) vs)[c]? = some sc → sc.owns = true → c ∉ vs := fun c sc h o hc => by
      have hl : c < (wipeS t vs).length := by
        have := (List.getElem?_eq_some_iff.mp h).1
        rw [backS_len] at this
        exact this
      rw [backS_at vs s1 _ c hc hl] at h
      cases h
      cases e1 : s1[c]? with
      | none => rw [e1] at o; cases o
      | some sx =>
        rw [e1] at o
        cases sx <;> cases o
    have na := nv a sa ha oa
    have nb := nv b sb hb ob
    rw [backS_get vs s1 _ a na] at ha
    rw [backS_get vs s1 _ b nb] at hb
    rw [← wipe_get vs σ a na, ← wipe_get vs σ b nb]
    exact R2.dist a b sa sb hab ha hb oa ob
theorem Rw.guard (R : Rw K f σ H s Hb) {p : Addr} {o : HO} (h0 : Hb p = none) (h1 : f.P p = none) (h2 : f.os ≠ some p) (h3 : H p = some o) (h5 : ∀ (j : Nat) (sv : SV), s[j]? = some sv → sv.owns = true → σ[j]? ≠ some (some (.ref p))) : Rw K (f.grd p o) σ H s Hb where
  hb := R.hb
  up := R.up
  ag := fun a ha => by
    by_cases e : a = p
    · subst e
      rw [h0]
      exact (fresh_back R.up h0).symm
    · refine R.ag a fun z => ha ?_
      show upd f.P p o a = none
      rw [upd_ne e]
      exact z
  kp := fun a u h => by
    have h : upd f.P p o a = some u := h
    by_cases e : a = p
    · subst e
      rw [upd_same] at h
      cases h
      exact h3
    · rw [upd_ne e] at h
      exact R.kp a u h
  os := fun l h => by
    obtain ⟨k1, k2, k3⟩ := R.os l h
    refine ⟨k1, ?_, k3⟩
    show upd f.P p o l = none
    have h : f.os = some l := h
    rw [upd_ne (fun z => h2 (by rw [h, z]))]
    exact k2
  len := R.len
  ok := fun i sv ov g1 g2 => by
    have k := R.ok i sv ov g1 g2
    cases sv with
    | un => trivial
    | dat d => exact k
    | own ds =>
      obtain ⟨l, vs, rfl, a1, a2, a3, a4, a5⟩ := k
      refine ⟨l, vs, rfl, a1, ?_, a3, a4, a5⟩
      show upd f.P p o l = none
      rw [upd_ne (fun z => h5 i _ g1 rfl (by rw [g2, z]))]
      exact a2
    | par ds =>
      obtain ⟨l, vs, rfl, a1, a2, a4, a5⟩ := k
      exact ⟨l, vs, rfl, a1, a2, a4, a5⟩
  dist := R.dist
theorem Rw.unguard {p : Addr} {o : HO} (R : Rw K (f.grd p o) σ H s Hb) (h1 : f.P p = none) (hB : f.B p = none) : Rw K f σ H s Hb ∧ Hb p = none ∧ H p = some o ∧ ∀ (j : Nat) (sv : SV), s[j]? = some sv → sv.owns = true → σ[j]? ≠ some (some (.ref p)) := by
  have hp : (f.grd p o).P p = some o := upd_same
  have hbp : Hb p = none := by
    have := R.ag p (by rw [hp]; simp)
    rw [this]
    exact hB
  refine ⟨⟨R.hb, R.up, fun a ha => R.ag a fun z => ?_, fun a u h => R.kp a u ?_, fun l h => ?_, R.len, fun i sv ov g1 g2 => ?_, R.dist⟩, hbp, R.kp p o hp, fun j sv g ow e => ?_⟩
  · have z : upd f.P p o a = none := z
    by_cases e : a = p
    · subst e; rw [upd_same] at z; cases z
    · rw [upd_ne e] at z; exact ha z
  · show upd f.P p o a = some u
    rw [upd_ne (fun z => by rw [z, h1] at h; cases h)]
    exact h
  · obtain ⟨k1, k2, k3⟩ := R.os l h
    refine ⟨k1, ?_, k3⟩
    have k2 : upd f.P p o l = none := k2
    by_cases e : l = p
    · subst e; exact h1
    · rw [upd_ne e] at k2; exact k2
  · have k := R.ok i sv ov g1 g2
    cases sv with
    | un => trivial
    | dat d => exact k
    | own ds =>
      obtain ⟨l, vs, rfl, a1, a2, a3, a4, a5⟩ := k
      refine ⟨l, vs, rfl, a1, ?_, a3, a4, a5⟩
      have a2 : upd f.P p o l = none := a2
      by_cases e : l = p
      · subst e; exact h1
      · rw [upd_ne e] at a2; exact a2
    | par ds =>
      obtain ⟨l, vs, rfl, a1, a2, a4, a5⟩ := k
      exact ⟨l, vs, rfl, a1, a2, a4, a5⟩
  · have : ∃ es, sv.ls = some es := by cases sv <;> first | exact ⟨_, rfl⟩ | cases ow
    obtain ⟨es, hes⟩ := this
    obtain ⟨l, ws, q1, _, q3, _, _⟩ := R.list g hes
    rw [e] at q1
    cases q1
    rw [hp] at q3
    cases q3
/-- the new list grows -/
theorem Rw.bump (R : Rw K f σ H s Hb) {p : Addr} {ws : List V} (h0 : Hb p = none) (h1 : f.P p = none) (h2 : f.os ≠ some p) (h5 : ∀ (j : Nat) (sv : SV), s[j]? = some sv → sv.owns = true → σ[j]? ≠ some (some (.ref p))) : Rw K f σ (upd H p (.lst ws)) s Hb where
  hb := Ex.mut R.hb h0
  up := R.up
  ag := R.ag
  kp := fun a o h => by
    rw [upd_ne (fun z => by rw [z, h1] at h; cases h)]
    exact R.kp a o h
  os := fun l h => by
    obtain ⟨k1, k2, vs, k3⟩ := R.os l h
    exact ⟨k1, k2, vs, by rw [upd_ne (fun z => h2 (by rw [h, z]))]; exact k3⟩
  len := R.len
  ok := fun i sv ov g1 g2 => by
    have k := R.ok i sv ov g1 g2
    cases sv with
    | un => trivial
    | dat d => exact k
    | own ds =>
      obtain ⟨l, vs, rfl, a1, a2, a3, a4, a5⟩ := k
      exact ⟨l, vs, rfl, a1, a2, a3, by rw [upd_ne (fun z => h5 i _ g1 rfl (by rw [g2, z]))]; exact a4, a5⟩
    | par ds =>
      obtain ⟨l, vs, rfl, a1, a2, a4, a5⟩ := k
      exact ⟨l, vs, rfl, a1, a2, by rw [upd_ne (fun z => h5 i _ g1 rfl (by rw [g2, z]))]; exact a4, a5⟩
  dist := R.dist
theorem snd_yes : SndT K tYes mYes := by
  intro f σ H s Hb b s' R h Q q
  cases h
  exact q H Hb (Ex.refl _) R
theorem owns_wipe {vs : List Nat} {t : Sto} {p : Addr} (h : ∀ (j : Nat) (sv : SV), t[j]? = some sv → sv.owns = true → σ[j]? ≠ some (some (.ref p))) : ∀ (j : Nat) (sv : SV), (wipeS t vs)[j]? = some sv → sv.owns = true → (L2.wipe σ vs)[j]? ≠ some (some (.ref p)) := fun j sv g o => by
  have nj : j ∉ vs := fun hc => by
    have hl : j < t.length := by
      have := (List.getElem?_eq_some_iff.mp g).1
      rw [wipeS_len] at this
      exact this
    rw [wipeS_at vs t j hc hl] at g
    cases g
    cases o
  rw [wipeS_get vs t j nj] at g
  rw [wipe_get vs σ j nj]
  exact h j sv g o
theorem snd_lc {wi : TI} {mi : MI} {vs : List Nat} (hi : SndI K wi mi) (hg : SndG K g mg ws) (ht : SndT K t mt) (he : SndE K te me) (hw : ∀ w ∈ ws, w ∈ vs) : SndF K (tLc wi g t te vs) (mLc mi mg mt me vs) := by
  intro f σ H s Hb ds s' R h Q q
  obtain ⟨a, g1, h⟩ := bnd h
  obtain ⟨items, s1⟩ := a
  obtain ⟨b, g2, h⟩ := bnd h
  obtain ⟨ds', s2⟩ := b
  obtain ⟨rfl, rfl⟩ : ds' = ds ∧ backS s1 (wipeS s2 vs) vs = s' := by
    cases h
    exact ⟨rfl, rfl⟩
  refine hi f σ H s Hb _ _ R g1 _ fun J H1 Hb1 e1 R1 it Dl hD => ?_
  obtain ⟨z0, z1, z2⟩ := R1.fresh hD
  have A1 := R1.alloc (vs := []) (ds := []) hD .nil
  refine ⟨fun i m H => ∃ (t : Sto) (Hb2 : Hp) (acc : List D) (va : List V), Ex Hb1 Hb2 ∧ Rw K f (L2.wipe σ vs) H (wipeS t vs) Hb2 ∧ Hb2 Dl = none ∧ H Dl = some (.lst va) ∧ RepL K Hb2 va acc ∧
    (∀ (j : Nat) (sv : SV), (wipeS t vs)[j]? = some sv → sv.owns = true → (L2.wipe σ vs)[j]? ≠ some (some (.ref Dl))) ∧ compD vs mg mt me (items.drop i) acc t = some (ds', s2) ∧ m = items.length - i,
    ⟨items.length, s1, Hb1, [], [], Ex.refl _, A1.1.wipe vs, z0, upd_same, .nil, owns_wipe A1.2.h5, g2, rfl⟩, ?_⟩
  rintro i m H2 ⟨t2, Hb2, acc, va, e2, R2, n0, n3, n4, n5, h2, rfl⟩
  obtain ⟨k1, k2⟩ := it f _ H2 _ Hb2 e2 R2 i
  by_cases hi : i < items.length
  · rw [List.drop_eq_getElem_cons hi] at h2
    obtain ⟨t3, h3, h2⟩ := bnd h2
    obtain ⟨c, h4, h2⟩ := bnd h2
    obtain ⟨go, _⟩ := k1 _ (List.getElem?_eq_getElem hi)
    have G2 := R2.guard n0 z1 z2 n3 n5
    have hB : f.B Dl = none := fresh_back R2.up n0
    obtain ⟨kg1, _⟩ := it (f.grd Dl (.lst va)) _ H2 _ Hb2 e2 G2 i
    obtain ⟨_, yl⟩ := kg1 _ (List.getElem?_eq_getElem hi)
    refine .inr ⟨go, fun H' => ∃ (t : Sto) (Hb2 : Hp) (acc : List D) (va : List V), Ex Hb1 Hb2 ∧ Rw K f (L2.wipe σ vs) H' (wipeS t vs) Hb2 ∧ Hb2 Dl = none ∧ H' Dl = some (.lst va) ∧ RepL K Hb2 va acc ∧
      (∀ (j : Nat) (sv : SV), (wipeS t vs)[j]? = some sv → sv.owns = true → (L2.wipe σ vs)[j]? ≠ some (some (.ref Dl))) ∧ compD vs mg mt me (items.drop (i + 1)) acc t = some (ds', s2),
      fun H' ⟨t', Hb', acc', va', x1, x2, x3, x4, x5, x6, x7⟩ => ⟨items.length - (i + 1), by omega, t', Hb', acc', va', x1, x2, x3, x4, x5, x6, x7, rfl⟩, fun x H' y => ?_⟩
    obtain ⟨Hb3, e3, G3, r3⟩ := yl x H' y
    refine hg _ _ H' _ Hb3 _ _ _ G3 r3 h3 _ fun σ4 H4 Hb4 e4 G4 hw4 => ?_
    have ew : L2.wipe σ4 vs = L2.wipe σ vs := (hw4 vs hw).trans (wipe_wipe σ vs)
    refine ⟨ew, ?_⟩
    refine ht _ σ4 H4 _ Hb4 _ _ G4 h4 _ fun H5 Hb5 e5 G5 => ?_
    have e15 : Ex Hb1 Hb5 := ((e2.trans e3).trans e4).trans e5
    by_cases hc : c.1 = true
    · rw [if_pos hc] at h2 ⊢
      obtain ⟨r, h6, h2⟩ := bnd h2
      obtain ⟨b, h7, h2⟩ := bnd h2
      by_cases hl : acc.length < 16000000
      · rw [if_pos hl] at h2
        refine he _ σ4 H5 _ Hb5 _ _ G5 h6 _ fun v H6 Hb6 e6 G6 r6 => ?_
        obtain ⟨Hb7, e7, G7, r7⟩ := frz_ok G6 r6 h7
        obtain ⟨R7, m0, m3, m5⟩ := G7.unguard z1 hB
        have e27 : Ex Hb2 Hb7 := ((((e3.trans e4).trans e5).trans e6).trans e7)
        refine ⟨va, m3, lim_lt (by rw [n4.len]; exact hl), b.2, Hb7, acc ++ [b.1], va ++ [v], e2.trans e27, ?_, m0, upd_same, (n4.up e27).app (.cons r7 .nil), ?_, h2⟩
        · have := (R7.bump (ws := va ++ [v]) m0 z1 z2 m5).wipe vs
          rw [ew] at this
          exact this
        · have := owns_wipe (vs := vs) m5
          rw [ew] at this
          exact this
      · rw [if_neg hl] at h2
        cases h2
    · rw [if_neg hc] at h2 ⊢
      obtain ⟨R5, m0, m3, m5⟩ := G5.unguard z1 hB
      refine ⟨c.2, Hb5, acc, va, e15, ?_, m0, m3, n4.up ((e3.trans e4).trans e5), ?_, h2⟩
      · have := R5.wipe vs
        rw [ew] at this
        exact this
      · have := owns_wipe (vs := vs) m5
        rw [ew] at this
        exact this
  · rw [List.drop_eq_nil_of_le (by omega)] at h2
    cases h2
    refine .inl ⟨k2 (by omega), q Dl H2 Hb2 (e1.trans e2) (R1.back R2 e2) ⟨n0, z1, z2, ⟨va, n3, n4⟩, fun j sv g o => ?_⟩⟩
    have nv : j ∉ vs := fun hc => by
      have hl : j < (wipeS s2 vs).length := by
        have := (List.getElem?_eq_some_iff.mp g).1
        rw [backS_len] at this
        exact this
      rw [backS_at vs s1 _ j hc hl] at g
      cases g
      cases e1 : s1[j]? with
      | none => rw [e1] at o; cases o
      | some sx =>
        rw [e1] at o
        cases sx <;> cases o
    rw [backS_get vs s1 _ j nv] at g
    rw [← wipe_get vs σ j nv]
    exact n5 j sv g o
end
end
end Mi

namespace Mi
open PySem PySem.Spec PyProof.Rows L2 Evl

/-! ### defs: what they promise, their calls -/
structure ArgsOk (K : PySem.W.Frag) (H Hb : Hp) (os : Option Addr) (vs : List V) (ps : List SV) : Prop where
  len : vs.length = ps.length
  ok : ∀ (i : Nat) (sv : SV), ps[i]? = some sv → ∃ v, vs[i]? = some v ∧ ((∃ d, sv = .dat d ∧ Rep K Hb v d) ∨ ∃ ds l ws, sv = .par ds ∧ v = .ref l ∧ os = some l ∧ H l = some (.lst ws) ∧ RepL K Hb ws ds)
  one : ∀ (i j : Nat) (si sj : SV), i ≠ j → ps[i]? = some si → ps[j]? = some sj → si.owns = true → sj.owns = true → False
structure PostM (K : PySem.W.Frag) (H Hb : Hp) (os : Option Addr) (fin : Option (List D)) (H' Hb' : Hp) : Prop where
  e1 : Ex Hb Hb'
  e2 : Ex Hb' H'
  ag : ∀ a, H a ≠ none → Hb' a = Hb a
  kp : ∀ a o, os ≠ some a → H a = some o → H' a = some o
  fin : ∀ l, os = some l → ∃ ds ws, fin = some ds ∧ H' l = some (.lst ws) ∧ RepL K Hb' ws ds
def spM (K : PySem.W.Frag) (m : Mf) : Sp := fun vs H Q _ => ∃ (Hb : Hp) (os : Option Addr) (ps : List SV) (d : D) (fin : Option (List D)),
  Ex Hb H ∧ ArgsOk K H Hb os vs ps ∧ (∀ l, os = some l → Hb l = none ∧ (∃ vs, H l = some (.lst vs)) ∧ fin.isSome = true) ∧ m ps = some (d, fin) ∧ ∀ v H' Hb', PostM K H Hb os fin H' Hb' → Rep K Hb' v d → Q v H'
def parOf : Sto → Option (List D)
  | [] => none
  | .par ds :: _ => some ds
  | _ :: s => parOf s
def fnM (N n : Nat) (mb : MS) : Mf := fun ps => if ps.length = n then (mb (ps ++ List.replicate (N - n) .un)).bind fun r => match r.1 with
  | .rt d => some (d, parOf r.2)
  | .nx => some (.non, parOf r.2)
  | _ => none
  else none
theorem parOf_at : ∀ {s : Sto} {ds : List D}, parOf s = some ds → ∃ i : Nat, s[i]? = some (SV.par ds)
  | .par es :: s, ds, h => by cases h; exact ⟨0, rfl⟩
  | .un :: s, ds, h => by obtain ⟨i, hi⟩ := parOf_at (s := s) h; exact ⟨i + 1, by simpa using hi⟩
  | .dat _ :: s, ds, h => by obtain ⟨i, hi⟩ := parOf_at (s := s) h; exact ⟨i + 1, by simpa using hi⟩
  | .own _ :: s, ds, h => by obtain ⟨i, hi⟩ := parOf_at (s := s) h; exact ⟨i + 1, by simpa using hi⟩
section
variable {K : PySem.W.Frag} {f : Fr} {σ : L2.St} {H H' Hb Hb' : Hp} {s s' : Sto}
theorem start_at {N : List Str} {vs : List V} {i : Nat} {v : V} (h : vs[i]? = some v) : (L2.start N vs)[i]? = some (some v) := by
  have hl := (List.getElem?_eq_some_iff.mp h).1
  unfold L2.start
  rw [List.getElem?_append_left (by rw [List.length_map]; exact hl), List.getElem?_map, h]
  rfl
theorem start_len {N : List Str} {vs : List V} (h : vs.length ≤ N.length) : (L2.start N vs).length = N.length := by
  unfold L2.start
  rw [List.length_append, List.length_map, List.length_replicate]
  omega
/-- a def's body, from its promise -/
theorem fn_body {N : List Str} {n : Nat} {ts : TS} {mb : MS} (hn : n ≤ N.length) (h : SndS K ts mb) {vs : List V} {H : Hp} {Q : VK} {E : XK} (sp : spM K (fnM N.length n mb) vs H Q E) :
    vs.length = n ∧ ts { nx := fun _ H' => Q .non H', rt := Q } (L2.start N vs) H := by
  obtain ⟨Hb, os, ps, d, fin, e, A, ho, hm, q⟩ := sp
  unfold fnM at hm
  by_cases hl : ps.length = n
  · rw [if_pos hl] at hm
    have hv : vs.length = n := by rw [A.len]; exact hl
    refine ⟨hv, ?_⟩
    obtain ⟨r, h1, hm⟩ := bnd hm
    obtain ⟨ro, rs⟩ := r
    have R : Rw K ⟨fun a => if os = some a then none else H a, Hb, os⟩ (L2.start N vs) H (ps ++ List.replicate (N.length - n) .un) Hb := by
      refine ⟨e, Ex.refl _, fun _ _ => rfl, fun a o h => ?_, fun l hl => ?_, ?_, fun i sv o g1 g2 => ?_, fun i j si sj hij g1 g2 o1 o2 => ?_⟩
      · have h : (if os = some a then none else H a) = some o := h
        by_cases ha : os = some a
        · rw [if_pos ha] at h; cases h
        · rw [if_neg ha] at h; exact h
      · have hl : os = some l := hl
        obtain ⟨h1, h2, _⟩ := ho l hl
        refine ⟨h1, ?_, h2⟩
        show (if os = some l then none else H l) = none
        rw [if_pos hl]
      · rw [start_len (by omega), List.length_append, List.length_replicate, hl]
        omega
      · by_cases hi : i < ps.length
        · rw [List.getElem?_append_left hi] at g1
          obtain ⟨v, hv1, k⟩ := A.ok i sv g1
          rw [start_at hv1] at g2
          cases g2
          rcases k with ⟨d, rfl, r⟩ | ⟨ds, l, ws, rfl, rfl, h2, h3, h4⟩
          · exact ⟨v, rfl, r⟩
          · exact ⟨l, ws, rfl, (ho l h2).1, h2, h3, h4⟩
        · rw [List.getElem?_append_right (by omega)] at g1
          have : sv = .un := by
            have := List.mem_of_getElem? g1
            exact (List.mem_replicate.mp this).2
          subst this
          trivial
      · have lt : ∀ (i : Nat) (si : SV), (ps ++ List.replicate (N.length - n) SV.un)[i]? = some si → si.owns = true → ps[i]? = some si := fun i si g o => by
          by_cases hi : i < ps.length
          · rw [List.getElem?_append_left hi] at g
            exact g
          · rw [List.getElem?_append_right (by omega)] at g
            have := (List.mem_replicate.mp (List.mem_of_getElem? g)).2
            subst this
            cases o
        exact absurd (A.one i j si sj hij (lt i si g1 o1) (lt j sj g2 o2) o1 o2) (fun z => z)
    have post : ∀ σ' H' Hb', Rw K ⟨fun a => if os = some a then none else H a, Hb, os⟩ σ' H' rs Hb' → fin = parOf rs → PostM K H Hb os fin H' Hb' := fun σ' H' Hb' R' hf => by
      refine ⟨R'.up, R'.hb, fun a ha => ?_, fun a o h1 h2 => R'.kp a o ?_, fun l h1 => ?_⟩
      · by_cases ho' : os = some a
        · rw [(R'.os a ho').1, (ho a ho').1]
        · refine R'.ag a ?_
          show (if os = some a then none else H a) ≠ none
          rw [if_neg ho']
          exact ha
      · show (if os = some a then none else H a) = some o
        rw [if_neg h1]
        exact h2
      · obtain ⟨_, _, h3⟩ := ho l h1
        rw [hf] at h3
        cases hp : parOf rs with
        | none => rw [hp] at h3; cases h3
        | some ds =>
          obtain ⟨i, hi⟩ := parOf_at hp
          obtain ⟨o, ho2, l', ws, rfl, k1, k2, k3, k4⟩ := R'.slot hi
          have k2 : os = some l' := k2
          rw [h1] at k2
          cases k2
          exact ⟨ds, ws, by rw [hf, hp], k3, k4⟩
    refine h _ _ _ _ _ _ _ R h1 _ ?_
    cases ro with
    | nx =>
      cases hm
      exact fun σ' H' Hb' _ R' => q _ H' Hb' (post σ' H' Hb' R' rfl) .non
    | rt d' =>
      cases hm
      exact fun v σ' H' Hb' _ R' r' => q v H' Hb' (post σ' H' Hb' R' rfl) r'
    | bk => cases hm
    | ct => cases hm
  · rw [if_neg hl] at hm
    cases hm

/-! the call -/
def cArgs (par : Option Nat) : Nat → List Bv → Sto → Option (List SV × Sto)
  | _, [], s => some ([], s)
  | i, b :: bs, s => if par = some i then (match b with
      | .slot j => (lsAt s j).bind fun ds => (cArgs par (i + 1) bs s).bind fun q => some (.par ds :: q.1, q.2)
      | .dat _ => none)
    else (frz s b).bind fun r => (cArgs par (i + 1) bs r.2).bind fun q => some (.dat r.1 :: q.1, q.2)
def callEnd (bs : List Bv) (s sf : Sto) (d : D) (fin : Option (List D)) : Option Nat → Option (Bv × Sto)
  | none => some (.dat d, if d.scal = true then s else sf)
  | some k => bs[k]?.bind fun b => match b with
    | .slot j => fin.bind fun es => (lsAt sf j).bind fun _ => (putAt (if d.scal = true ∧ es.all D.scal = true then s else sf) j es).bind fun s' => some (.dat d, s')
    | .dat _ => none
def mCall (m : Mf) (par : Option Nat) (ma : MA) : ME := fun s => (ma s).bind fun a => (cArgs par 0 a.1 a.2).bind fun c => (m c.1).bind fun q => callEnd a.1 a.2 c.2 q.1 q.2 par
theorem cArgs_ok {par : Option Nat} : ∀ {i : Nat} {s : Sto} {Hb : Hp} {vs : List V} {bs : List Bv} {ps : List SV} {s' : Sto}, Rw K f σ H s Hb → RepBs K σ Hb vs bs → cArgs par i bs s = some (ps, s') →
    ∃ Hb', Ex Hb Hb' ∧ Rw K f σ H s' Hb' ∧ vs.length = ps.length ∧ ∀ (x : Nat) (sv : SV), ps[x]? = some sv → ∃ v, vs[x]? = some v ∧ ((∃ d, sv = .dat d ∧ Rep K Hb' v d ∧ par ≠ some (i + x)) ∨
      ∃ ds l ws j, sv = .par ds ∧ v = .ref l ∧ par = some (i + x) ∧ bs[x]? = some (.slot j) ∧ σ[j]? = some (some (.ref l)) ∧ H l = some (.lst ws) ∧ RepL K Hb' ws ds)
  | i, s, Hb, [], [], _, _, R, _, h => by
    cases h
    exact ⟨Hb, Ex.refl _, R, rfl, fun x sv e => by simp at e⟩
  | i, s, Hb, v :: vs, b :: bs, ps, s', R, r, h => by
    unfold cArgs at h
    by_cases hp : par = some i
    · rw [if_pos hp] at h
      cases b with
      | dat d => cases h
      | slot j =>
        obtain ⟨ds, h1, h⟩ := bnd h
        obtain ⟨q, h2, h⟩ := bnd h
        cases h
        obtain ⟨l, ws, k1, k2, k3⟩ := R.lst h1
        have hv : σ[j]? = some (some v) := r.1
        rw [k1] at hv
        cases hv
        obtain ⟨Hb', e, R', hl, ok⟩ := cArgs_ok R r.2 h2
        refine ⟨Hb', e, R', by rw [List.length_cons, List.length_cons, hl], fun x sv g => ?_⟩
        cases x with
        | zero =>
          have : SV.par ds = sv := by simpa using g
          subst this
          exact ⟨_, rfl, .inr ⟨ds, l, ws, j, rfl, rfl, hp, rfl, k1, k2, k3.up e⟩⟩
        | succ x =>
          obtain ⟨w, w1, w2⟩ := ok x sv (by simpa using g)
          refine ⟨w, by simpa using w1, ?_⟩
          rw [show i + (x + 1) = i + 1 + x by omega]
          rcases w2 with w2 | ⟨ds', l', ws', j', y1, y2, y3, y4, y5⟩
          · exact .inl w2
          · exact .inr ⟨ds', l', ws', j', y1, y2, y3, by simpa using y4, y5⟩
    · rw [if_neg hp] at h
      obtain ⟨d, h1, h⟩ := bnd h
      obtain ⟨q, h2, h⟩ := bnd h
      cases h
      obtain ⟨Hb1, e1, R1, r1⟩ := frz_ok R r.1 h1
      obtain ⟨Hb', e, R', hl, ok⟩ := cArgs_ok R1 (r.2.up e1) h2
      refine ⟨Hb', e1.trans e, R', by rw [List.length_cons, List.length_cons, hl], fun x sv g => ?_⟩
      cases x with
      | zero =>
        have : SV.dat d.1 = sv := by simpa using g
        subst this
        exact ⟨_, rfl, .inl ⟨d.1, rfl, r1.up e, hp⟩⟩
      | succ x =>
        obtain ⟨w, w1, w2⟩ := ok x sv (by simpa using g)
        refine ⟨w, by simpa using w1, ?_⟩
        rw [show i + (x + 1) = i + 1 + x by omega]
        rcases w2 with w2 | ⟨ds', l', ws', j', y1, y2, y3, y4, y5⟩
        · exact .inl w2
        · exact .inr ⟨ds', l', ws', j', y1, y2, y3, by simpa using y4, y5⟩
  | _, _, _, [], _ :: _, _, _, _, h, _ => h.elim
  | _, _, _, _ :: _, [], _, _, _, h, _ => h.elim
theorem putAt_of {j : Nat} {es : List D} (h : putAt s j es = some s') : ∃ sv ds, s[j]? = some sv ∧ sv.ls = some ds ∧ s' = s.set j (sv.put es) := by
  unfold putAt at h
  cases e : s[j]? with
  | none => simp [e] at h
  | some sv =>
    cases sv with
    | un => simp [e] at h
    | dat d => simp [e] at h
    | own d => simp [e] at h; subst h; exact ⟨_, _, rfl, rfl, rfl⟩
    | par d => simp [e] at h; subst h; exact ⟨_, _, rfl, rfl, rfl⟩
theorem snd_call {ta : TA} {ma : MA} {m : Mf} (par : Option Nat) {E : XK} (ha : SndA K ta ma) : SndE K (tCall (spM K m) [] E ta) (mCall m par ma) := by
  intro f σ H s Hb b s' R h Q q
  obtain ⟨a, g1, h⟩ := bnd h
  obtain ⟨c, g2, h⟩ := bnd h
  obtain ⟨r, g3, h⟩ := bnd h
  refine ha f σ H s Hb _ _ R g1 _ fun vs H1 Hb1 e1 R1 r1 => ?_
  obtain ⟨Hb2, e2, R2, hl, ok⟩ := cArgs_ok R1 r1 g2
  show spM K m (vs ++ []) H1 Q E
  rw [List.append_nil]
  obtain ⟨d, fin⟩ := r
  have one : ∀ (i j : Nat) (si sj : SV), i ≠ j → c.1[i]? = some si → c.1[j]? = some sj → si.owns = true → sj.owns = true → False := fun i j si sj hij h1 h2 o1 o2 => by
    obtain ⟨_, _, k1⟩ := ok i si h1
    obtain ⟨_, _, k2⟩ := ok j sj h2
    rcases k1 with ⟨_, rfl, _⟩ | ⟨_, _, _, _, _, _, p1, _⟩
    · cases o1
    · rcases k2 with ⟨_, rfl, _⟩ | ⟨_, _, _, _, _, _, p2, _⟩
      · cases o2
      · rw [p1] at p2
        exact hij (by have := Option.some.inj p2; omega)
  cases par with
  | none =>
    cases h
    refine ⟨Hb2, none, c.1, d, fin, R2.hb, ⟨hl, fun i sv g => ?_, one⟩, (fun l z => by cases z), g3, fun v H' Hb' P rv => ?_⟩
    · obtain ⟨v, h1, k⟩ := ok i sv g
      refine ⟨v, h1, ?_⟩
      rcases k with ⟨d, rfl, k, _⟩ | ⟨_, _, _, _, _, _, p, _⟩
      · exact .inl ⟨d, rfl, k⟩
      · cases p
    · have kp : Ex H1 H' := fun a o h => P.kp a o (by intro z; cases z) h
      by_cases hs : d.scal = true
      · rw [if_pos hs] at q
        exact q v H' Hb1 e1 (R1.step (Ex.refl _) ((e2.trans P.e1).trans P.e2) (fun _ _ => rfl) kp) (rv.sc hs Hb1)
      · rw [if_neg hs] at q
        exact q v H' Hb' ((e1.trans e2).trans P.e1) (R2.step P.e1 P.e2 P.ag kp) rv
  | some k =>
    obtain ⟨bk, hk, h⟩ := bnd h
    cases bk with
    | dat x => cases h
    | slot j =>
        cases fin with
        | none => cases h
        | some es =>
          obtain ⟨es0, g40, h⟩ := bnd h
          cases g40
          obtain ⟨ds0, g4, h⟩ := bnd h
          obtain ⟨sv0, x1, x2, _⟩ := lsAt_of g4
          obtain ⟨l, ws, k1, k2, k3, k4, k5⟩ := R2.list x1 x2
          refine ⟨Hb2, some l, c.1, d, some es, R2.hb, ⟨hl, fun i sv g => ?_, one⟩, (fun l' z => by cases z; exact ⟨k2, ⟨ws, k4⟩, rfl⟩), g3, fun v H' Hb' P rv => ?_⟩
          · obtain ⟨v, h1, k⟩ := ok i sv g
            refine ⟨v, h1, ?_⟩
            rcases k with ⟨d, rfl, k, _⟩ | ⟨ds, l', ws', j', y1, y2, y3, y4, y5, y6, y7⟩
            · exact .inl ⟨d, rfl, k⟩
            · rw [Nat.zero_add] at y3
              cases y3
              rw [hk] at y4
              cases y4
              rw [k1] at y5
              cases y5
              exact .inr ⟨ds, l, ws', y1, y2, rfl, y6, y7⟩
          · obtain ⟨es', ws', z1, z2, z3⟩ := P.fin l rfl
            cases z1
            have kp : ∀ a o, a ≠ l → H1 a = some o → H' a = some o := fun a o ha h => P.kp a o (by intro z; cases z; exact ha rfl) h
            obtain ⟨s2, g5, h⟩ := bnd h
            cases h
            by_cases hs : d.scal = true ∧ es.all D.scal = true
            · rw [if_pos hs] at g5
              obtain ⟨sv, dsv, y1, y2, rfl⟩ := putAt_of g5
              exact q v H' Hb1 e1 (R1.stepAt y1 y2 k1 (Ex.refl _) ((e2.trans P.e1).trans P.e2) (fun _ _ => rfl) kp z2 (z3.sc hs.2 Hb1)) (rv.sc hs.1 Hb1)
            · rw [if_neg hs] at g5
              obtain ⟨sv, dsv, y1, y2, rfl⟩ := putAt_of g5
              exact q v H' Hb' ((e1.trans e2).trans P.e1) (R2.stepAt y1 y2 k1 P.e1 P.e2 P.ag kp z2 z3) rv
end
end Mi

namespace Mi
open PySem PySem.Spec PyProof.Rows L2 Evl
/-! ### one row a construct: the text, its reading, its meaning -/
section
variable {X : Cx} {a b c e tg iter : Expr} {es : List Expr} {pos p apos cpos : Pos} {ta tb tc te : TE} {ma mb mc me : ME} {t u : TT} {mt mu : MT} {tas : TA} {mas : MA} {mf : MF} {r : R2}
theorem d_var (i : Nat) {x : Str} (hN : X.N[i]? = some x := by rfl) (hv : Vis X.env.scope x := by first | exact Or.inl rfl | exact Or.inr (Or.inl rfl) | exact Or.inr (Or.inr rfl)) (hd : (x == ("__debug__" : Str)) = false := by decide)
    (hcd : (x == ("__classdict__" : Str)) = false := by decide) : PX X (.Name x pos) (tVar i) (mVar i) := ⟨pe_var hN hv hd hcd, snd_var i⟩
theorem d_int {i j} : PX X (.Constant (.int i) j pos) (tC (.int i)) (mC (.int i)) := ⟨pe_int, snd_c fun _ => .int i⟩
theorem d_bl {i j} : PX X (.Constant (.bool i) j pos) (tC (.bl i)) (mC (.bl i)) := ⟨pe_bl, snd_c fun _ => .bl i⟩
theorem d_non {j} : PX X (.Constant .none j pos) (tC .non) (mC .non) := ⟨pe_non, snd_c fun _ => .non⟩
theorem d_str {x j} : PX X (.Constant (.str x) j pos) (tC (.str x)) (mC (.str x)) := ⟨pe_str, snd_c fun _ => .str x⟩
theorem d_glob {x : Str} {v : V} {w : Value} {d : D} (hm : X.mg x = some w) (r : RelV v w) (hr : ∀ Hb : Hp, Rep X.K Hb v d) (hg : Gl X x := by rfl) (hd : (x == ("__debug__" : Str)) = false := by decide) : PX X (.Name x pos) (tC v) (mC d) := ⟨pe_glob hg hm r hd, snd_c hr⟩
theorem d_op {op : Operator} {g : D → D → Option D} (ho : OpR X (binaryOp op) r) (hr : SndR X.K r g) (ha : PX X a ta ma) (hb : PX X b tb mb) : PX X (.BinOp a op b pos) (tOp r ta tb) (mBin g ma mb) := ⟨pe_op ho ha.pe hb.pe, snd_bin hr ha.sn hb.sn⟩
theorem d_opF {op : Operator} {g : D → D → Option (List D)} (ho : OpR X (binaryOp op) r) (hr : SndRF X.K r g) (ha : PX X a ta ma) (hb : PX X b tb mb) : PXF X (.BinOp a op b pos) (tOp r ta tb) (mBinF g ma mb) := ⟨pe_op ho ha.pe hb.pe, snd_binF hr ha.sn hb.sn⟩
theorem d_cmp {op : CmpOp} {g : D → D → Option D} (ho : OpR X (compareOp op) r) (hr : SndR X.K r g) (hm : behindInMarks op b = false) (ha : PX X a ta ma) (hb : PX X b tb mb) : PX X (.Compare a [op] [b] pos) (tOp r ta tb) (mBin g ma mb) := ⟨pe_cmpR ho ha.pe hb.pe hm, snd_bin hr ha.sn hb.sn⟩
theorem d_cmpT {op : CmpOp} {g : D → D → Option D} (ho : OpR X (compareOp op) r) (hr : SndR X.K r g) (hm : behindInMarks op b = false) (ha : PX X a ta ma) (hb : PX X b tb mb) : PXT X (.Compare a [op] [b] pos) (tTest (tOp r ta tb)) (mTest (mBin g ma mb)) := ⟨pt_cmpR ho ha.pe hb.pe hm, snd_test (snd_bin hr ha.sn hb.sn)⟩
theorem d_un {op : UnaryOp} {r : V → Hp → VK → Prop} {g : D → Option D} (ho : UnR X (unaryOp op) r) (hr : SndU X.K r g) (ha : PX X a ta ma) : PX X (.UnaryOp op a pos) (tUn r ta) (mUn g ma) := ⟨pe_un ho ha.pe, snd_un hr ha.sn⟩
theorem d_nil : PXA X [] tNil aNil := ⟨pa_nil, snd_nil⟩
theorem d_cons (ha : PX X e te me) (hr : PXA X es tas mas) (hs : starEach (e :: es) X.env = (false, eval e X.env) :: starEach es X.env := by rfl) : PXA X (e :: es) (tCons te tas) (aCons me mas) := ⟨pa_cons ha.pe hr.pe hs, snd_cons ha.sn hr.sn⟩
theorem d_tup {x1} (h : PXA X es tas mas) : PX X (.Tuple es x1 pos) (tTup tas) (mTup mas) := ⟨pe_tup h.pe, snd_tup h.sn⟩
theorem d_lst (h : PXA X es tas mas) : PXF X (.List es pos) (tLst tas) (mLst mas) := ⟨pe_lst h.pe, snd_lst h.sn⟩
theorem d_F (h : PXF X e te mf) : PX X e te (mF mf) := ⟨h.pe, snd_F h.sn⟩
theorem d_ix {K : PySem.W.Frag} (ha : PX X a ta ma) (hb : PX X b tb mb) (hs : PlainIx b := by exact fun _ _ => rfl) (hK : X.K = K := by rfl) : PX X (.Subscript a b pos) (tOp (rIx K) ta tb) (mBin ixD ma mb) := by
  subst hK
  exact ⟨pe_ix ix_seq ha.pe hb.pe hs, snd_bin r_ix ha.sn hb.sn⟩
theorem d_oN : PXO X none tNoPart oNone := ⟨po_none, snd_oNone⟩
theorem d_oS (ha : PX X a ta ma) : PXO X (some a) (tPart ta) (oSome ma) := ⟨po_some ha.pe, snd_oSome ha.sn⟩
theorem d_sl {K : PySem.W.Frag} {lo hi : Option Expr} {tl th : TO} {ml mh : Sto → Option (Option Int × Sto)} {p2 : Pos} (ha : PX X a ta ma) (hl : PXO X lo tl ml) (hh : PXO X hi th mh) (hK : X.K = K := by rfl) : PX X (.Subscript a (.Slice lo hi none p2) pos) (tSl (rSlP K) ta tl th) (mSl slD ma ml mh) := by
  subst hK
  exact ⟨pe_slice sl_P ha.pe hl.pe hh.pe, snd_sl r_sl ha.sn hl.sn hh.sn⟩
theorem d_slF {K : PySem.W.Frag} {lo hi : Option Expr} {tl th : TO} {ml mh : Sto → Option (Option Int × Sto)} {p2 : Pos} (ha : PX X a ta ma) (hl : PXO X lo tl ml) (hh : PXO X hi th mh) (hK : X.K = K := by rfl) : PXF X (.Subscript a (.Slice lo hi none p2) pos) (tSl (rSlP K) ta tl th) (mSlF slF ma ml mh) := by
  subst hK
  exact ⟨pe_slice sl_P ha.pe hl.pe hh.pe, snd_slF r_slF ha.sn hl.sn hh.sn⟩
section
variable {x : Str} {id T : String} {rc : List V → Hp → VK → Prop}
theorem d_biB {g : List D → Option D} (hc : CallR X (.builtin id) rc) (hr : SndC X.K rc g) (hm : X.mg x = none) (hv : bootBuiltins x = some (.builtin id)) (ha : PXA X (e :: es) tas mas) (hg : Gl X x := by rfl) (hn : x ≠ "__name__" := by decide) (hdb : (x == ("__debug__" : Str)) = false := by decide)
    (he : starEach (e :: es) X.env = (false, eval e X.env) :: starEach es X.env := by rfl) (hpl : (backTo pos (starEach es X.env)).any (·.1) = false := by rfl) : PX X (.Call (.Name x p) (e :: es) [] pos) (tCB rc tas) (mBi g mas) := ⟨pe_callB hc hg hm hv ha.pe hn hdb he hpl, snd_bi hr ha.sn⟩
theorem d_biT {g : List D → Option D} (hc : CallR X (.type T) rc) (hr : SndC X.K rc g) (hm : X.mg x = none) (hv : bootBuiltins x = some (.type T)) (ha : PXA X (e :: es) tas mas) (hg : Gl X x := by rfl) (hn : x ≠ "__name__" := by decide) (hdb : (x == ("__debug__" : Str)) = false := by decide)
    (he : starEach (e :: es) X.env = (false, eval e X.env) :: starEach es X.env := by rfl) (hpl : (backTo pos (starEach es X.env)).any (·.1) = false := by rfl) : PX X (.Call (.Name x p) (e :: es) [] pos) (tCB rc tas) (mBi g mas) := ⟨pe_callTy hc hg hm hv ha.pe hn hdb he hpl, snd_bi hr ha.sn⟩
theorem d_biTF {g : List D → Option (List D)} (hc : CallR X (.type T) rc) (hr : SndCF X.K rc g) (hm : X.mg x = none) (hv : bootBuiltins x = some (.type T)) (ha : PXA X (e :: es) tas mas) (hg : Gl X x := by rfl) (hn : x ≠ "__name__" := by decide) (hdb : (x == ("__debug__" : Str)) = false := by decide)
    (he : starEach (e :: es) X.env = (false, eval e X.env) :: starEach es X.env := by rfl) (hpl : (backTo pos (starEach es X.env)).any (·.1) = false := by rfl) : PXF X (.Call (.Name x p) (e :: es) [] pos) (tCB rc tas) (mBiF g mas) := ⟨pe_callTy hc hg hm hv ha.pe hn hdb he hpl, snd_biF hr ha.sn⟩
theorem d_biBF {g : List D → Option (List D)} (hc : CallR X (.builtin id) rc) (hr : SndCF X.K rc g) (hm : X.mg x = none) (hv : bootBuiltins x = some (.builtin id)) (ha : PXA X (e :: es) tas mas) (hg : Gl X x := by rfl) (hn : x ≠ "__name__" := by decide) (hdb : (x == ("__debug__" : Str)) = false := by decide)
    (he : starEach (e :: es) X.env = (false, eval e X.env) :: starEach es X.env := by rfl) (hpl : (backTo pos (starEach es X.env)).any (·.1) = false := by rfl) : PXF X (.Call (.Name x p) (e :: es) [] pos) (tCB rc tas) (mBiF g mas) := ⟨pe_callB hc hg hm hv ha.pe hn hdb he hpl, snd_biF hr ha.sn⟩
theorem d_call {CX : CXT} {k : Nat} {f : Addr} {fd : FuncData} {ps : List Str} {m : Mf} {P : Program} {w : World} {K : PySem.W.Frag} {mg : Str → Option Value} {base : Heap} (par : Option Nat) (F : FnOk P w K mg base CX k f fd ps (spM K m)) (hr : Room k X.A) (hm : mg x = some (.ref f)) (hk : PySem.W.keepIn K (.ref f) = true) (hb : Binds K fd ps []) (hx : Passes CX X E0) (ha : PXA X (e :: es) tas mas)
    (e1 : X.prog = P := by rfl) (e2 : X.w = w := by rfl) (e3 : X.K = K := by rfl) (e4 : X.mg = mg := by rfl) (e5 : X.base = base := by rfl)
    (hg : Gl X x := by rfl) (hdb : (x == ("__debug__" : Str)) = false := by decide) (he : starEach (e :: es) X.env = (false, eval e X.env) :: starEach es X.env := by rfl) (hpl : (backTo pos (starEach es X.env)).any (·.1) = false := by rfl) :
    PX X (.Call (.Name x p) (e :: es) [] pos) (tCall (spM K m) [] E0 tas) (mCall m par mas) := by
  subst e1 e2 e3 e4 e5
  exact ⟨pe_call F hr hg hm hk hb .nil hx ha.pe hdb he hpl, snd_call par ha.sn⟩
end
theorem d_if (hc : PXT X c t mt) (ha : PX X a ta ma) (hb : PX X b tb mb) : PX X (.IfExp c a b pos) (tIf t ta tb) (mIfE mt ma mb) := ⟨pe_ifExp hc.pe ha.pe hb.pe, snd_ifE hc.sn ha.sn hb.sn⟩
theorem d_valT (h : PX X e te me) (he : ∀ whole, isTrue e X.env whole = (do let v ← whole; standAt e.pos; holding [v] (truthy v)) := by intro _; rfl) : PXT X e (tB te) (mTest me) := ⟨pt_val h.pe he, snd_B h.sn⟩
theorem d_truT {K : PySem.W.Frag} (h : PX X e te me) (he : ∀ whole, isTrue e X.env whole = (do let v ← whole; standAt e.pos; holding [v] (truthy v)) := by intro _; rfl) (hK : X.K = K := by rfl) : PXT X e (fun σ H Q => te σ H fun x H' => ∃ k, TruV K x H' k ∧ Q k H') (mTru me) := by
  subst hK
  exact ⟨pt_truth h.pe he, snd_tru h.sn⟩
theorem d_wT (h : PXW X e t mt) : PXT X e t mt := ⟨h.pe.pt, h.sn⟩
theorem d_notT (h : PXT X a t mt) : PXT X (.UnaryOp .Not a pos) (tNot t) (mNot mt) := ⟨pt_not h.pe, snd_not h.sn⟩
theorem d_and1 (h : PXT X a t mt) : PXW X (.BoolOp .And [a] pos) t mt := ⟨pw_and1 h.pe, h.sn⟩
theorem d_or1 (h : PXT X a t mt) : PXW X (.BoolOp .Or [a] pos) t mt := ⟨pw_or1 h.pe, h.sn⟩
theorem d_andW {rest : List Expr} (h : PXT X a t mt) (h2 : PXW X (.BoolOp .And (b :: rest) pos) u mu) : PXW X (.BoolOp .And (a :: b :: rest) pos) (tAnd t u) (mAnd mt mu) := ⟨pw_and h.pe h2.pe, snd_and h.sn h2.sn⟩
theorem d_orW {rest : List Expr} (h : PXT X a t mt) (h2 : PXW X (.BoolOp .Or (b :: rest) pos) u mu) : PXW X (.BoolOp .Or (a :: b :: rest) pos) (tOr t u) (mOr mt mu) := ⟨pw_or h.pe h2.pe, snd_or h.sn h2.sn⟩
theorem d_one {op} (h : PX X a ta ma) : PX X (.BoolOp op [a] pos) ta ma := ⟨pe_one h.pe, h.sn⟩
theorem d_and {rest : List Expr} (h : PX X a ta ma) (h2 : PX X (.BoolOp .And (b :: rest) pos) tb mb) : PX X (.BoolOp .And (a :: b :: rest) pos) (tAndV ta tb) (mAndV ma mb) := ⟨pe_and h.pe h2.pe, snd_andV h.sn h2.sn⟩
theorem d_or {rest : List Expr} (h : PX X a ta ma) (h2 : PX X (.BoolOp .Or (b :: rest) pos) tb mb) : PX X (.BoolOp .Or (a :: b :: rest) pos) (tOrV ta tb) (mOrV ma mb) := ⟨pe_or h.pe h2.pe, snd_orV h.sn h2.sn⟩
theorem d_not (h : PX X a ta ma) : PX X (.UnaryOp .Not a pos) (tNotV ta) (mNotV ma) := ⟨pe_not h.pe, snd_notV h.sn⟩
/-! walked -/
theorem d_iSeq {K : PySem.W.Frag} (h : PX X e te me) (hK : X.K = K := by rfl) : PXI X tg e (iSeqT K te) (iSeq me) := by
  subst hK
  exact ⟨pi_seq h.pe, snd_iSeq h.sn⟩
theorem d_iR1 (hm : X.mg "range" = none) (ha : PXA X [a] tas mas) (hg : Gl X "range" := by rfl) (hs : starEach [a] X.env = [(false, eval a X.env)] := by rfl) : PXI X tg (.Call (.Name "range" p) [a] [] pos) (iRng1 tas) (iR1 mas) := ⟨pi_range1 hg hm ha.pe hs, snd_iR1 ha.sn⟩
theorem d_iR2 (hm : X.mg "range" = none) (ha : PXA X [a, b] tas mas) (hg : Gl X "range" := by rfl) (hs : starEach [a, b] X.env = [(false, eval a X.env), (false, eval b X.env)] := by rfl) (hs2 : starEach [b] X.env = [(false, eval b X.env)] := by rfl) : PXI X tg (.Call (.Name "range" p) [a, b] [] pos) (iRng2 tas) (iR2 mas) := ⟨pi_range2 hg hm ha.pe hs hs2, snd_iR2 ha.sn⟩
theorem d_iRev {K : PySem.W.Frag} (hm : X.mg "reversed" = none) (h : PX X e te me) (hg : Gl X "reversed" := by rfl) (hs : starEach [e] X.env = (false, eval e X.env) :: starEach [] X.env := by rfl) (hK : X.K = K := by rfl) : PXI X tg (.Call (.Name "reversed" p) [e] [] pos) (RT.iRevA K te) (iRev me) := by
  subst hK
  exact ⟨RT.pi_revA hg hm h.pe hs, snd_iRev h.sn⟩
/-! targets -/
theorem d_gN (i : Nat) {x : Str} (hN : X.N.Nodup) (hi : X.N[i]? = some x := by rfl) (hx : Loc X.env.scope x := by first | exact Or.inl rfl | exact Or.inr rfl) (hf : X.fn x = true ∨ X.env.scope.names.lookup x = some .local := by first | exact .inl rfl | exact .inr rfl | assumption) : PXG X (.Name x pos) (gName i) (gNm i) [i] := ⟨pg_name hN hi hx hf, snd_gNm i⟩
theorem d_gs0 : PXGs X [] gNil gsNil [] := ⟨pgs_nil, snd_gsNil⟩
theorem d_gsC {t : TG} {us : TGs} {m : MG} {ms : List D → Sto → Option Sto} {w1 w2 : List Nat} (h1 : PXG X e t m w1) (h2 : PXGs X es us ms w2) (hs : (assignEach (e :: es) X.env).map (·.2) = assign e X.env :: (assignEach es X.env).map (·.2) := by rfl) : PXGs X (e :: es) (gCons t us) (gsCons m ms) (w1 ++ w2) := ⟨pgs_cons h1.pe h2.pe hs, snd_gsCons h1.sn h2.sn⟩
theorem d_gT {K : PySem.W.Frag} {k : Nat} {us : TGs} {ms : List D → Sto → Option Sto} {w : List Nat} {n : Nat} (hc : X.calm = true) (h : PXGs X es us ms w) (hn : (assignEach es X.env).length = n := by rfl) (hst : (assignEach es X.env).findIdx? (·.1) = none := by rfl) (hK : X.K = K := by rfl) : PXG X (.Tuple es k pos) (gTup K n us) (gTp n ms) w := by
  subst hK
  exact ⟨pg_tup hc h.pe hn hst, snd_gTp h.sn⟩
/-! comprehensions -/
structure PXTs (X : Cx) (ifs : List Expr) (t : TT) (m : MT) : Prop where
  pe : PTs X ifs t
  sn : SndT X.K t m
theorem d_ts0 : PXTs X [] tYes mYes := ⟨pts_nil, snd_yes⟩
theorem d_ts1 (h : PXT X c t mt) : PXTs X [c] t mt := ⟨pts_one h.pe, h.sn⟩
theorem d_lc {elt : Expr} {ifs : List Expr} {scope : Scope} {own : List (Str × Nat)} {wi : TI} {mi : MI} {g : TG} {mg : MG} {tt : TT} {mtt : MT} {ws vs : List Nat} (hc : X.calm = true) (hN : X.N.Nodup) (ok : BlkOk X.N X.env.scope scope own) (hi : PXI X tg iter wi mi)
    (hg : ∀ (s : Shared) (H : Hp) (C : Addr) (cl : List (Str × Addr)) (fp : List Addr), PXG (X.blk s H scope (compEnvC scope cl C X.env) fp) tg g mg ws) (ht : ∀ (s : Shared) (H : Hp) (C : Addr) (cl : List (Str × Addr)) (fp : List Addr), PXTs (X.blk s H scope (compEnvC scope cl C X.env) fp) ifs tt mtt)
    (he : ∀ (s : Shared) (H : Hp) (C : Addr) (cl : List (Str × Addr)) (fp : List Addr), PX (X.blk s H scope (compEnvC scope cl C X.env) fp) elt te me) (hw : ∀ w ∈ ws, w ∈ vs) (hv : own.map (·.2) = vs) (hs : ∀ x, foldedSetIterable iter X.env x = pure x := by intro _; rfl) :
    PXF X (.ListComp elt [⟨tg, iter, ifs, 0⟩] scope pos) (tLc wi g tt te vs) (mLc mi mg mtt me vs) := by
  subst hv
  exact ⟨pe_lc hc hN hi.pe ok (fun s H C cl fp => (hg s H C cl fp).pe) (fun s H C cl fp => (ht s H C cl fp).pe) (fun s H C cl fp => (he s H C cl fp).pe) hs,
    snd_lc hi.sn (hg ⟨X.s_0.heap, X.s_0.gens, X.s_0.drawn, X.s_0.toks, X.s_0.os⟩ X.H_0 0 [] []).sn (ht X.s_0 X.H_0 0 [] []).sn (he X.s_0 X.H_0 0 [] []).sn hw⟩
/-! statements -/
section
variable {st : Stmt} {rest sa sb body : List Stmt} {t1 t2 : TS} {m1 m2 : MS}
theorem d_b0 : PXB X [] tNext mNext := ⟨pss_nil, snd_next⟩
theorem d_b1 (h : PXS X st t1 m1) : PXB X [st] t1 m1 := ⟨pss_one h.pe, h.sn⟩
theorem d_bC (h : PXS X st t1 m1) (h2 : PXB X rest t2 m2) : PXB X (st :: rest) (tSeq t1 t2) (mSeq m1 m2) := ⟨pss_cons h.pe h2.pe, snd_seq h.sn h2.sn⟩
theorem d_pass : PXS X (.Pass pos) tNext mNext := ⟨ps_pass, snd_next⟩
theorem d_brk : PXS X (.Break pos) tBreak mBrk := ⟨ps_break, snd_brk⟩
theorem d_cnt : PXS X (.Continue pos) tCont mCnt := ⟨ps_continue, snd_cnt⟩
theorem d_never : PXS X st tNever mNever := ⟨ps_never, snd_never⟩
theorem d_expr (h : PX X e te me) (hs : swapsWith e none pos.line X.env = pure false := by rfl) : PXS X (.Expr e pos) (tDrop te) (mExpr me) := ⟨ps_expr h.pe hs, snd_expr h.sn⟩
theorem d_ret (h : PX X e te me) : PXS X (.Return (some e) pos) (tRet te) (mRet me) := ⟨ps_ret h.pe, snd_ret h.sn⟩
theorem d_retN : PXS X (.Return none pos) tRetN mRetN := ⟨ps_retN, snd_retN⟩
theorem d_ifS (hc : PXT X c t mt) (h1 : PXB X sa t1 m1) (h2 : PXB X sb t2 m2) : PXS X (.If c sa sb pos) (tIfS t t1 t2) (mIf mt m1 m2) := ⟨ps_if hc.pe h1.pe h2.pe, snd_if hc.sn h1.sn h2.sn⟩
theorem d_set (i : Nat) {x : Str} {pos' : Pos} (hN : X.N.Nodup) (he : PX X e te me) (hi : X.N[i]? = some x := by rfl) (hx : Loc X.env.scope x := by first | exact Or.inl rfl | exact Or.inr rfl) (hs : swapsWith e (some (.Name x pos')) pos.line X.env = pure false := by rfl)
    (hf : X.fn x = true ∨ X.env.scope.names.lookup x = some .local := by first | exact .inl rfl | exact .inr rfl | assumption) : PXS X (.Assign [.Name x pos'] e pos) (tAsg te (gName i)) (mAsg me (gNm i)) := ⟨ps_set hN hi hx he.pe hs hf, snd_asg he.sn (snd_gNm i)⟩
theorem d_setF (i : Nat) {x : Str} {pos' : Pos} (hN : X.N.Nodup) (he : PXF X e te mf) (hi : X.N[i]? = some x := by rfl) (hx : Loc X.env.scope x := by first | exact Or.inl rfl | exact Or.inr rfl) (hs : swapsWith e (some (.Name x pos')) pos.line X.env = pure false := by rfl)
    (hf : X.fn x = true ∨ X.env.scope.names.lookup x = some .local := by first | exact .inl rfl | exact .inr rfl | assumption) : PXS X (.Assign [.Name x pos'] e pos) (tAsg te (gName i)) (mAsgF mf i) := ⟨ps_set hN hi hx he.pe hs hf, snd_asgF i he.sn⟩
theorem d_asg {g : TG} {mg : MG} {ws : List Nat} (he : PX X e te me) (hg : PXG X tg g mg ws) (hs : swapsWithSole [tg] e pos.line X.env = pure false := by rfl) (hw : swappedStores [tg] e X.env = pure none := by rfl)
    (h1 : (assignEach [tg] X.env).map (·.2) = [assign tg X.env] := by rfl) : PXS X (.Assign [tg] e pos) (tAsg te g) (mAsg me mg) := ⟨ps_asg he.pe hg.pe hs hw h1, snd_asg he.sn hg.sn⟩
theorem d_par (i j : Nat) {x y : Str} {px py pt : Pos} {kt k2 pt2} (hc : X.calm = true) (hN : X.N.Nodup) (hij : i ≠ j) (ha : PXA X [a, b] tas mas) (hw : swappedStores [.Tuple [.Name x px, .Name y py] kt pt] (.Tuple [a, b] k2 pt2) X.env = pure (some [x, y])) (hi : X.N[i]? = some x := by rfl) (hj : X.N[j]? = some y := by rfl)
    (hx : X.env.scope.names.lookup x = some .local := by rfl) (hy : X.env.scope.names.lookup y = some .local := by rfl)
    (hs : swapsWithSole [.Tuple [.Name x px, .Name y py] kt pt] (.Tuple [a, b] k2 pt2) pos.line X.env = pure false := by rfl) :
    PXS X (.Assign [.Tuple [.Name x px, .Name y py] kt pt] (.Tuple [a, b] k2 pt2) pos) (tPar i j tas) (mPar i j mas) := ⟨ps_par hc hN hi hj hij hx hy ha.pe hw hs, snd_par i j ha.sn⟩
theorem d_aug (i : Nat) {x : Str} {op : Operator} {pos' : Pos} {g : D → D → Option D} (hN : X.N.Nodup) (ho : OpR X (inplaceOp op) r) (hr : SndR X.K r g) (he : PX X e te me) (hi : X.N[i]? = some x := by rfl) (hx : Loc X.env.scope x := by first | exact Or.inl rfl | exact Or.inr rfl)
    (hf : X.fn x = true ∨ X.env.scope.names.lookup x = some .local := by first | exact .inl rfl | exact .inr rfl | assumption) : PXS X (.AugAssign (.Name x pos') op e pos) (tAug i te r) (mAug i g me) := ⟨ps_aug hN hi hx he.pe ho hf, snd_aug i hr he.sn⟩
theorem d_for {wi : TI} {mi : MI} {g : TG} {mg : MG} {ws : List Nat} (hc : X.calm = true) (hp : PassesOwn (model X.prog X.w) X.A X.env X.xe) (hi : PXI X tg iter wi mi) (hg : PXG X tg g mg ws) (hb : PXB X body t1 m1) (hs : ∀ x, foldedSetIterable iter X.env x = pure x := by intro _; rfl) :
    PXS X (.For tg iter body [] pos) (tFor wi g t1) (mFor mi mg m1) := ⟨ps_for hp hc hi.pe hg.pe hb.pe hs, snd_for hi.sn hg.sn hb.sn⟩
theorem d_while (fuel : Sto → Nat) (hp : PassesOwn (model X.prog X.w) X.A X.env X.xe) (hc : PXT X c t mt) (hb : PXB X body t1 m1) : PXS X (.While c body [] pos) (tWhile t t1) (mWhile fuel mt m1) := ⟨ps_while hp hc.pe hb.pe, snd_while fuel hc.sn hb.sn⟩
theorem d_app {K : PySem.W.Frag} (j : Nat) {x : Str} (he : PX X e te me) (hN : X.N[j]? = some x := by rfl) (hv : Vis X.env.scope x := by first | exact Or.inl rfl | exact Or.inr (Or.inl rfl) | exact Or.inr (Or.inr rfl)) (hd : (x == ("__debug__" : Str)) = false := by decide)
    (hcd : (x == ("__classdict__" : Str)) = false := by decide) {px : Pos} (hbase : attributeBase (.Name x px) "append" X.env (eval (.Name x px) X.env) = eval (.Name x px) X.env := by rfl)
    (hfew : ((backTo cpos (starEach (e :: []) X.env)).all (fun x => !x.1) && (backToKw cpos (keywordEach [] X.env)).all (fun x => x.1.isSome) && decide ((e :: ([] : List Expr)).length + ([] : List Keyword).length + (if ([] : List Keyword).isEmpty then 0 else 1) < 30)) = true := by rfl)
    (hline : (apos.endLine == cpos.line) = true := by rfl) (hs : starEach (e :: []) X.env = (false, eval e X.env) :: starEach [] X.env := by rfl) (hplain : (backTo cpos (starEach [] X.env)).any (·.1) = false := by rfl)
    (hsw : swapsWith (.Call (.Attribute (.Name x px) "append" apos) [e] [] cpos) none pos.line X.env = pure false := by rfl) (hK : X.K = K := by rfl) :
    PXS X (.Expr (.Call (.Attribute (.Name x px) "append" apos) [e] [] cpos) pos) (tDrop (tBM K "list" rAppend (tVar j) (tCons te tNil))) (mApp j me) := by
  subst hK
  exact ⟨ps_expr (pe_bm PySem.F.plainAttrs_list PySem.F.slot_list_append PySem.F.type_list_append mt_append (pe_var hN hv hd hcd) (pa_cons he.pe pa_nil hs) hbase hfew hline hs hplain) hsw, snd_app j he.sn⟩
theorem d_ext {K : PySem.W.Frag} (j : Nat) {x : Str} (he : PX X e te me) (hN : X.N[j]? = some x := by rfl) (hv : Vis X.env.scope x := by first | exact Or.inl rfl | exact Or.inr (Or.inl rfl) | exact Or.inr (Or.inr rfl)) (hd : (x == ("__debug__" : Str)) = false := by decide)
    (hcd : (x == ("__classdict__" : Str)) = false := by decide) {px : Pos} (hbase : attributeBase (.Name x px) "extend" X.env (eval (.Name x px) X.env) = eval (.Name x px) X.env := by rfl)
    (hfew : ((backTo cpos (starEach (e :: []) X.env)).all (fun x => !x.1) && (backToKw cpos (keywordEach [] X.env)).all (fun x => x.1.isSome) && decide ((e :: ([] : List Expr)).length + ([] : List Keyword).length + (if ([] : List Keyword).isEmpty then 0 else 1) < 30)) = true := by rfl)
    (hline : (apos.endLine == cpos.line) = true := by rfl) (hs : starEach (e :: []) X.env = (false, eval e X.env) :: starEach [] X.env := by rfl) (hplain : (backTo cpos (starEach [] X.env)).any (·.1) = false := by rfl)
    (hsw : swapsWith (.Call (.Attribute (.Name x px) "extend" apos) [e] [] cpos) none pos.line X.env = pure false := by rfl) (hK : X.K = K := by rfl) :
    PXS X (.Expr (.Call (.Attribute (.Name x px) "extend" apos) [e] [] cpos) pos) (tDrop (tBM K "list" rExtend (tVar j) (tCons te tNil))) (mExt j me) := by
  subst hK
  exact ⟨ps_expr (pe_bm PySem.F.plainAttrs_list PySem.F.slot_list_extend PySem.F.type_list_extend mt_extend (pe_var hN hv hd hcd) (pa_cons he.pe pa_nil hs) hbase hfew hline hs hplain) hsw, snd_ext j he.sn⟩
theorem d_setIx (j : Nat) {x : Str} {i : Expr} {ti : TE} {mi : ME} {px sp : Pos} (he : PX X e te me) (hi : PX X i ti mi) (hN : X.N[j]? = some x := by rfl) (hv : Vis X.env.scope x := by first | exact Or.inl rfl | exact Or.inr (Or.inl rfl) | exact Or.inr (Or.inr rfl)) (hd : (x == ("__debug__" : Str)) = false := by decide)
    (hcd : (x == ("__classdict__" : Str)) = false := by decide)
    (ha : ∀ v, assign (.Subscript (.Name x px) i sp) X.env v = (do
      let ov ← holding [v] (eval (.Name x px) X.env)
      let iv ← holding [v, ov] (eval i X.env)
      standAt sp
      holding [v, ov, iv] (setItem ov iv v)
      release [v, ov, iv] []) := by intro _; rfl)
    (hs : swapsWithSole [.Subscript (.Name x px) i sp] e pos.line X.env = pure false := by rfl) (hw : swappedStores [.Subscript (.Name x px) i sp] e X.env = pure none := by rfl)
    (h1 : (assignEach [.Subscript (.Name x px) i sp] X.env).map (·.2) = [assign (.Subscript (.Name x px) i sp) X.env] := by rfl) :
    PXS X (.Assign [.Subscript (.Name x px) i sp] e pos) (tAsg te (gSub (tVar j) ti rSetL)) (mSet j mi me) :=
  ⟨ps_asg he.pe (pg_sub (pe_var hN hv hd hcd) hi.pe set_list ha) hs hw h1, snd_set j hi.sn he.sn⟩
theorem d_setLc (i : Nat) {y : Str} {py : Pos} {elt : Expr} {ifs : List Expr} {scope : Scope} {own : List (Str × Nat)} {spos : Pos} {wi : TI} {mi : MI} {g : TG} {mg : MG} {tt : TT} {mtt : MT} {ws vs : List Nat} (hc : X.calm = true) (hN : X.N.Nodup) (ok : BlkOk X.N X.env.scope scope own)
    (hsw : swapsWith (.ListComp elt [⟨tg, iter, ifs, 0⟩] scope pos) (some (.Name y py)) spos.line X.env = pure true) (hi : PXI X tg iter wi mi)
    (hg : ∀ (s : Shared) (H : Hp) (C : Addr) (cl : List (Str × Addr)) (fp : List Addr), PXG (X.blk s H scope (compEnvC scope cl C X.env) fp) tg g mg ws) (ht : ∀ (s : Shared) (H : Hp) (C : Addr) (cl : List (Str × Addr)) (fp : List Addr), PXTs (X.blk s H scope (compEnvC scope cl C X.env) fp) ifs tt mtt)
    (he : ∀ (s : Shared) (H : Hp) (C : Addr) (cl : List (Str × Addr)) (fp : List Addr), PX (X.blk s H scope (compEnvC scope cl C X.env) fp) elt te me) (hw : ∀ w ∈ ws, w ∈ vs) (hv : own.map (·.2) = vs) (hy : X.N[i]? = some y := by rfl) (hyl : X.env.scope.names.lookup y = some .local := by rfl) (hs : ∀ x, foldedSetIterable iter X.env x = pure x := by intro _; rfl) :
    PXS X (.Assign [.Name y py] (.ListComp elt [⟨tg, iter, ifs, 0⟩] scope pos) spos) (tAsg (tLc wi g tt te vs) (gName i)) (mAsg (mF (mLc mi mg mtt me vs)) (gNm i)) := by
  subst hv
  exact ⟨ps_setLc hc hN hy hyl hsw hi.pe ok (fun s H C cl fp => (hg s H C cl fp).pe) (fun s H C cl fp => (ht s H C cl fp).pe) (fun s H C cl fp => (he s H C cl fp).pe) hs,
    snd_asg (snd_F (snd_lc hi.sn (hg X.s_0 X.H_0 0 [] []).sn (ht X.s_0 X.H_0 0 [] []).sn (he X.s_0 X.H_0 0 [] []).sn hw)) (snd_gNm i)⟩
theorem d_setLcF (i : Nat) {y : Str} {py : Pos} {elt : Expr} {ifs : List Expr} {scope : Scope} {own : List (Str × Nat)} {spos : Pos} {wi : TI} {mi : MI} {g : TG} {mg : MG} {tt : TT} {mtt : MT} {ws vs : List Nat} (hc : X.calm = true) (hN : X.N.Nodup) (ok : BlkOk X.N X.env.scope scope own)
    (hsw : swapsWith (.ListComp elt [⟨tg, iter, ifs, 0⟩] scope pos) (some (.Name y py)) spos.line X.env = pure true) (hi : PXI X tg iter wi mi)
    (hg : ∀ (s : Shared) (H : Hp) (C : Addr) (cl : List (Str × Addr)) (fp : List Addr), PXG (X.blk s H scope (compEnvC scope cl C X.env) fp) tg g mg ws) (ht : ∀ (s : Shared) (H : Hp) (C : Addr) (cl : List (Str × Addr)) (fp : List Addr), PXTs (X.blk s H scope (compEnvC scope cl C X.env) fp) ifs tt mtt)
    (he : ∀ (s : Shared) (H : Hp) (C : Addr) (cl : List (Str × Addr)) (fp : List Addr), PX (X.blk s H scope (compEnvC scope cl C X.env) fp) elt te me) (hw : ∀ w ∈ ws, w ∈ vs) (hv : own.map (·.2) = vs) (hy : X.N[i]? = some y := by rfl) (hyl : X.env.scope.names.lookup y = some .local := by rfl) (hs : ∀ x, foldedSetIterable iter X.env x = pure x := by intro _; rfl) :
    PXS X (.Assign [.Name y py] (.ListComp elt [⟨tg, iter, ifs, 0⟩] scope pos) spos) (tAsg (tLc wi g tt te vs) (gName i)) (mAsgF (mLc mi mg mtt me vs) i) := by
  subst hv
  exact ⟨ps_setLc hc hN hy hyl hsw hi.pe ok (fun s H C cl fp => (hg s H C cl fp).pe) (fun s H C cl fp => (ht s H C cl fp).pe) (fun s H C cl fp => (he s H C cl fp).pe) hs,
    snd_asgF i (snd_lc hi.sn (hg X.s_0 X.H_0 0 [] []).sn (ht X.s_0 X.H_0 0 [] []).sn (he X.s_0 X.H_0 0 [] []).sn hw)⟩
end
end
/-! ### a def, the law -/
section
variable {P : Program} {w : World} {K : PySem.W.Frag} {mg : Str → Option Value} {base : Heap}
theorem fn_okM {x qual : Str} {st : Stmt} {f : Addr} {fd : FuncData} {N ps : List Str} {k : Nat} {m : Mf} {mb : MS} (F : Fun K x qual st f fd) (S : FnScope N ps (defScope st)) (hn : ps.length ≤ N.length) (hm : m = fnM N.length ps.length mb)
    (h : ∀ (cdv : Value) (A : Around) (outer : List Env) (s : Shared) (H : Hp) (E : XK), Room k (A.deeper (envOfC qual (defScope st) s.heap.objs.size f cdv)) → ∃ ts, PXB (cxOf CX0 P w K mg base N qual (defScope st) f cdv A outer s H E).nox (defBody st) ts mb) : FnOk P w K mg base CX0 (k + 1) f fd ps (spM K m) := by
  subst hm
  refine F.ok S (fun vs H Q E h => ?_) (fun cdv A outer s H vs Q E hr hs => ?_)
  · obtain ⟨Hb, os, ps', d, fin, e, A, ho, hm, q⟩ := h
    unfold fnM at hm
    by_cases hl : ps'.length = ps.length
    · rw [A.len]; exact hl
    · rw [if_neg hl] at hm; cases hm
  · obtain ⟨ts, hb⟩ := h cdv A outer s H E hr
    exact ⟨ts, hb.pe, (fn_body hn hb.sn hs).2⟩
/-- the law's promise -/
theorem sp_law {m : Mf} {a : Addr} {ns : List Int} {H : Hp} {fin : Option (List D)} (hS : SqL K H a (ns.map V.int)) (hm : m [.dat (.fro (iL ns))] = some (.bl true, fin)) : spM K m [.ref a] H (fun v _ => v = .bl true) fun _ _ _ => False := by
  refine ⟨H, none, [.dat (.fro (iL ns))], .bl true, fin, Ex.refl _, ⟨rfl, fun i sv g => ?_, fun i j si sj hij g1 g2 o1 o2 => ?_⟩, (fun l z => by cases z), hm, fun v H' Hb' _ r => ?_⟩
  · cases i with
    | zero =>
      cases g
      exact ⟨_, rfl, .inl ⟨_, rfl, .fro hS (RepL.of_ints ns)⟩⟩
    | succ i => simp at g
  · cases i with
    | zero => cases g1; cases o1
    | succ i => simp at g1
  · cases r
    rfl
end
end Mi

/-! Meanings reckoned: rows for simp, loops. -/
namespace Mi
open PySem PySem.Spec PyProof.Rows L2 Evl
theorem eqD_int (i j : Int) : eqD (.int i) (.int j) = some (.bl (decide (i = j))) := by
  unfold eqD
  rw [if_pos ⟨rfl, rfl⟩]
  rfl
theorem neD_int (i j : Int) : neD (.int i) (.int j) = some (.bl (!decide (i = j))) := by
  unfold neD
  rw [if_pos ⟨rfl, rfl⟩]
  rfl
theorem at_0 {α : Type} (a : α) (l : List α) : atI (a :: l) 0 = some a := by
  have : ixN (a :: l).length 0 = some 0 := by
    unfold ixN
    rw [if_pos (by omega), if_pos (by rw [List.length_cons]; omega)]
    rfl
  unfold atI
  rw [this]
  rfl
theorem at_1 {α : Type} (a b : α) (l : List α) : atI (a :: b :: l) 1 = some b := by
  have : ixN (a :: b :: l).length 1 = some 1 := by
    unfold ixN
    rw [if_pos (by omega), if_pos (by rw [List.length_cons, List.length_cons]; omega)]
    rfl
  unfold atI
  rw [this]
  rfl
theorem iL_len (ns : List Int) : (iL ns).length = ns.length := List.length_map ..
theorem iL_get (ns : List Int) (i : Nat) : (iL ns)[i]? = (ns[i]?).map D.int := by unfold iL; rw [List.getElem?_map]
theorem iL_app (a b : List Int) : iL (a ++ b) = iL a ++ iL b := by unfold iL; rw [List.map_append]
theorem iL_set (ns : List Int) (i : Nat) (z : Int) : (iL ns).set i (.int z) = iL (ns.set i z) := by unfold iL; rw [List.map_set]
theorem iL_nil : iL [] = [] := rfl
theorem iL_cons (a : Int) (l : List Int) : iL (a :: l) = .int a :: iL l := rfl
/-- an index from 0 on, in a list of ints -/
theorem at_iL {ns : List Int} {i : Int} (h0 : 0 ≤ i) (h : i < (ns.length : Int)) : atI (iL ns) i = some (.int (ns.getD i.toNat 0)) := by
  have h1 : i.toNat < ns.length := by omega
  have : ixN (iL ns).length i = some i.toNat := by
    unfold ixN
    rw [if_pos h0, iL_len, if_pos (by omega)]
  unfold atI
  rw [this]
  show (iL ns)[i.toNat]? = _
  rw [iL_get, List.getElem?_eq_getElem h1, List.getD_eq_getElem?_getD, List.getElem?_eq_getElem h1]
  rfl
theorem at_last {α : Type} (l : List α) (h : l ≠ []) : atI l (-1) = some (l.getLast h) := by
  have hl : 0 < l.length := List.length_pos_iff.mpr h
  have : ixN l.length (-1) = some (l.length - 1) := by
    unfold ixN
    rw [if_neg (by omega), if_pos (by omega)]
    congr 1
    omega
  unfold atI
  rw [this]
  show l[l.length - 1]? = _
  rw [← List.getLast?_eq_getElem?, List.getLast?_eq_getLast h]
/-! == of lists of ints -/
theorem lay_pys : ∀ ns : List Int, PyData.canLayAll0 (D.pys (iL ns)) = true
  | [] => rfl
  | n :: ns => by
    show (true && PyData.canLayAll0 (D.pys (iL ns))) = true
    rw [lay_pys ns]
    rfl
theorem dep_pys : ∀ ns : List Int, PyData.depthAll (D.pys (iL ns)) ≤ 1
  | [] => by simp [iL, D.pys, PyData.depthAll]
  | n :: ns => by
    have := dep_pys ns
    simp only [iL, List.map_cons, D.pys, PyData.depthAll, D.py, PyData.depth] at this ⊢
    omega
theorem eqv_pys : ∀ ns ms : List Int, PyData.eqvAll (D.pys (iL ns)) (D.pys (iL ms)) = decide (ns = ms)
  | [], [] => rfl
  | [], _ :: _ => rfl
  | _ :: _, [] => rfl
  | n :: ns, m :: ms => by
    show ((n == m) && PyData.eqvAll (D.pys (iL ns)) (D.pys (iL ms))) = _
    rw [eqv_pys ns ms]
    by_cases h : n = m
    · by_cases h2 : ns = ms
      · simp [h, h2]
      · simp [h, h2]
    · simp [h]

/-- plain data of a depth -/
def D.Pl (n : Nat) (d : D) : Prop := d.py.canLay0 = true ∧ d.py.depth ≤ n
def PlL (n : Nat) (ds : List D) : Prop := PyData.canLayAll0 (D.pys ds) = true ∧ PyData.depthAll (D.pys ds) ≤ n
theorem pl_int {n : Nat} (i : Int) : (D.int i).Pl n := ⟨rfl, Nat.zero_le _⟩
theorem pl_bl {n : Nat} (i : Bool) : (D.bl i).Pl n := ⟨rfl, Nat.zero_le _⟩
theorem pl_non {n : Nat} : D.non.Pl n := ⟨rfl, Nat.zero_le _⟩
theorem pl_nil {n : Nat} : PlL n [] := ⟨rfl, Nat.zero_le _⟩
theorem pl_cons {n : Nat} {d : D} {ds : List D} (h : d.Pl n) (t : PlL n ds) : PlL n (d :: ds) := by
  refine ⟨?_, ?_⟩
  · show (d.py.canLay0 && PyData.canLayAll0 (D.pys ds)) = true
    rw [h.1, t.1]
    rfl
  · have h2 := h.2
    have t2 := t.2
    show max d.py.depth (PyData.depthAll (D.pys ds)) ≤ n
    omega
theorem pl_all {n : Nat} : ∀ {ds : List D}, (∀ d ∈ ds, d.Pl n) → PlL n ds
  | [], _ => pl_nil
  | d :: ds, h => pl_cons (h d List.mem_cons_self) (pl_all fun x hx => h x (List.mem_cons_of_mem _ hx))
theorem pl_lst {n : Nat} {ds : List D} (h : PlL n ds) : (D.lst ds).Pl (n + 1) := ⟨h.1, by show PyData.depthAll (D.pys ds) + 1 ≤ n + 1; have := h.2; omega⟩
theorem pl_fro {n : Nat} {ds : List D} (h : PlL n ds) : (D.fro ds).Pl (n + 1) := ⟨h.1, by show PyData.depthAll (D.pys ds) + 1 ≤ n + 1; have := h.2; omega⟩
theorem pl_tup {n : Nat} {ds : List D} (h : PlL n ds) : (D.tup ds).Pl (n + 1) := ⟨h.1, by show PyData.depthAll (D.pys ds) + 1 ≤ n + 1; have := h.2; omega⟩
theorem pl_iL {n : Nat} (ns : List Int) : PlL n (iL ns) := pl_all fun d hd => by
  obtain ⟨i, _, rfl⟩ := List.mem_map.mp hd
  exact pl_int i
theorem D.Pl.up {n m : Nat} {d : D} (h : d.Pl n) (l : n ≤ m) : d.Pl m := ⟨h.1, Nat.le_trans h.2 l⟩
theorem sh_of {d : D} {n : Nat} (h : d.Pl n) (hn : n ≤ 64) : SeqAt.shaped d.py = true := by
  unfold SeqAt.shaped
  rw [h.1, decide_eq_true (Nat.le_trans h.2 hn)]
  rfl
theorem eqD_pl {x y : D} (hx : x.Pl 64) (hy : y.Pl 64) : eqD x y = some (.bl (PyData.eqv x.py y.py)) := by
  unfold eqD
  rw [if_pos ⟨sh_of hx (Nat.le_refl _), sh_of hy (Nat.le_refl _)⟩]
theorem neD_pl {x y : D} (hx : x.Pl 64) (hy : y.Pl 64) : neD x y = some (.bl (!PyData.eqv x.py y.py)) := by
  unfold neD
  rw [if_pos ⟨sh_of hx (Nat.le_refl _), sh_of hy (Nat.le_refl _)⟩]
mutual
theorem eqv_rf : ∀ d : D, d.py.canLay0 = true → PyData.eqv d.py d.py = true
  | .non, _ => rfl
  | .bl b, _ => by simp [D.py, PyData.eqv]
  | .int i, _ => by simp [D.py, PyData.eqv]
  | .str x, _ => by simp [D.py, PyData.eqv]
  | .tup ds, h => by
    have := eqvs_rf ds (by simpa [D.py, PyData.canLay0] using h)
    simpa [D.py, PyData.eqv] using this
  | .lst ds, h => by
    have := eqvs_rf ds (by simpa [D.py, PyData.canLay0] using h)
    simpa [D.py, PyData.eqv] using this
  | .fro ds, h => by
    have := eqvs_rf ds (by simpa [D.py, PyData.canLay0] using h)
    simpa [D.py, PyData.eqv] using this
  | .ins _ _ _, h => by simp [D.py, PyData.canLay0] at h
theorem eqvs_rf : ∀ ds : List D, PyData.canLayAll0 (D.pys ds) = true → PyData.eqvAll (D.pys ds) (D.pys ds) = true
  | [], _ => rfl
  | d :: ds, h => by
    have h' : d.py.canLay0 = true ∧ PyData.canLayAll0 (D.pys ds) = true := by simpa [D.pys, PyData.canLayAll0] using h
    simp [D.pys, PyData.eqvAll, eqv_rf d h'.1, eqvs_rf ds h'.2]
end
theorem eqD_rf {x : D} (hx : x.Pl 64) : eqD x x = some (.bl true) := by rw [eqD_pl hx hx, eqv_rf x hx.1]
theorem neD_rf {x : D} (hx : x.Pl 64) : neD x x = some (.bl false) := by rw [neD_pl hx hx, eqv_rf x hx.1]; rfl
theorem eqD_LL (a b : List Int) : eqD (.lst (iL a)) (.lst (iL b)) = some (.bl (decide (a = b))) := by
  rw [eqD_pl ((pl_lst (n := 0) (pl_iL a)).up (by decide)) ((pl_lst (n := 0) (pl_iL b)).up (by decide))]
  show some (D.bl (PyData.eqvAll (D.pys (iL a)) (D.pys (iL b)))) = _
  rw [eqv_pys]
theorem neD_LL (a b : List Int) : neD (.lst (iL a)) (.lst (iL b)) = some (.bl (!decide (a = b))) := by
  rw [neD_pl ((pl_lst (n := 0) (pl_iL a)).up (by decide)) ((pl_lst (n := 0) (pl_iL b)).up (by decide))]
  show some (D.bl (!PyData.eqvAll (D.pys (iL a)) (D.pys (iL b)))) = _
  rw [eqv_pys]
theorem eqD_TT (a b : List Int) : eqD (.tup (iL a)) (.tup (iL b)) = some (.bl (decide (a = b))) := by
  rw [eqD_pl ((pl_tup (n := 0) (pl_iL a)).up (by decide)) ((pl_tup (n := 0) (pl_iL b)).up (by decide))]
  show some (D.bl (PyData.eqvAll (D.pys (iL a)) (D.pys (iL b)))) = _
  rw [eqv_pys]
theorem neD_TT (a b : List Int) : neD (.tup (iL a)) (.tup (iL b)) = some (.bl (!decide (a = b))) := by
  rw [neD_pl ((pl_tup (n := 0) (pl_iL a)).up (by decide)) ((pl_tup (n := 0) (pl_iL b)).up (by decide))]
  show some (D.bl (!PyData.eqvAll (D.pys (iL a)) (D.pys (iL b)))) = _
  rw [eqv_pys]
/-! statements one by one -/
theorem seq_nx {m1 m2 : MS} {s s1 : Sto} (h : m1 s = some (.nx, s1)) : mSeq m1 m2 s = m2 s1 := by
  unfold mSeq
  rw [h]
  rfl
theorem seq_rt {m1 m2 : MS} {s s1 : Sto} {d : D} (h : m1 s = some (.rt d, s1)) : mSeq m1 m2 s = some (.rt d, s1) := by
  unfold mSeq
  rw [h]
  rfl
theorem for_it {mi : MI} {g : MG} {mb : MS} {s s1 : Sto} {xs : List D} (h : mi s = some (xs, s1)) : mFor mi g mb s = forD g mb xs s1 := by
  unfold mFor
  rw [h]
  rfl
theorem forD_fun {g : MG} {mb : MS} (S : Nat → Sto) : ∀ (xs : List D) (k : Nat), (∀ (i : Nat) (d : D), xs[i]? = some d → ∃ t1, g d (S (k + i)) = some t1 ∧ (mb t1 = some (.nx, S (k + i + 1)) ∨ mb t1 = some (.ct, S (k + i + 1)))) → forD g mb xs (S k) = some (.nx, S (k + xs.length))
  | [], k, _ => rfl
  | x :: xs, k, h => by
    obtain ⟨t1, h1, h2⟩ := h 0 x rfl
    have ih := forD_fun S xs (k + 1) fun i d hd => by
      have := h (i + 1) d (by simpa using hd)
      rw [show k + (i + 1) = k + 1 + i by omega] at this
      exact this
    rw [Nat.add_zero] at h1 h2
    unfold forD
    rw [h1]
    show (mb t1).bind _ = _
    rw [show k + (x :: xs).length = k + 1 + xs.length by rw [List.length_cons]; omega]
    rcases h2 with h2 | h2
    · rw [h2]; exact ih
    · rw [h2]; exact ih
theorem forD_inv {g : MG} {mb : MS} (I : Nat → Sto → Prop) : ∀ (xs : List D) (k : Nat) (s : Sto), I k s → (∀ (i : Nat) (d : D) (t : Sto), xs[i]? = some d → I (k + i) t → ∃ t1 t2, g d t = some t1 ∧ (mb t1 = some (.nx, t2) ∨ mb t1 = some (.ct, t2)) ∧ I (k + i + 1) t2) → ∃ t, forD g mb xs s = some (.nx, t) ∧ I (k + xs.length) t
  | [], k, s, h0, _ => ⟨s, rfl, h0⟩
  | x :: xs, k, s, h0, h => by
    obtain ⟨t1, t2, h1, h2, h3⟩ := h 0 x s rfl h0
    obtain ⟨t, ih, it⟩ := forD_inv I xs (k + 1) t2 (by rw [Nat.add_zero] at h3; exact h3) fun i d t hd ht => by
      have := h (i + 1) d t (by simpa using hd) (by rw [show k + (i + 1) = k + 1 + i by omega]; exact ht)
      rw [show k + (i + 1) = k + 1 + i by omega] at this
      exact this
    refine ⟨t, ?_, by rw [show k + (x :: xs).length = k + 1 + xs.length by rw [List.length_cons]; omega]; exact it⟩
    unfold forD
    rw [h1]
    show (mb t1).bind _ = _
    rcases h2 with h2 | h2
    · rw [h2]; exact ih
    · rw [h2]; exact ih
theorem comp_inv {vs : List Nat} {g : MG} {mt : MT} {me : ME} (P : Nat → List D → Sto → Prop) (hlen : ∀ i acc T, P i acc T → acc.length < 16000000) : ∀ (xs : List D) (k : Nat) (acc : List D) (t : Sto), P k acc (wipeS t vs) →
    (∀ (i : Nat) (d : D) (acc : List D) (T : Sto), xs[i]? = some d → P (k + i) acc T → ∃ s1 b s2, g d T = some s1 ∧ mt s1 = some (b, s2) ∧ (b = true → ∃ y s3, me s2 = some (.dat y, s3) ∧ P (k + i + 1) (acc ++ [y]) (wipeS s3 vs)) ∧ (b = false → P (k + i + 1) acc (wipeS s2 vs))) →
    ∃ acc' t', compD vs g mt me xs acc t = some (acc', t') ∧ P (k + xs.length) acc' (wipeS t' vs)
  | [], k, acc, t, h0, _ => ⟨acc, t, rfl, h0⟩
  | x :: xs, k, acc, t, h0, h => by
    obtain ⟨s1, b, s2, h1, h2, h3, h4⟩ := h 0 x acc _ rfl h0
    have hn : ∀ (i : Nat) (d : D) (acc : List D) (T : Sto), xs[i]? = some d → P (k + 1 + i) acc T → ∃ s1 b s2, g d T = some s1 ∧ mt s1 = some (b, s2) ∧ (b = true → ∃ y s3, me s2 = some (.dat y, s3) ∧ P (k + 1 + i + 1) (acc ++ [y]) (wipeS s3 vs)) ∧ (b = false → P (k + 1 + i + 1) acc (wipeS s2 vs)) := fun i d acc T hd hp => by
      have := h (i + 1) d acc T (by simpa using hd) (by rw [show k + (i + 1) = k + 1 + i by omega]; exact hp)
      rw [show k + (i + 1) = k + 1 + i by omega] at this
      exact this
    rw [show k + (x :: xs).length = k + 1 + xs.length by rw [List.length_cons]; omega]
    rw [Nat.add_zero] at h3 h4
    cases b with
    | true =>
      obtain ⟨y, s3, h5, h6⟩ := h3 rfl
      obtain ⟨acc', t', e, p⟩ := comp_inv P hlen xs (k + 1) (acc ++ [y]) s3 h6 hn
      refine ⟨acc', t', ?_, p⟩
      unfold compD
      rw [h1]
      show (mt s1).bind _ = _
      rw [h2]
      show (me s2).bind _ = _
      rw [h5]
      show (if acc.length < 16000000 then compD vs g mt me xs (acc ++ [y]) s3 else none) = _
      rw [if_pos (hlen _ _ _ h0)]
      exact e
    | false =>
      obtain ⟨acc', t', e, p⟩ := comp_inv P hlen xs (k + 1) acc s2 (h4 rfl) hn
      refine ⟨acc', t', ?_, p⟩
      unfold compD
      rw [h1]
      show (mt s1).bind _ = _
      rw [h2]
      exact e
/-- a comprehension that leaves the store as it is -/
theorem comp_fm {vs : List Nat} {g : MG} {mt : MT} {me : ME} {xs : List D} (T : Sto) (p : D → Bool) (h : D → D) (hx : xs.length < 16000000)
    (hs : ∀ d ∈ xs, ∃ s1 s2, g d T = some s1 ∧ mt s1 = some (p d, s2) ∧ (p d = true → ∃ s3, me s2 = some (.dat (h d), s3) ∧ wipeS s3 vs = T) ∧ (p d = false → wipeS s2 vs = T)) (t : Sto) (ht : wipeS t vs = T) :
    ∃ t', compD vs g mt me xs [] t = some ((xs.filter p).map h, t') ∧ wipeS t' vs = T := by
  obtain ⟨acc', t', e, h1, h2⟩ := comp_inv (vs := vs) (g := g) (mt := mt) (me := me) (fun i acc T' => T' = T ∧ acc = ((xs.take i).filter p).map h) (fun i acc T' hp => by
    rw [hp.2, List.length_map]
    refine Nat.lt_of_le_of_lt (List.length_filter_le _ _) ?_
    rw [List.length_take]
    omega) xs 0 [] t ⟨ht, rfl⟩ fun i d acc T' hd hp => by
      obtain ⟨rfl, rfl⟩ := hp
      obtain ⟨s1, s2, a1, a2, a3, a4⟩ := hs d (List.mem_of_getElem? hd)
      rw [Nat.zero_add]
      have ht : xs.take (i + 1) = xs.take i ++ [d] := by rw [List.take_add_one, hd]; rfl
      refine ⟨s1, p d, s2, a1, a2, fun hp => ?_, fun hp => ⟨a4 hp, ?_⟩⟩
      · obtain ⟨s3, b1, b2⟩ := a3 hp
        refine ⟨_, s3, b1, b2, ?_⟩
        rw [ht, List.filter_append, List.map_append, List.filter_cons, if_pos hp]
        rfl
      · rw [ht, List.filter_append, List.filter_cons, if_neg (by rw [hp]; decide)]
        simp
  rw [Nat.zero_add, List.take_length] at h2
  exact ⟨t', by rw [e, h2], h1⟩
theorem lc_of {mi : MI} {g : MG} {mt : MT} {me : ME} {vs : List Nat} {s s1 t' : Sto} {xs acc : List D} (h : mi s = some (xs, s1)) (h2 : compD vs g mt me xs [] s1 = some (acc, t')) : mLc mi g mt me vs s = some (acc, backS s1 (wipeS t' vs) vs) := by
  unfold mLc
  rw [h]
  show (compD vs g mt me xs [] s1).bind _ = _
  rw [h2]
  rfl
theorem if_t {mt : MT} {m1 m2 : MS} {s s1 : Sto} (h : mt s = some (true, s1)) : mIf mt m1 m2 s = m1 s1 := by
  unfold mIf
  rw [h]
  rfl
theorem if_f {mt : MT} {m1 m2 : MS} {s s1 : Sto} (h : mt s = some (false, s1)) : mIf mt m1 m2 s = m2 s1 := by
  unfold mIf
  rw [h]
  rfl
theorem cut_map {α β : Type} (f : α → β) (xs : List α) (lo hi : Option Int) : cutG (xs.map f) lo hi = (cutG xs lo hi).map f := by
  unfold cutG
  rw [List.length_map, List.map_take, List.map_drop]
theorem cut_iL (ns : List Int) (lo hi : Option Int) : cutG (iL ns) lo hi = iL (cutG ns lo hi) := cut_map _ _ _ _
theorem cut_init {α : Type} (xs : List α) : cutG xs none (some (-1)) = xs.dropLast := by
  have h1 : HT.sIx xs.length xs.length (some (-1)) = xs.length - 1 := by
    show (if (-1 : Int) < 0 then ((-1 : Int) + (xs.length : Int)).toNat else min (-1 : Int).toNat xs.length) = _
    rw [if_pos (by decide)]
    omega
  unfold cutG
  rw [h1, HT.sIx_none, List.drop_zero, Nat.sub_zero, List.dropLast_eq_take]
theorem iL_inj {a b : List Int} (h : iL a = iL b) : a = b := by
  have := congrArg asI h
  rw [asI_iL, asI_iL] at this
  exact Option.some.inj this
def SV.tame : SV → Bool
  | .un => true
  | .dat _ => true
  | _ => false
theorem par_tame {x : SV} {s : Sto} (h : x.tame = true) : parOf (x :: s) = parOf s := by
  cases x <;> first | rfl | cases h
theorem tame_dat {d : D} : (SV.dat d).tame = true := rfl
theorem tame_un : SV.un.tame = true := rfl
theorem r1_of {ma : MA} {s s1 : Sto} {n : Int} (h : ma s = some ([.dat (.int n)], s1)) (hn : -1000000 ≤ n ∧ n ≤ 1000000) : iR1 ma s = some (rng 0 n.toNat, s1) := by
  unfold iR1
  rw [h]
  show (if n < 4611686018427387904 ∧ -4611686018427387904 ≤ n then some (rng 0 n.toNat, s1) else none) = _
  rw [if_pos ⟨by omega, by omega⟩]
theorem r2_of {ma : MA} {s s1 : Sto} {m n : Int} (h : ma s = some ([.dat (.int m), .dat (.int n)], s1)) (hm : -1000000 ≤ m ∧ m ≤ 1000000) (hn : -1000000 ≤ n ∧ n ≤ 1000000) : iR2 ma s = some (rng m (n - m).toNat, s1) := by
  unfold iR2
  rw [h]
  show (if (-4611686018427387904 ≤ m ∧ m < 4611686018427387904) ∧ -4611686018427387904 ≤ n ∧ n < 4611686018427387904 then some (rng m (n - m).toNat, s1) else none) = _
  rw [if_pos ⟨⟨by omega, by omega⟩, by omega, by omega⟩]
theorem shl1 (n : Nat) (h : n ≤ 64) : Mi.intOp shlI (.int 1) (.int (n : Int)) = some (.int ((2 ^ n : Nat) : Int)) := by
  have e : shlI 1 (n : Int) = some ((2 ^ n : Nat) : Int) := by
    unfold shlI
    have hc : 0 ≤ (n : Int) ∧ (n : Int) ≤ 1000000 ∧ (1 : Int).natAbs < 18446744073709551616 := ⟨by omega, by omega, by omega⟩
    rw [if_pos hc, Int.one_mul, show (n : Int).toNat = n by omega]
    exact congrArg some (Int.natCast_pow 2 n).symm
  unfold Mi.intOp
  show (shlI 1 (n : Int)).bind _ = _
  rw [e]
  rfl
theorem un_eval {ma : ME} {g : D → D → Option D} {mb : ME} {s s1 s2 : Sto} {x y z : D} (h1 : ma s = some (.dat x, s1)) (h2 : mb s1 = some (.dat y, s2)) (h3 : g x y = some z) : mBin g ma mb s = some (.dat z, s2) := by
  unfold mBin
  rw [h1]
  show (mb s1).bind _ = _
  rw [h2]
  show (g x y).bind _ = _
  rw [h3]
  rfl
theorem asgL_of {mf : MF} {i : Nat} {s s1 : Sto} {q : List D} (h : mf s = some (q, s1)) : mAsg (mF mf) (gNm i) s = some (.nx, s1.set i (.dat (.lst q))) := by
  unfold mAsg mF
  rw [h]
  rfl
theorem asg_of {me : ME} {i : Nat} {s s1 : Sto} {d : D} (h : me s = some (.dat d, s1)) : mAsg me (gNm i) s = some (.nx, s1.set i (.dat d)) := by
  unfold mAsg
  rw [h]
  rfl
end Mi
namespace Mi
open PySem PySem.Spec PyProof.Rows L2 Evl
/-! enumerate of a list; a tuple of ints that stands at the top -/
def enF : Nat → List D → List D
  | _, [] => []
  | k, d :: ds => .tup [.int (k : Int), d] :: enF (k + 1) ds
theorem enF_len : ∀ (k : Nat) (ds : List D), (enF k ds).length = ds.length
  | _, [] => rfl
  | k, d :: ds => by
    show (enF (k + 1) ds).length + 1 = ds.length + 1
    rw [enF_len]
theorem enF_at : ∀ {k : Nat} {ds : List D} {i : Nat} {x : D}, (enF k ds)[i]? = some x → ∃ d, ds[i]? = some d ∧ x = .tup [.int ((k + i : Nat) : Int), d]
  | _, [], i, x, h => by cases h
  | k, d :: ds, 0, x, h => by
    have : D.tup [.int (k : Int), d] = x := by simpa [enF] using h
    exact ⟨d, rfl, this.symm⟩
  | k, d :: ds, i + 1, x, h => by
    obtain ⟨e, h1, h2⟩ := enF_at (k := k + 1) (ds := ds) (i := i) (x := x) (by simpa [enF] using h)
    exact ⟨e, by simpa using h1, by rw [h2, show k + 1 + i = k + (i + 1) by omega]⟩
def iEn (ma : ME) : MI := fun s => (ma s).bind fun a => (frz a.2 a.1).bind fun q => (q.1.seqL).bind fun ds => some (enF 0 ds, q.2)
section
variable {K : PySem.W.Frag}
theorem it_enum {a : Addr} {vs : List V} {ds : List D} {Hb1 : Hp} (h : SqL K Hb1 a vs) (r : RepL K Hb1 vs ds) : ItOk K (Ite K a) Hb1 (enF 0 ds) := by
  intro f σ H2 s Hb2 e R i
  have h2 : SqL K H2 a vs := ex_l (e.trans R.hb) h
  refine ⟨fun d hd => ?_, fun hi => ⟨vs, h2, by rw [enF_len] at hi; rw [r.len]; exact hi⟩⟩
  obtain ⟨d', hd', rfl⟩ := enF_at hd
  obtain ⟨v, hv, rv⟩ := r.get hd'
  refine ⟨⟨vs, v, h2, hv⟩, fun x H' y => ?_⟩
  obtain ⟨T, w, rfl, hT, rfl, y⟩ := y
  have e1 := (y vs h2).symm.trans hv
  cases e1
  have n := R.new (.tup [.int (i : Nat), v]) hT
  refine ⟨_, n.1, n.2, .tup (st_of upd_same) (.cons ?_ (.cons ((rv.up e).up n.1) .nil))⟩
  rw [Nat.zero_add]
  exact .int _
theorem snd_iEn {te : TE} {me : ME} (he : SndE K te me) : SndI K (iEnum K (tCons te tNil)) (iEn me) := by
  intro f σ H s Hb items s' R h Rk q
  obtain ⟨a, h1, h⟩ := bnd h
  obtain ⟨b, h2, h⟩ := bnd h
  obtain ⟨ds, h3, h⟩ := bnd h
  cases h
  obtain ⟨d, s2⟩ := b
  refine he f σ H s Hb _ _ R h1 _ fun v H1 Hb1 e1 R1 r1 => ?_
  obtain ⟨Hb2, e2, R2, r2⟩ := frz_ok R1 r1 h2
  cases d with
  | lst es =>
    cases h3
    cases r2 with
    | lst x y => exact ⟨_, _, rfl, ex_l R2.hb (sq_of x), q _ _ _ (e1.trans e2) R2 (it_enum (sq_of x) y)⟩
  | fro es =>
    cases h3
    cases r2 with
    | fro x y => exact ⟨_, _, rfl, ex_l R2.hb x, q _ _ _ (e1.trans e2) R2 (it_enum x y)⟩
  | _ => cases h3
theorem d_iEn {X : Cx} {e : Expr} {te : TE} {me : ME} {p pos tpos : Pos} {elts : List Expr} {kk : Nat} (hm : X.mg "enumerate" = none) (h : PX X e te me) (hK : X.K = K := by rfl) (hg : Gl X "enumerate" := by rfl) (hs0 : starEach (e :: []) X.env = (false, eval e X.env) :: starEach [] X.env := by rfl) (hs : starEach [e] X.env = [(false, eval e X.env)] := by rfl) :
    PXI X (.Tuple elts kk tpos) (.Call (.Name "enumerate" p) [e] [] pos) (iEnum K (tCons te tNil)) (iEn me) := by
  subst hK
  exact ⟨pi_enum hg hm (pa_cons h.pe pa_nil hs0) hs, snd_iEn h.sn⟩
def allInt : List Value → List Int → Bool
  | [], [] => true
  | .int i _ :: us, n :: ns => decide (i = n) && allInt us ns
  | _, _ => false
def tupI (o : Obj) (ns : List Int) : Bool := (match o.cls with
  | .type n => decide (n = "tuple")
  | _ => false) && match o.data with
  | .seq its _ => decide (its.size ≤ 1000) && allInt its.toList ns
  | _ => false
theorem allInt_ok : ∀ {us : List Value} {ns : List Int}, allInt us ns = true → Vals (ns.map V.int) us
  | [], [], _ => .nil
  | .int i t :: us, n :: ns, h => by
    have h : (decide (i = n) && allInt us ns) = true := h
    rw [Bool.and_eq_true] at h
    have := of_decide_eq_true h.1
    subst this
    exact .cons ⟨t, rfl⟩ (allInt_ok h.2)
  | [], _ :: _, h => by cases h
  | u :: us, [], h => by cases u <;> cases h
  | .none :: _, _ :: _, h => by cases h
  | .bool _ :: _, _ :: _, h => by cases h
  | .str _ _ :: _, _ :: _, h => by cases h
  | .ref _ :: _, _ :: _, h => by cases h
  | .type _ :: _, _ :: _, h => by cases h
  | .bytes _ _ :: _, _ :: _, h => by cases h
  | .float _ _ :: _, _ :: _, h => by cases h
  | .builtin _ :: _, _ :: _, h => by cases h
theorem rep_tupI {Hb : Hp} {a : Addr} {o : Obj} {ns : List Int} (hk : K.lookup a = some o) (h : tupI o ns = true) : Rep K Hb (.ref a) (.tup (iL ns)) := by
  unfold tupI at h
  rw [Bool.and_eq_true] at h
  obtain ⟨h1, h2⟩ := h
  cases hc : o.cls with
  | type n =>
    rw [hc] at h1
    have h1 := of_decide_eq_true h1
    subst h1
    cases hd : o.data with
    | seq its n =>
      rw [hd] at h2
      rw [Bool.and_eq_true] at h2
      have hz := of_decide_eq_true h2.1
      exact .tup (.inr ⟨o, its, n, hk, hc, hd, Nat.le_trans hz (by rw [sizeLine_eq]; omega), allInt_ok h2.2⟩) (RepL.of_ints ns)
    | _ => rw [hd] at h2; cases h2
  | _ => rw [hc] at h1; cases h1
end
end Mi
namespace Mi
theorem and_t {ma mb : MT} {s s1 : Sto} (h : ma s = some (true, s1)) : mAnd ma mb s = mb s1 := by
  unfold mAnd
  rw [h]
  rfl
theorem and_f {ma mb : MT} {s s1 : Sto} (h : ma s = some (false, s1)) : mAnd ma mb s = some (false, s1) := by
  unfold mAnd
  rw [h]
  rfl
theorem or_t {ma mb : MT} {s s1 : Sto} (h : ma s = some (true, s1)) : mOr ma mb s = some (true, s1) := by
  unfold mOr
  rw [h]
  rfl
theorem or_f {ma mb : MT} {s s1 : Sto} (h : ma s = some (false, s1)) : mOr ma mb s = mb s1 := by
  unfold mOr
  rw [h]
  rfl
end Mi

/-! enumerate and sum of a tuple. -/
namespace Mi
open PySem PySem.Spec PyProof.Rows L2 Evl
theorem meets_enum1 {v : Value} {o : Obj} {H : Heap → Prop} (B : Begins v o H) :
    Meets (Builtin.«enumerate.__new__» ⟨[.type "enumerate", v], []⟩) (fun _ R s => H s.heap ∧
      R (.ok (.ret (.ref (s.heap.push o).objs.size))) { s with heap := (s.heap.push o).push { cls := .type "enumerate", data := .fields #[.none, .bool false, .ref s.heap.objs.size, rawInt 0, .none, .none] } }) :=
  .of_wp fun prog w A R s h => by
    obtain ⟨hp, g, d, tk, os⟩ := s; obtain ⟨h1, h⟩ := h
    have hsub := sub_enumerate
    have q1 : ∀ {A' : Around} {E : Value → Shared → Prop} {Q : Value → Shared → Prop}, Q (.ref hp.objs.size) ⟨hp.push o, g, d, tk, os⟩ → wpAny (model prog w) A' (pyIter v) Q E ⟨hp, g, d, tk, os⟩ :=
      fun q => B.iter prog w _ _ ⟨hp, g, d, tk, os⟩ _ h1 q
    wp_walk using q1
    refine wpAny_stack_any fun st => wpAny_pure ?_
    split
    · rename_i c _ _ _ _ _
      cases (c == Value.type "enumerate")
      · wp_walk using q1
        exact ⟨_, rfl, h⟩
      · wp_walk using q1
        exact ⟨_, rfl, h⟩
    · wp_walk using q1
      exact ⟨_, rfl, h⟩
section
variable {prog : Program} {w : World} {A : Around} {E : Value → Shared → Prop} {s : Shared}
theorem call_enumT {l : Addr} {items : Array Value} {Q : Value → Shared → Prop} (hL : s.heap.IsTuple l items)
    (h : ∀ h', IsEnum h' (s.heap.objs.size + 1) s.heap.objs.size 0 .none → h'.IsTupleIter s.heap.objs.size l 0 → h'.objs.size = s.heap.objs.size + 2 →
      (∀ b o, s.heap.get? b = some o → h'.get? b = some o) → Q (.ref (s.heap.objs.size + 1)) { s with heap := h' }) :
    wpAny (model prog w) A (call (.type "enumerate") [.ref l]) Q E s := by
  have B := begins_tuple l items
  refine callType_new F.called_enumerate (by decide) (F.typeCall_enumerate_1 _) (F.newCall_enumerate_1 _) (fun obj => F.args_object_init_2 obj _) F.entry_enumerate_new
    (meets_enum1 B) ⟨hL, ?_⟩
  have hz : (s.heap.push { cls := .type "tuple_iterator", data := .fields #[.ref l, .int 0 0] }).objs.size = s.heap.objs.size + 1 := Heap.size_push ..
  show _ ∧ _
  rw [hz]
  have he : IsEnum ((s.heap.push { cls := .type "tuple_iterator", data := .fields #[.ref l, .int 0 0] }).push
      { cls := .type "enumerate", data := .fields #[.none, .bool false, .ref s.heap.objs.size, rawInt 0, .none, .none] }) (s.heap.objs.size + 1) s.heap.objs.size 0 .none := by
    have := Heap.get?_push_size (s.heap.push { cls := .type "tuple_iterator", data := .fields #[.ref l, .int 0 0] })
      (o := { cls := .type "enumerate", data := .fields #[.none, .bool false, .ref s.heap.objs.size, rawInt 0, .none, .none] }) rfl
    rw [hz] at this; exact this
  refine ⟨⟨_, he, rfl⟩, h _ he ⟨_, Heap.get?_push_of_some _ (Heap.get?_push_size _ rfl), rfl, rfl⟩ (by rw [Heap.size_push, hz]) fun b o x => Heap.get?_push_of_some _ (Heap.get?_push_of_some _ x)⟩
theorem next_enumT_end {e it l : Addr} {i : Nat} {items : Array Value} {old : Value} {Q : Option Value → Shared → Prop} (hh : A.handled = none)
    (he : IsEnum s.heap e it i old) (hit : s.heap.IsTupleIter it l i) (hl : s.heap.IsTuple l items) (hx : items.size ≤ i)
    (hQ : ∀ h', Heap.ExtBut it s.heap h' → Q none { s with heap := h' }) : wpAny (model prog w) A (pyNext (.ref e)) Q E s := by
  have hT : s.TypeIs (.ref e) "enumerate" := ⟨_, he, rfl⟩
  unfold pyNext
  refine wpAny_bind (wpAny_attempt (wpAny_callSpecial?_slot (name := Str.ofString "__next__") hT F.slot_enumerate_next
    (wpAny_call_entry F.slot_enumerate_next hT F.entry_enumerate_next ?_ (F.args_enumerate_next_1 _))))
  show wpAny _ _ (field (.ref e) 2 >>= _) _ _ _
  refine wpAny_bind (wpAny_field he rfl (x := .ref it) rfl ?_)
  refine wpAny_bind (wpAny_nextOf_tuple_end hh hit hl (by simpa using hx) fun h' x he' hx' => ?_)
  obtain ⟨o, ho, hc⟩ := hx'
  refine wpAny_bind (wpAny_isInstance (T := "StopIteration") (b := true) ⟨o, ho, hc⟩ isSubtype_stop ?_)
  exact wpAny_pure (hQ _ he')
end
/-- the tuple at a, each item in a new pair -/
def Itet (K : PySem.W.Frag) (a : Addr) : It :=
  ⟨fun i H => ∃ (xs : List V) (x : V), SqT K H a xs ∧ xs[i]? = some x, fun i H v H' => ∃ T x, v = .ref T ∧ H T = none ∧ H' = upd H T (.tup [.int (i : Nat), x]) ∧ ∀ xs, SqT K H a xs → xs[i]? = some x, fun i H => ∃ xs : List V, SqT K H a xs ∧ xs.length ≤ i⟩
theorem turn_enumT {P : Program} {w : World} {K : PySem.W.Frag} {elts : List Expr} {kk : Nat} {tpos : Pos} (a e it : Addr) (hai : a ≠ it) (hae : a ≠ e) :
    Turn P w K (.Tuple elts kk tpos) (Itet K a) [e, it] e (fun i h => (∃ old, IsEnum h e it ((i : Nat) : Int) old) ∧ h.IsTupleIter it a i ∧ e ≠ it) where
  mem := by simp
  obj := fun i h st b hb => by
    obtain ⟨⟨old, he⟩, ⟨o, ho, hc, hd⟩, _⟩ := st
    have e' : b = e ∨ b = it := by simpa using hb
    rcases e' with z | z
    · rw [z]; exact ⟨_, he, fun v q => nomatch q⟩
    · rw [z]; exact ⟨o, ho, fun v q => by rw [hd] at q; cases q⟩
  keep := fun i h h' st k => let ⟨⟨old, he⟩, hi, hne⟩ := st; ⟨⟨old, k e (by simp) _ he⟩, hi.at fun o q => k it (by simp) o q, hne⟩
  item := by
    intro X hP hw hK hc i pins s σ H E I hf st hg
    subst hP hw hK
    obtain ⟨⟨old, he⟩, hit, hne⟩ := st
    obtain ⟨xs, x, hq, hx⟩ := hg
    obtain ⟨its, rv, p, hz⟩ := I.tuple hq
    obtain ⟨u, hu, ru⟩ := rv.get hx
    have hel : e < s.heap.objs.size := Heap.lt_size he
    have hil : it < s.heap.objs.size := by obtain ⟨_, q, _⟩ := hit; exact Heap.lt_size q
    have D := Draws.tuple (prog := X.prog) (w := X.w) (A := X.A.in1) (I.ok.hd hc) it a hai its.toArray
    have hef : e ∉ [it, a] := fun hm => by
      have e' : e = it ∨ e = a := by simpa using hm
      rcases e' with z | z
      · exact hne z
      · exact hae z.symm
    have hlt : i < its.toArray.size := by
      have h1 : i < xs.length := (List.getElem?_eq_some_iff.mp hx).1
      have h2 := rv.length
      simp
      omega
    refine wpAny_pyNext_enum_itemD D he ⟨hit, p⟩ hlt hne hef fun y h' tk hy ho hit' hT hsz hk => ?_
    have hyu : y = u := by
      have hy' : its.toArray[i]? = some y := hy
      have hu' : its.toArray[i]? = some u := by simpa using hu
      exact Option.some.inj (hy'.symm.trans hu')
    subst hyu
    refine ⟨_, rfl, wpAny_letOwnedTupleGo_enum (s := { s with heap := h', toks := tk + 1 }) ho fun h'' he' sb => ?_⟩
    have hT2 : h''.get? s.heap.objs.size = some { cls := .type "tuple", data := .seq #[.int i tk, y] } := (sb.2 _ (Nat.ne_of_gt hel)).trans hT
    have new : ObjOk X.prog X.w (upd H s.heap.objs.size (.tup [.int (i : Nat), x])) h'' s.heap.objs.size (.tup [.int (i : Nat), x]) :=
      ⟨by show 2 ≤ sizeLine; decide, [.int i tk, y], .cons ⟨_, rfl⟩ (.cons ru .nil), ⟨_, hT2, rfl, _, rfl⟩⟩
    have I1 : Inv X pins σ (upd H s.heap.objs.size (.tup [.int (i : Nat), x])) { s with heap := h'', toks := tk + 1 } :=
      I.turnedNew (ch := [e, it]) (fun b ob hb q => (sb.2 b (fun z => hb (by simp [z]))).trans (hk b ob (fun z => hb (by simp [z])) (fun z => hb (by simp [z])) q)) hf (Nat.le_refl _) new
    refine ⟨.ref s.heap.objs.size, _, I1, rfl, ⟨_, x, rfl, I.hok.fresh (Nat.le_refl _), rfl, fun ys hy => by rw [I.tuple_inj hy hq]; exact hx⟩, ⟨⟨y, ?_⟩, hit'.1.at fun o q => (sb.2 it (Ne.symm hne)).trans q, hne⟩, fun b hb => ?_⟩
    · have e1 : ((i + 1 : Nat) : Int) = (i : Int) + 1 := by omega
      rw [e1]; exact he'
    · have hb' : b < s.heap.objs.size := by
        have e' : b = e ∨ b = it := by simpa using hb
        rcases e' with z | z
        · rw [z]; exact hel
        · rw [z]; exact hil
      rw [upd_ne (Nat.ne_of_lt hb')]
      exact (hf b hb).1
  done := by
    intro X hP hw hK hc i pins s σ H E I hf st hg
    subst hP hw hK
    obtain ⟨⟨old, he⟩, hit, hne⟩ := st
    obtain ⟨xs, hq, hx⟩ := hg
    obtain ⟨its, rv, p, hz⟩ := I.tuple hq
    obtain ⟨f0, f1, f2, f3, f4, f5⟩ := hf it (by simp)
    have hl := rv.length
    have hlen : its.toArray.size ≤ i := by simp; omega
    exact next_enumT_end (I.ok.hd hc) he hit p (by simpa using hlen) fun h' eb => ⟨rfl, I.turned (t' := s.toks) (fun b o hb q => eb b o hb q) f0 f1 f3 f4 f5⟩
  self := fun A i s Q E st h => let ⟨⟨_, he⟩, _⟩ := st; wpAny_pyIter_enum he h
/-- enumerate of a list or of a tuple -/
def iEnumS (K : PySem.W.Frag) (ta : TA) : TI := fun σ H R => ta σ H fun vs H1 => ∃ a xs, vs = [.ref a] ∧ ((SqL K H1 a xs ∧ R (Ite K a) H1) ∨ (SqT K H1 a xs ∧ R (Itet K a) H1))
theorem pi_enumS {X : Cx} {e : Expr} {ta : TA} {p pos tpos : Pos} {elts : List Expr} {kk : Nat} (hg : Gl X "enumerate") (hm : X.mg "enumerate" = none) (ha : PA X [e] ta) (hs : starEach [e] X.env = [(false, eval e X.env)] := by rfl) :
    PI X (.Tuple elts kk tpos) (.Call (.Name "enumerate" p) [e] [] pos) (iEnumS X.K ta) := by
  refine ⟨fun pins s σ H R I h => ?_⟩
  refine Call_ (ld_blt I hg hm boot_enumerate (PyProof.Rows.callWith_type1 (thn (ha.run pos pins s σ H _ I h) fun us s1 ⟨vs, H1, I1, r1, q1⟩ => ?_) hs rfl))
  obtain ⟨a, xs, ex, q⟩ := q1
  subst ex
  cases r1 with
  | cons r rr =>
    cases rr
    cases r
    have fin : ∀ b ∈ [s1.heap.objs.size + 1, s1.heap.objs.size], FpOk X pins H1 b := fun b hb => by
      have e' : b = s1.heap.objs.size + 1 ∨ b = s1.heap.objs.size := by simpa using hb
      have hle : s1.heap.objs.size ≤ b := by
        rcases e' with z | z
        · rw [z]; exact Nat.le_add_right _ _
        · rw [z]; exact Nat.le_refl _
      exact I1.fpOk hle (I1.hok.fresh hle)
    rcases q with ⟨hq, q⟩ | ⟨hq, q⟩
    · obtain ⟨its, rv, p', hz⟩ := I1.list hq
      refine call_enumerate_list p'.isList fun h' he hit hsz hk => wpAny_pyIter_enum he ?_
      have I2 : Inv X pins σ H1 { s1 with heap := h' } := I1.kept (t' := s1.toks) hk
      exact ⟨s1.heap.objs.size + 1, [s1.heap.objs.size + 1, s1.heap.objs.size], _, _, H1, rfl, I2, turn_enum a (s1.heap.objs.size + 1) s1.heap.objs.size, ⟨⟨.none, he⟩, hit, Nat.succ_ne_self _⟩, fin, q⟩
    · obtain ⟨its, rv, p', hz⟩ := I1.tuple hq
      have hlt : a < s1.heap.objs.size := by obtain ⟨o, ho, _⟩ := p'; exact Heap.lt_size ho
      refine call_enumT (show s1.heap.IsTuple a its.toArray from p') fun h' he hit hsz hk => wpAny_pyIter_enum he ?_
      have I2 : Inv X pins σ H1 { s1 with heap := h' } := I1.kept (t' := s1.toks) hk
      exact ⟨s1.heap.objs.size + 1, [s1.heap.objs.size + 1, s1.heap.objs.size], _, _, H1, rfl, I2, turn_enumT a (s1.heap.objs.size + 1) s1.heap.objs.size (Nat.ne_of_lt hlt) (Nat.ne_of_lt (Nat.lt_succ_of_lt hlt)), ⟨⟨.none, he⟩, hit, Nat.succ_ne_self _⟩, fin, q⟩
/-- the sum of a list or of a tuple -/
def rSumS (K : PySem.W.Frag) : List V → Hp → VK → Prop := fun vs H Q => ∃ (a : Addr) (ns : List Int), vs = [V.ref a] ∧ (SqL K H a (ns.map V.int) ∨ SqT K H a (ns.map V.int)) ∧ Q (.int ns.sum) H
theorem cr_sumS {X : Cx} (hc : X.calm = true) : CallR X (.builtin "sum") (rSumS X.K) := by
  intro pins s σ H vs us Q I r h
  obtain ⟨a, ns, rfl, hs, q⟩ := h
  rw [Vals.ref1 r]
  rcases hs with hs | hs
  · obtain ⟨its, rv, hl, _⟩ := I.list hs
    exact sum_raw (I.ok.hd hc) hl.isList rv.ints fun h' tk t' hk => ⟨.int _, H, I.kept hk, ⟨_, rfl⟩, q⟩
  · obtain ⟨its, rv, hl, _⟩ := I.tuple hs
    have hi := rv.ints
    obtain ⟨xs, hx⟩ := hi.allInts.items
    have hn : numsOf its.toArray.toList = ns := by rw [show its.toArray.toList = its from rfl, hi.numsOf]
    have ht : s.heap.IsTuple a its.toArray := hl
    rw [hx] at ht
    have hx2 : its.toArray = intItems xs := hx
    rw [hx2] at hn
    rw [nums_intItems] at hn
    refine PySem.W.ktm_sumG (I.ok.hd hc) ht fun h' tk t' hk => ⟨.int _, H, I.kept hk, ⟨_, rfl⟩, ?_⟩
    rw [preSum_eq, List.take_of_length_le (by simp), hn]
    exact q
end Mi
namespace Mi
open PySem PySem.Spec PyProof.Rows L2 Evl
/-- sum of a list or of a tuple, as data -/
def sumS : List D → Option D
  | [x] => x.seq.bind fun ds => (asI ds).bind fun ns => some (.int ns.sum)
  | _ => none
theorem c_sumS {K : PySem.W.Frag} : SndC K (rSumS K) sumS := by
  intro H Hb vs xs z e rx hz Q q1 q2
  match xs, hz with
  | [x], hz =>
    obtain ⟨ds, h1, hz⟩ := bnd hz
    obtain ⟨ns, h2, hz⟩ := bnd hz
    cases hz
    obtain ⟨v, rfl, r⟩ := reps1 rx
    obtain ⟨l, ws, rfl, g1, g2⟩ := r.seq e h1
    rw [asI_of h2] at g2
    rw [g2.toI] at g1
    exact ⟨l, ns, rfl, g1, q1 _ (.int _)⟩
def iES (ma : ME) : MI := fun s => (ma s).bind fun a => (frz a.2 a.1).bind fun q => (q.1.seq).bind fun ds => some (enF 0 ds, q.2)
theorem it_enumT {K : PySem.W.Frag} {a : Addr} {vs : List V} {ds : List D} {Hb1 : Hp} (h : SqT K Hb1 a vs) (r : RepL K Hb1 vs ds) : ItOk K (Itet K a) Hb1 (enF 0 ds) := by
  intro f σ H2 s Hb2 e R i
  have h2 : SqT K H2 a vs := ex_t (e.trans R.hb) h
  refine ⟨fun d hd => ?_, fun hi => ⟨vs, h2, by rw [enF_len] at hi; rw [r.len]; exact hi⟩⟩
  obtain ⟨d', hd', rfl⟩ := enF_at hd
  obtain ⟨v, hv, rv⟩ := r.get hd'
  refine ⟨⟨vs, v, h2, hv⟩, fun x H' y => ?_⟩
  obtain ⟨T, w, rfl, hT, rfl, y⟩ := y
  have e1 := (y vs h2).symm.trans hv
  cases e1
  have n := R.new (.tup [.int (i : Nat), v]) hT
  refine ⟨_, n.1, n.2, .tup (st_of upd_same) (.cons ?_ (.cons ((rv.up e).up n.1) .nil))⟩
  rw [Nat.zero_add]
  exact .int _
theorem snd_iES {K : PySem.W.Frag} {te : TE} {me : ME} (he : SndE K te me) : SndI K (iEnumS K (tCons te tNil)) (iES me) := by
  intro f σ H s Hb items s' R h Rk q
  obtain ⟨a, h1, h⟩ := bnd h
  obtain ⟨b, h2, h⟩ := bnd h
  obtain ⟨ds, h3, h⟩ := bnd h
  cases h
  obtain ⟨d, s2⟩ := b
  refine he f σ H s Hb _ _ R h1 _ fun v H1 Hb1 e1 R1 r1 => ?_
  obtain ⟨Hb2, e2, R2, r2⟩ := frz_ok R1 r1 h2
  cases d with
  | lst es =>
    cases h3
    cases r2 with
    | lst x y => exact ⟨_, _, rfl, .inl ⟨ex_l R2.hb (sq_of x), q _ _ _ (e1.trans e2) R2 (it_enum (sq_of x) y)⟩⟩
  | fro es =>
    cases h3
    cases r2 with
    | fro x y => exact ⟨_, _, rfl, .inl ⟨ex_l R2.hb x, q _ _ _ (e1.trans e2) R2 (it_enum x y)⟩⟩
  | tup es =>
    cases h3
    cases r2 with
    | tup x y => exact ⟨_, _, rfl, .inr ⟨ex_t R2.hb x, q _ _ _ (e1.trans e2) R2 (it_enumT x y)⟩⟩
  | _ => cases h3
theorem d_iES {X : Cx} {K : PySem.W.Frag} {e : Expr} {te : TE} {me : ME} {p pos tpos : Pos} {elts : List Expr} {kk : Nat} (hm : X.mg "enumerate" = none) (h : PX X e te me) (hK : X.K = K := by rfl) (hg : Gl X "enumerate" := by rfl) (hs0 : starEach (e :: []) X.env = (false, eval e X.env) :: starEach [] X.env := by rfl) (hs : starEach [e] X.env = [(false, eval e X.env)] := by rfl) :
    PXI X (.Tuple elts kk tpos) (.Call (.Name "enumerate" p) [e] [] pos) (iEnumS K (tCons te tNil)) (iES me) := by
  subst hK
  exact ⟨pi_enumS hg hm (pa_cons h.pe pa_nil hs0) hs, snd_iES h.sn⟩
/-! ### isinstance, one built-in class -/
def tyD : D → Option String
  | .non => some "NoneType" | .bl _ => some "bool" | .int _ => some "int" | .str _ => some "str" | .tup _ => some "tuple" | .lst _ => some "list" | .fro _ => some "list" | .ins _ _ _ => none
def isiD (T : String) : List D → Option D
  | [x] => (tyD x).bind fun t => (kitB t T).bind fun b => some (.bl b)
  | _ => none
def rIsi1 (T : String) (K : PySem.W.Frag) : List V → Hp → VK → Prop := fun xs H Q => rIsi K (xs ++ [.ty T]) H Q
theorem ty_of {K : PySem.W.Frag} {H Hb : Hp} {v : V} {x : D} {t : String} (e : Ex Hb H) (r : RepC K H Hb v x) (h : tyD x = some t) : TyX K H v (.type t) := by
  have lq : ∀ {l : Addr} {vs : List V}, SqL K H l vs → TyX K H (.ref l) (.type "list") := fun {l vs} h => by
    rcases h with (h | ⟨o, h⟩) | ⟨o, its, n, h1, h2, _⟩
    · exact .base (.lst h)
    · exact .base (.frz h)
    · exact .kList h1 h2
  have lt : ∀ {l : Addr} {vs : List V}, SqT K H l vs → TyX K H (.ref l) (.type "tuple") := fun {l vs} h => by
    rcases h with (h | ⟨o, h⟩) | ⟨o, its, n, h1, h2, _⟩
    · exact .base (.tup h)
    · exact .fTuple h
    · exact .kTuple h1 h2
  cases x with
  | lst ds =>
    cases h
    obtain ⟨l, vs, rfl, g, _⟩ := r.seqL e rfl
    exact lq g
  | fro ds =>
    cases h
    obtain ⟨l, vs, rfl, g, _⟩ := r.seqL e rfl
    exact lq g
  | tup ds =>
    cases h
    obtain ⟨l, vs, rfl, g, _⟩ := r.tup e
    exact lt g
  | int i =>
    cases h
    rw [r.int]
    exact .base (.int i)
  | bl b =>
    cases h
    rcases r with r | ⟨_, _, _, _, k, _⟩
    · cases r
      exact .base (.bl b)
    · cases k
  | non =>
    cases h
    rcases r with r | ⟨_, _, _, _, k, _⟩
    · cases r
      exact .base .non
    · cases k
  | str b =>
    cases h
    rcases r with r | ⟨_, _, _, _, k, _⟩
    · cases r
      exact .base (.str b)
    · cases k
  | ins _ _ _ => cases h
theorem c_isi {K : PySem.W.Frag} {T : String} : SndC K (rIsi1 T K) (isiD T) := by
  intro H Hb vs xs z e rx hz Q q1 q2
  match xs, hz with
  | [x], hz =>
    obtain ⟨t, h1, hz⟩ := bnd hz
    obtain ⟨b, h2, hz⟩ := bnd hz
    cases hz
    obtain ⟨v, rfl, r⟩ := reps1 rx
    exact ⟨v, .ty T, .type t, .type T, b, rfl, .ty T, ty_of e r h1, kit_ty h2, q1 _ (.bl _)⟩
theorem d_isi {X : Cx} {K : PySem.W.Frag} {e : Expr} {te : TE} {me : ME} {p q pos : Pos} {T : String} {y : Str} (hm : X.mg "isinstance" = none) (hy : X.mg y = none) (h : PX X e te me) (hv : bootBuiltins y = some (.type T)) (hK : X.K = K := by rfl) (hg : Gl X "isinstance" := by rfl) (hgy : Gl X y := by rfl) (hny : y ≠ "__name__" := by decide) (hdy : (y == ("__debug__" : Str)) = false := by decide)
    (hs0 : starEach (e :: [.Name y q]) X.env = (false, eval e X.env) :: starEach [.Name y q] X.env := by rfl) (hs1 : starEach (.Name y q :: []) X.env = (false, eval (.Name y q) X.env) :: starEach [] X.env := by rfl) (hpl : (backTo pos (starEach [.Name y q] X.env)).any (·.1) = false := by rfl) :
    PX X (.Call (.Name "isinstance" p) [e, .Name y q] [] pos) (tCB (rIsi1 T K) (tCons te tNil)) (mBi (isiD T) (aCons me aNil)) := by
  subst hK
  refine ⟨?_, snd_bi c_isi (snd_cons h.sn snd_nil)⟩
  have g := pe_callB (p := p) (pos := pos) call_isi hg hm (by rfl) (pa_cons h.pe (pa_cons (pe_bltn (v := .ty T) (pos := q) hgy hy hv rfl hny hdy) pa_nil hs1) hs0) (by decide) (by decide) hs0 hpl
  exact g
end Mi

namespace Mine
open PySem PySem.Spec PyProof.Rows L2 Evl Mi
/-! ### the text: its defs, their derivations, their meanings (written by gen.py from the program itself) -/
def topS (i : Nat) : Stmt := PySem.Challenge.pw_rangekeep_k20_whole_words_are_mended.main.body.getD i (.Pass ⟨0, 0, 0, 0⟩)
abbrev st_Lrefill : Stmt := topS 10
abbrev N_Lrefill : List Str := ["script", "k", "cell"]
theorem sc_Lrefill : FnScope N_Lrefill ["script", "k"] (defScope st_Lrefill) := ⟨rfl, rfl, rfl, by decide +kernel, rfl, by decide +kernel, by decide +kernel⟩
abbrev st_Ldraw : Stmt := topS 11
abbrev N_Ldraw : List Str := ["state", "script", "size", "digit"]
theorem sc_Ldraw : FnScope N_Ldraw ["state", "script", "size"] (defScope st_Ldraw) := ⟨rfl, rfl, rfl, by decide +kernel, rfl, by decide +kernel, by decide +kernel⟩
abbrev st_parity_ : Stmt := topS 6
abbrev N_parity_ : List Str := ["bits", "check", "place", "bit"]
theorem sc_parity_ : FnScope N_parity_ ["bits", "check"] (defScope st_parity_) := ⟨rfl, rfl, rfl, by decide +kernel, rfl, by decide +kernel, by decide +kernel⟩
abbrev st_word_of : Stmt := topS 4
abbrev N_word_of : List Str := ["cell", "bits", "place"]
theorem sc_word_of : FnScope N_word_of ["cell"] (defScope st_word_of) := ⟨rfl, rfl, rfl, by decide +kernel, rfl, by decide +kernel, by decide +kernel⟩
abbrev st_Lword : Stmt := topS 12
abbrev N_Lword : List Str := ["cell", "bits", "rest", "place", "weight", "k"]
theorem sc_Lword : FnScope N_Lword ["cell"] (defScope st_Lword) := ⟨rfl, rfl, rfl, by decide +kernel, rfl, by decide +kernel, by decide +kernel⟩
abbrev st_cell_ : Stmt := topS 7
abbrev N_cell_ : List Str := ["bits", "wrong", "cell", "place", "bit"]
theorem sc_cell_ : FnScope N_cell_ ["bits", "wrong"] (defScope st_cell_) := ⟨rfl, rfl, rfl, by decide +kernel, rfl, by decide +kernel, by decide +kernel⟩
abbrev st_read_word : Stmt := topS 5
abbrev N_read_word : List Str := ["bits", "wrong", "place"]
theorem sc_read_word : FnScope N_read_word ["bits"] (defScope st_read_word) := ⟨rfl, rfl, rfl, by decide +kernel, rfl, by decide +kernel, by decide +kernel⟩
abbrev st_law : Stmt := topS 13
abbrev N_law : List Str := ["script", "state", "cells", "cell", "word", "one", "bits", "two", "more", "first", "second", "apart", "k"]
theorem sc_law : FnScope N_law ["script"] (defScope st_law) := ⟨rfl, rfl, rfl, by decide +kernel, rfl, by decide +kernel, by decide +kernel⟩
def dc_CELL_PLACES : D := .tup (iL [3, 5, 6, 7, 9, 10, 11, 12, 13, 14, 15])
def dc_CHECK_PLACES : D := .tup (iL [1, 2, 4, 8])
def dc_SIZE : D := .int 16
def m_Lrefill : Mf := fnM 3 2 ((mSeq (mAsg (mC (.int 0)) (gNm 2))
    (mSeq (mIf (mTru (mVar 0)) (mAsg (mBin ixD (mVar 0) (mBin (intOp modI) (mVar 1) (mBi lenD (aCons (mVar 0) aNil)))) (gNm 2)) mNext)
    (mSeq (mIf (mTest (mBin (cmpI ltI) (mVar 2) (mC (.int 0)))) (mAsg (mBin (intOp subI) (mC (.int 1)) (mBin mulD (mC (.int 2)) (mVar 2))) (gNm 2)) mNext)
    (mSeq (mIf (mAnd (mTest (mBin (cmpI geI) (mVar 2) (mBin (intOp powI) (mC (.int 10)) (mC (.int 18))))) (mTest (mBin (cmpI ltI) (mVar 1) (mBi lenD (aCons (mVar 0) aNil))))) (mRet (mVar 2)) mNext)
    (mRet (mBin (intOp modI) (mBi intD (aCons (mBin addD (mBin mulD (mBi intD (aCons (mBin addD (mBin addD (mBin mulD (mVar 2) (mC (.int 48271))) (mBin mulD (mVar 1) (mC (.int 69621)))) (mC (.int 12345))) aNil)) (mC (.int 40692))) (mC (.int 7))) aNil)) (mC (.int 2147483399)))))))))
def m_Ldraw : Mf := fnM 4 3 ((mSeq (mIf (mTest (mBin eqD (mBin ixD (mVar 0) (mC (.int 1))) (mC (.int 0)))) (mSeq (mSet 0 (mC (.int 1)) (mCall m_Lrefill none (aCons (mVar 1) (aCons (mBin ixD (mVar 0) (mC (.int 0))) aNil))))
    (mSet 0 (mC (.int 0)) (mBin addD (mBin ixD (mVar 0) (mC (.int 0))) (mC (.int 1))))) mNext)
    (mSeq (mAsg (mBin (intOp modI) (mBi intD (aCons (mBin ixD (mVar 0) (mC (.int 1))) aNil)) (mVar 2)) (gNm 3))
    (mSeq (mSet 0 (mC (.int 1)) (mBin (intOp fdivI) (mBin ixD (mVar 0) (mC (.int 1))) (mVar 2)))
    (mRet (mVar 3))))))
def m_parity_ : Mf := fnM 4 2 ((mRet (mBin (intOp modI) (mBi sumS (aCons (mF (mLc (iES (mVar 0)) (gTp 2 (gsCons (gNm 2) (gsCons (gNm 3) gsNil))) (mTru (mBin (intOp andI) (mVar 2) (mVar 1))) (mVar 3) [2, 3])) aNil)) (mC (.int 2)))))
def m_word_of : Mf := fnM 3 1 ((mSeq (mAsgF (mBinF repF (mF (mLst (aCons (mC (.int 0)) aNil))) (mC dc_SIZE)) 1)
    (mSeq (mFor (iRev (mC dc_CELL_PLACES)) (gNm 2) (mSeq (mSet 1 (mVar 2) (mBin (intOp andI) (mVar 0) (mC (.int 1))))
    (mAug 0 (intOp shrI) (mC (.int 1)))))
    (mSeq (mFor (iSeq (mC dc_CHECK_PLACES)) (gNm 2) (mSet 1 (mVar 2) (mCall m_parity_ none (aCons (mVar 1) (aCons (mVar 2) aNil)))))
    (mSeq (mSet 1 (mC (.int 0)) (mBin (intOp modI) (mBi sumS (aCons (mVar 1) aNil)) (mC (.int 2))))
    (mRet (mBi tupleD (aCons (mVar 1) aNil))))))))
def m_Lword : Mf := fnM 6 1 ((mSeq (mAsgF (mBinF repF (mF (mLst (aCons (mC (.int 0)) aNil))) (mC (.int 16))) 1)
    (mSeq (mAsg (mVar 0) (gNm 2))
    (mSeq (mFor (iSeq (mF (mLst (aCons (mC (.int 15)) (aCons (mC (.int 14)) (aCons (mC (.int 13)) (aCons (mC (.int 12)) (aCons (mC (.int 11)) (aCons (mC (.int 10)) (aCons (mC (.int 9)) (aCons (mC (.int 7)) (aCons (mC (.int 6)) (aCons (mC (.int 5)) (aCons (mC (.int 3)) aNil)))))))))))))) (gNm 3) (mSeq (mSet 1 (mVar 3) (mBin (intOp modI) (mBi intD (aCons (mVar 2) aNil)) (mC (.int 2))))
    (mAsg (mBin (intOp fdivI) (mVar 2) (mC (.int 2))) (gNm 2))))
    (mSeq (mFor (iSeq (mF (mLst (aCons (mC (.int 1)) (aCons (mC (.int 2)) (aCons (mC (.int 4)) (aCons (mC (.int 8)) aNil))))))) (gNm 4) (mSet 1 (mVar 4) (mBin (intOp modI) (mBi sumS (aCons (mF (mLc (iR1 (aCons (mC (.int 16)) aNil)) (gNm 5) (mAnd (mTest (mBin (cmpI gtI) (mBin (intOp andI) (mVar 5) (mVar 4)) (mC (.int 0)))) (mTest (mBin neD (mVar 5) (mVar 4)))) (mBin ixD (mVar 1) (mVar 5)) [5])) aNil)) (mC (.int 2)))))
    (mSeq (mSet 1 (mC (.int 0)) (mBin (intOp modI) (mBi sumS (aCons (mSl slD (mVar 1) (oSome (mC (.int 1))) oNone) aNil)) (mC (.int 2))))
    (mRet (mVar 1))))))))
def m_cell_ : Mf := fnM 5 2 ((mSeq (mAsg (mC (.int 0)) (gNm 2))
    (mSeq (mFor (iSeq (mC dc_CELL_PLACES)) (gNm 3) (mSeq (mAsg (mIfE (mTest (mBin eqD (mVar 3) (mVar 1))) (mBin (intOp subI) (mC (.int 1)) (mBin ixD (mVar 0) (mVar 3))) (mBin ixD (mVar 0) (mVar 3))) (gNm 4))
    (mAsg (mBin addD (mBin mulD (mC (.int 2)) (mVar 2)) (mVar 4)) (gNm 2))))
    (mRet (mVar 2)))))
def m_read_word : Mf := fnM 3 1 ((mSeq (mAsg (mBi sumS (aCons (mF (mLc (iSeq (mC dc_CHECK_PLACES)) (gNm 2) (mTest (mBin eqD (mCall m_parity_ none (aCons (mVar 0) (aCons (mVar 2) aNil))) (mC (.int 1)))) (mVar 2) [2])) aNil)) (gNm 1))
    (mSeq (mIf (mTest (mBin eqD (mBin (intOp modI) (mBi sumS (aCons (mVar 0) aNil)) (mC (.int 2))) (mC (.int 1)))) (mRet (mTup (aCons (mCall m_cell_ none (aCons (mVar 0) (aCons (mVar 1) aNil))) (aCons (mVar 1) aNil)))) mNext)
    (mSeq (mIf (mTest (mBin (cmpI gtI) (mVar 1) (mC (.int 0)))) (mRet (mC .non)) mNext)
    (mRet (mTup (aCons (mCall m_cell_ none (aCons (mVar 0) (aCons (mC .non) aNil))) (aCons (mC .non) aNil))))))))
def m_law : Mf := fnM 13 1 ((mSeq (mAsgF (mLst (aCons (mC (.int 0)) (aCons (mC (.int 0)) aNil))) 1)
    (mSeq (mAsg (mF (mLst (aCons (mCall m_Ldraw (some 0) (aCons (mVar 1) (aCons (mVar 0) (aCons (mC (.int 2048)) aNil)))) (aCons (mBin ixD (mF (mLst (aCons (mC (.int 0)) (aCons (mC (.int 2047)) (aCons (mC (.int 1024)) (aCons (mC (.int 1)) aNil)))))) (mCall m_Ldraw (some 0) (aCons (mVar 1) (aCons (mVar 0) (aCons (mC (.int 4)) aNil))))) aNil)))) (gNm 2))
    (mSeq (mFor (iSeq (mVar 2)) (gNm 3) (mSeq (mAsg (mCall m_word_of none (aCons (mVar 3) aNil)) (gNm 4))
    (mSeq (mIf (mOr (mNot (mTru (mBi (isiD "tuple") (aCons (mVar 4) aNil)))) (mOr (mTest (mBin neD (mF (mBiF listF (aCons (mVar 4) aNil))) (mCall m_Lword none (aCons (mVar 3) aNil)))) (mTest (mBin neD (mCall m_read_word none (aCons (mVar 4) aNil)) (mTup (aCons (mVar 3) (aCons (mC .non) aNil))))))) (mRet (mC (.bl false))) mNext)
    (mFor (iR1 (aCons (mC (.int 16)) aNil)) (gNm 5) (mSeq (mAsgF (mBiF listF (aCons (mVar 4) aNil)) 6)
    (mSeq (mSet 6 (mVar 5) (mBin (intOp subI) (mC (.int 1)) (mBin ixD (mVar 6) (mVar 5))))
    (mSeq (mIf (mTest (mBin neD (mCall m_read_word none (aCons (mBi tupleD (aCons (mVar 6) aNil)) aNil)) (mTup (aCons (mVar 3) (aCons (mVar 5) aNil))))) (mRet (mC (.bl false))) mNext)
    (mFor (iR1 (aCons (mVar 5) aNil)) (gNm 7) (mSeq (mAsgF (mBiF listF (aCons (mVar 6) aNil)) 8)
    (mSeq (mSet 8 (mVar 7) (mBin (intOp subI) (mC (.int 1)) (mBin ixD (mVar 8) (mVar 7))))
    (mIf (mTest (mBin isnD (mCall m_read_word none (aCons (mBi tupleD (aCons (mVar 8) aNil)) aNil)) (mC .non))) (mRet (mC (.bl false))) mNext)))))))))))
    (mSeq (mAsg (mTup (aCons (mCall m_word_of none (aCons (mBin ixD (mVar 2) (mC (.int 0))) aNil)) (aCons (mCall m_word_of none (aCons (mBin ixD (mVar 2) (mC (.int 1))) aNil)) aNil))) (gTp 2 (gsCons (gNm 9) (gsCons (gNm 10) gsNil))))
    (mSeq (mAsg (mBi lenD (aCons (mF (mLc (iR1 (aCons (mC (.int 16)) aNil)) (gNm 12) (mTest (mBin neD (mBin ixD (mVar 9) (mVar 12)) (mBin ixD (mVar 10) (mVar 12)))) (mVar 12) [12])) aNil)) (gNm 11))
    (mRet (mOrV (mAndV (mBin eqD (mBin ixD (mVar 2) (mC (.int 0))) (mBin ixD (mVar 2) (mC (.int 1)))) (mBin eqD (mVar 11) (mC (.int 0)))) (mBin (cmpI geI) (mVar 11) (mC (.int 4)))))))))))
/-- what the top has left for these -/
structure Txt (K : PySem.W.Frag) (mg : Str → Option Value) : Prop where
  ok : True
  b_enumerate : mg "enumerate" = none
  b_int : mg "int" = none
  b_isinstance : mg "isinstance" = none
  b_len : mg "len" = none
  b_list : mg "list" = none
  b_range : mg "range" = none
  b_reversed : mg "reversed" = none
  b_sum : mg "sum" = none
  b_tuple : mg "tuple" = none
  c_CELL_PLACES : ∃ (v : V) (u : Value), mg "CELL_PLACES" = some u ∧ RelV v u ∧ ∀ Hb : Hp, Rep K Hb v dc_CELL_PLACES
  c_CHECK_PLACES : ∃ (v : V) (u : Value), mg "CHECK_PLACES" = some u ∧ RelV v u ∧ ∀ Hb : Hp, Rep K Hb v dc_CHECK_PLACES
  c_SIZE : ∃ (v : V) (u : Value), mg "SIZE" = some u ∧ RelV v u ∧ ∀ Hb : Hp, Rep K Hb v dc_SIZE
section
variable {P : Program} {w : World} {K : PySem.W.Frag} {mg : Str → Option Value} {base : Heap}
theorem ok_Lrefill (T : Txt K mg) {f : Addr} {fd : FuncData} (F : Fun K "_law_refill" "_law_refill" st_Lrefill f fd) : FnOk P w K mg base CX0 1 f fd ["script", "k"] (spM K m_Lrefill) := by
  exact fn_okM F sc_Lrefill (by decide) rfl fun cdv A outer s H E hr => ⟨_, (d_bC (d_set 2 sc_Lrefill.nd (d_int))
    (d_bC (d_ifS (d_truT (K := K) (d_var 0)) (d_b1 (d_set 2 sc_Lrefill.nd (d_ix (K := K) (d_var 0) (d_op op_mod r_mod (d_var 1) (d_biB (rc := rLenP K) call_lenP c_len T.b_len (by decide +kernel) (d_cons (d_var 0) d_nil)))))) d_b0)
    (d_bC (d_ifS (d_cmpT op_lt r_B0 (nomark _) (d_var 2) (d_int)) (d_b1 (d_set 2 sc_Lrefill.nd (d_op op_sub r_sub (d_int) (d_op (r := rMulP K) op_mulP r_mulP (d_int) (d_var 2))))) d_b0)
    (d_bC (d_ifS (d_wT (d_andW (d_cmpT op_ge r_B0 (nomark _) (d_var 2) (d_op op_pow r_pow (d_int) (d_int))) (d_and1 (d_cmpT op_lt r_B0 (nomark _) (d_var 1) (d_biB (rc := rLenP K) call_lenP c_len T.b_len (by decide +kernel) (d_cons (d_var 0) d_nil)))))) (d_b1 (d_ret (d_var 2))) d_b0)
    (d_b1 (d_ret (d_op op_mod r_mod (d_biT call_intP c_int T.b_int (by decide +kernel) (d_cons (d_op (r := rAddP K) op_addP r_addP (d_op (r := rMulP K) op_mulP r_mulP (d_biT call_intP c_int T.b_int (by decide +kernel) (d_cons (d_op (r := rAddP K) op_addP r_addP (d_op (r := rAddP K) op_addP r_addP (d_op (r := rMulP K) op_mulP r_mulP (d_var 2) (d_int)) (d_op (r := rMulP K) op_mulP r_mulP (d_var 1) (d_int))) (d_int)) d_nil)) (d_int)) (d_int)) d_nil)) (d_int))))))))⟩
theorem ok_Ldraw (T : Txt K mg) {f_Lrefill : Addr} {fd_Lrefill : FuncData} (G_Lrefill : FnOk P w K mg base CX0 1 f_Lrefill fd_Lrefill ["script", "k"] (spM K m_Lrefill)) (g_Lrefill : mg "_law_refill" = some (.ref f_Lrefill)) (k_Lrefill : PySem.W.keepIn K (.ref f_Lrefill) = true) (b_Lrefill : Binds K fd_Lrefill ["script", "k"] []) {f : Addr} {fd : FuncData} (F : Fun K "_law_draw" "_law_draw" st_Ldraw f fd) : FnOk P w K mg base CX0 2 f fd ["state", "script", "size"] (spM K m_Ldraw) := by
  exact fn_okM F sc_Ldraw (by decide) rfl fun cdv A outer s H E hr => ⟨_, (d_bC (d_ifS (d_cmpT (r := rEqD K) (op_eqD hr.units) r_eq (nomark _) (d_ix (K := K) (d_var 0) (d_int)) (d_int)) (d_bC (d_setIx 0 (d_call none G_Lrefill (hr.mono (by decide)) g_Lrefill k_Lrefill b_Lrefill pass0 (d_cons (d_var 1) (d_cons (d_ix (K := K) (d_var 0) (d_int)) d_nil))) (d_int))
    (d_b1 (d_setIx 0 (d_op (r := rAddP K) op_addP r_addP (d_ix (K := K) (d_var 0) (d_int)) (d_int)) (d_int)))) d_b0)
    (d_bC (d_set 3 sc_Ldraw.nd (d_op op_mod r_mod (d_biT call_intP c_int T.b_int (by decide +kernel) (d_cons (d_ix (K := K) (d_var 0) (d_int)) d_nil)) (d_var 2)))
    (d_bC (d_setIx 0 (d_op op_fdiv r_fdiv (d_ix (K := K) (d_var 0) (d_int)) (d_var 2)) (d_int))
    (d_b1 (d_ret (d_var 3))))))⟩
theorem ok_parity_ (T : Txt K mg) {f : Addr} {fd : FuncData} (F : Fun K "_parity" "_parity" st_parity_ f fd) : FnOk P w K mg base CX0 1 f fd ["bits", "check"] (spM K m_parity_) := by
  exact fn_okM F sc_parity_ (by decide) rfl fun cdv A outer s H E hr => ⟨_, (d_b1 (d_ret (d_op op_mod r_mod (d_biB (rc := rSumS K) (cr_sumS rfl) c_sumS T.b_sum (by decide +kernel) (d_cons (d_F (d_lc rfl sc_parity_.nd (blkOk_by (own := [("place", 2), ("bit", 3)]) (N := N_parity_) (sc := defScope st_parity_) (by decide +kernel)) (d_iES (K := K) T.b_enumerate (d_var 0)) (fun _ _ _ _ _ => (d_gT (K := K) rfl (d_gsC (d_gN 2 sc_parity_.nd) (d_gsC (d_gN 3 sc_parity_.nd) d_gs0)))) (fun _ _ _ _ _ => (d_ts1 (d_truT (K := K) (d_op op_and r_and (d_var 2) (d_var 1))))) (fun _ _ _ _ _ => (d_var 3)) (by decide) rfl)) d_nil)) (d_int))))⟩
theorem ok_word_of (T : Txt K mg) {f_parity_ : Addr} {fd_parity_ : FuncData} (G_parity_ : FnOk P w K mg base CX0 1 f_parity_ fd_parity_ ["bits", "check"] (spM K m_parity_)) (g_parity_ : mg "_parity" = some (.ref f_parity_)) (k_parity_ : PySem.W.keepIn K (.ref f_parity_) = true) (b_parity_ : Binds K fd_parity_ ["bits", "check"] []) {f : Addr} {fd : FuncData} (F : Fun K "word_of" "word_of" st_word_of f fd) : FnOk P w K mg base CX0 2 f fd ["cell"] (spM K m_word_of) := by
  obtain ⟨v_CELL_PLACES, u_CELL_PLACES, c1_CELL_PLACES, c2_CELL_PLACES, c3_CELL_PLACES⟩ := T.c_CELL_PLACES
  obtain ⟨v_CHECK_PLACES, u_CHECK_PLACES, c1_CHECK_PLACES, c2_CHECK_PLACES, c3_CHECK_PLACES⟩ := T.c_CHECK_PLACES
  obtain ⟨v_SIZE, u_SIZE, c1_SIZE, c2_SIZE, c3_SIZE⟩ := T.c_SIZE
  exact fn_okM F sc_word_of (by decide) rfl fun cdv A outer s H E hr => ⟨_, (d_bC (d_setF 1 sc_word_of.nd (d_opF (r := rMulP K) op_mulP r_repF (d_F (d_lst (d_cons (d_int) d_nil))) (d_glob c1_SIZE c2_SIZE c3_SIZE)))
    (d_bC (d_for rfl PassesOwn.never (d_iRev (K := K) T.b_reversed (d_glob c1_CELL_PLACES c2_CELL_PLACES c3_CELL_PLACES)) (d_gN 2 sc_word_of.nd) (d_bC (d_setIx 1 (d_op op_and r_and (d_var 0) (d_int)) (d_var 2))
    (d_b1 (d_aug 0 sc_word_of.nd iop_shr r_shr (d_int)))))
    (d_bC (d_for rfl PassesOwn.never (d_iSeq (K := K) (d_glob c1_CHECK_PLACES c2_CHECK_PLACES c3_CHECK_PLACES)) (d_gN 2 sc_word_of.nd) (d_b1 (d_setIx 1 (d_call none G_parity_ (hr.mono (by decide)) g_parity_ k_parity_ b_parity_ pass0 (d_cons (d_var 1) (d_cons (d_var 2) d_nil))) (d_var 2))))
    (d_bC (d_setIx 1 (d_op op_mod r_mod (d_biB (rc := rSumS K) (cr_sumS rfl) c_sumS T.b_sum (by decide +kernel) (d_cons (d_var 1) d_nil)) (d_int)) (d_int))
    (d_b1 (d_ret (d_biT (rc := rTupleP K) call_tupleP c_tuple T.b_tuple (by decide +kernel) (d_cons (d_var 1) d_nil))))))))⟩
theorem ok_Lword (T : Txt K mg) {f : Addr} {fd : FuncData} (F : Fun K "_law_word" "_law_word" st_Lword f fd) : FnOk P w K mg base CX0 1 f fd ["cell"] (spM K m_Lword) := by
  exact fn_okM F sc_Lword (by decide) rfl fun cdv A outer s H E hr => ⟨_, (d_bC (d_setF 1 sc_Lword.nd (d_opF (r := rMulP K) op_mulP r_repF (d_F (d_lst (d_cons (d_int) d_nil))) (d_int)))
    (d_bC (d_set 2 sc_Lword.nd (d_var 0))
    (d_bC (d_for rfl PassesOwn.never (d_iSeq (K := K) (d_F (d_lst (d_cons (d_int) (d_cons (d_int) (d_cons (d_int) (d_cons (d_int) (d_cons (d_int) (d_cons (d_int) (d_cons (d_int) (d_cons (d_int) (d_cons (d_int) (d_cons (d_int) (d_cons (d_int) d_nil)))))))))))))) (d_gN 3 sc_Lword.nd) (d_bC (d_setIx 1 (d_op op_mod r_mod (d_biT call_intP c_int T.b_int (by decide +kernel) (d_cons (d_var 2) d_nil)) (d_int)) (d_var 3))
    (d_b1 (d_set 2 sc_Lword.nd (d_op op_fdiv r_fdiv (d_var 2) (d_int))))))
    (d_bC (d_for rfl PassesOwn.never (d_iSeq (K := K) (d_F (d_lst (d_cons (d_int) (d_cons (d_int) (d_cons (d_int) (d_cons (d_int) d_nil))))))) (d_gN 4 sc_Lword.nd) (d_b1 (d_setIx 1 (d_op op_mod r_mod (d_biB (rc := rSumS K) (cr_sumS rfl) c_sumS T.b_sum (by decide +kernel) (d_cons (d_F (d_lc rfl sc_Lword.nd (blkOk_by (own := [("k", 5)]) (N := N_Lword) (sc := defScope st_Lword) (by decide +kernel)) (d_iR1 T.b_range (d_cons (d_int) d_nil)) (fun _ _ _ _ _ => (d_gN 5 sc_Lword.nd)) (fun _ _ _ _ _ => (d_ts1 (d_wT (d_andW (d_cmpT op_gt r_B0 (nomark _) (d_op op_and r_and (d_var 5) (d_var 4)) (d_int)) (d_and1 (d_cmpT (r := rNeD K) (op_neD hr.units) r_ne (nomark _) (d_var 5) (d_var 4))))))) (fun _ _ _ _ _ => (d_ix (K := K) (d_var 1) (d_var 5))) (by decide) rfl)) d_nil)) (d_int)) (d_var 4))))
    (d_bC (d_setIx 1 (d_op op_mod r_mod (d_biB (rc := rSumS K) (cr_sumS rfl) c_sumS T.b_sum (by decide +kernel) (d_cons (d_sl (K := K) (d_var 1) (d_oS (d_int)) d_oN) d_nil)) (d_int)) (d_int))
    (d_b1 (d_ret (d_var 1))))))))⟩
theorem ok_cell_ (T : Txt K mg) {f : Addr} {fd : FuncData} (F : Fun K "_cell" "_cell" st_cell_ f fd) : FnOk P w K mg base CX0 1 f fd ["bits", "wrong"] (spM K m_cell_) := by
  obtain ⟨v_CELL_PLACES, u_CELL_PLACES, c1_CELL_PLACES, c2_CELL_PLACES, c3_CELL_PLACES⟩ := T.c_CELL_PLACES
  exact fn_okM F sc_cell_ (by decide) rfl fun cdv A outer s H E hr => ⟨_, (d_bC (d_set 2 sc_cell_.nd (d_int))
    (d_bC (d_for rfl PassesOwn.never (d_iSeq (K := K) (d_glob c1_CELL_PLACES c2_CELL_PLACES c3_CELL_PLACES)) (d_gN 3 sc_cell_.nd) (d_bC (d_set 4 sc_cell_.nd (d_if (d_cmpT (r := rEqD K) (op_eqD hr.units) r_eq (nomark _) (d_var 3) (d_var 1)) (d_op op_sub r_sub (d_int) (d_ix (K := K) (d_var 0) (d_var 3))) (d_ix (K := K) (d_var 0) (d_var 3))))
    (d_b1 (d_set 2 sc_cell_.nd (d_op (r := rAddP K) op_addP r_addP (d_op (r := rMulP K) op_mulP r_mulP (d_int) (d_var 2)) (d_var 4))))))
    (d_b1 (d_ret (d_var 2)))))⟩
theorem ok_read_word (T : Txt K mg) {f_cell_ : Addr} {fd_cell_ : FuncData} (G_cell_ : FnOk P w K mg base CX0 1 f_cell_ fd_cell_ ["bits", "wrong"] (spM K m_cell_)) (g_cell_ : mg "_cell" = some (.ref f_cell_)) (k_cell_ : PySem.W.keepIn K (.ref f_cell_) = true) (b_cell_ : Binds K fd_cell_ ["bits", "wrong"] []) {f_parity_ : Addr} {fd_parity_ : FuncData} (G_parity_ : FnOk P w K mg base CX0 1 f_parity_ fd_parity_ ["bits", "check"] (spM K m_parity_)) (g_parity_ : mg "_parity" = some (.ref f_parity_)) (k_parity_ : PySem.W.keepIn K (.ref f_parity_) = true) (b_parity_ : Binds K fd_parity_ ["bits", "check"] []) {f : Addr} {fd : FuncData} (F : Fun K "read_word" "read_word" st_read_word f fd) : FnOk P w K mg base CX0 2 f fd ["bits"] (spM K m_read_word) := by
  obtain ⟨v_CHECK_PLACES, u_CHECK_PLACES, c1_CHECK_PLACES, c2_CHECK_PLACES, c3_CHECK_PLACES⟩ := T.c_CHECK_PLACES
  exact fn_okM F sc_read_word (by decide) rfl fun cdv A outer s H E hr => ⟨_, (d_bC (d_set 1 sc_read_word.nd (d_biB (rc := rSumS K) (cr_sumS rfl) c_sumS T.b_sum (by decide +kernel) (d_cons (d_F (d_lc rfl sc_read_word.nd (blkOk_by (own := [("place", 2)]) (N := N_read_word) (sc := defScope st_read_word) (by decide +kernel)) (d_iSeq (K := K) (d_glob c1_CHECK_PLACES c2_CHECK_PLACES c3_CHECK_PLACES)) (fun _ _ _ _ _ => (d_gN 2 sc_read_word.nd)) (fun _ _ _ _ _ => (d_ts1 (d_cmpT (r := rEqD K) (op_eqD hr.units) r_eq (nomark _) (d_call none G_parity_ (hr.mono (by decide)) g_parity_ k_parity_ b_parity_ pass0 (d_cons (d_var 0) (d_cons (d_var 2) d_nil))) (d_int)))) (fun _ _ _ _ _ => (d_var 2)) (by decide) rfl)) d_nil)))
    (d_bC (d_ifS (d_cmpT (r := rEqD K) (op_eqD hr.units) r_eq (nomark _) (d_op op_mod r_mod (d_biB (rc := rSumS K) (cr_sumS rfl) c_sumS T.b_sum (by decide +kernel) (d_cons (d_var 0) d_nil)) (d_int)) (d_int)) (d_b1 (d_ret (d_tup (d_cons (d_call none G_cell_ (hr.mono (by decide)) g_cell_ k_cell_ b_cell_ pass0 (d_cons (d_var 0) (d_cons (d_var 1) d_nil))) (d_cons (d_var 1) d_nil))))) d_b0)
    (d_bC (d_ifS (d_cmpT op_gt r_B0 (nomark _) (d_var 1) (d_int)) (d_b1 (d_ret (d_non))) d_b0)
    (d_b1 (d_ret (d_tup (d_cons (d_call none G_cell_ (hr.mono (by decide)) g_cell_ k_cell_ b_cell_ pass0 (d_cons (d_var 0) (d_cons (d_non) d_nil))) (d_cons (d_non) d_nil))))))))⟩
theorem ok_law (T : Txt K mg) {f_Ldraw : Addr} {fd_Ldraw : FuncData} (G_Ldraw : FnOk P w K mg base CX0 2 f_Ldraw fd_Ldraw ["state", "script", "size"] (spM K m_Ldraw)) (g_Ldraw : mg "_law_draw" = some (.ref f_Ldraw)) (k_Ldraw : PySem.W.keepIn K (.ref f_Ldraw) = true) (b_Ldraw : Binds K fd_Ldraw ["state", "script", "size"] []) {f_word_of : Addr} {fd_word_of : FuncData} (G_word_of : FnOk P w K mg base CX0 2 f_word_of fd_word_of ["cell"] (spM K m_word_of)) (g_word_of : mg "word_of" = some (.ref f_word_of)) (k_word_of : PySem.W.keepIn K (.ref f_word_of) = true) (b_word_of : Binds K fd_word_of ["cell"] []) {f_Lword : Addr} {fd_Lword : FuncData} (G_Lword : FnOk P w K mg base CX0 1 f_Lword fd_Lword ["cell"] (spM K m_Lword)) (g_Lword : mg "_law_word" = some (.ref f_Lword)) (k_Lword : PySem.W.keepIn K (.ref f_Lword) = true) (b_Lword : Binds K fd_Lword ["cell"] []) {f_read_word : Addr} {fd_read_word : FuncData} (G_read_word : FnOk P w K mg base CX0 2 f_read_word fd_read_word ["bits"] (spM K m_read_word)) (g_read_word : mg "read_word" = some (.ref f_read_word)) (k_read_word : PySem.W.keepIn K (.ref f_read_word) = true) (b_read_word : Binds K fd_read_word ["bits"] []) {f : Addr} {fd : FuncData} (F : Fun K "law" "law" st_law f fd) : FnOk P w K mg base CX0 3 f fd ["script"] (spM K m_law) := by
  exact fn_okM F sc_law (by decide) rfl fun cdv A outer s H E hr => ⟨_, (d_bC (d_setF 1 sc_law.nd (d_lst (d_cons (d_int) (d_cons (d_int) d_nil))))
    (d_bC (d_set 2 sc_law.nd (d_F (d_lst (d_cons (d_call (some 0) G_Ldraw (hr.mono (by decide)) g_Ldraw k_Ldraw b_Ldraw pass0 (d_cons (d_var 1) (d_cons (d_var 0) (d_cons (d_int) d_nil)))) (d_cons (d_ix (K := K) (d_F (d_lst (d_cons (d_int) (d_cons (d_int) (d_cons (d_int) (d_cons (d_int) d_nil)))))) (d_call (some 0) G_Ldraw (hr.mono (by decide)) g_Ldraw k_Ldraw b_Ldraw pass0 (d_cons (d_var 1) (d_cons (d_var 0) (d_cons (d_int) d_nil))))) d_nil)))))
    (d_bC (d_for rfl PassesOwn.never (d_iSeq (K := K) (d_var 2)) (d_gN 3 sc_law.nd) (d_bC (d_set 4 sc_law.nd (d_call none G_word_of (hr.mono (by decide)) g_word_of k_word_of b_word_of pass0 (d_cons (d_var 3) d_nil)))
    (d_bC (d_ifS (d_wT (d_orW (d_notT (d_truT (K := K) (d_isi (K := K) (T := "tuple") T.b_isinstance T.b_tuple (d_var 4) (by decide +kernel)))) (d_orW (d_cmpT (r := rNeD K) (op_neD hr.units) r_ne (nomark _) (d_F (d_biTF (rc := rListP K) call_listP c_listF T.b_list (by decide +kernel) (d_cons (d_var 4) d_nil))) (d_call none G_Lword (hr.mono (by decide)) g_Lword k_Lword b_Lword pass0 (d_cons (d_var 3) d_nil))) (d_or1 (d_cmpT (r := rNeD K) (op_neD hr.units) r_ne (nomark _) (d_call none G_read_word (hr.mono (by decide)) g_read_word k_read_word b_read_word pass0 (d_cons (d_var 4) d_nil)) (d_tup (d_cons (d_var 3) (d_cons (d_non) d_nil)))))))) (d_b1 (d_ret (d_bl))) d_b0)
    (d_b1 (d_for rfl PassesOwn.never (d_iR1 T.b_range (d_cons (d_int) d_nil)) (d_gN 5 sc_law.nd) (d_bC (d_setF 6 sc_law.nd (d_biTF (rc := rListP K) call_listP c_listF T.b_list (by decide +kernel) (d_cons (d_var 4) d_nil)))
    (d_bC (d_setIx 6 (d_op op_sub r_sub (d_int) (d_ix (K := K) (d_var 6) (d_var 5))) (d_var 5))
    (d_bC (d_ifS (d_cmpT (r := rNeD K) (op_neD hr.units) r_ne (nomark _) (d_call none G_read_word (hr.mono (by decide)) g_read_word k_read_word b_read_word pass0 (d_cons (d_biT (rc := rTupleP K) call_tupleP c_tuple T.b_tuple (by decide +kernel) (d_cons (d_var 6) d_nil)) d_nil)) (d_tup (d_cons (d_var 3) (d_cons (d_var 5) d_nil)))) (d_b1 (d_ret (d_bl))) d_b0)
    (d_b1 (d_for rfl PassesOwn.never (d_iR1 T.b_range (d_cons (d_var 5) d_nil)) (d_gN 7 sc_law.nd) (d_bC (d_setF 8 sc_law.nd (d_biTF (rc := rListP K) call_listP c_listF T.b_list (by decide +kernel) (d_cons (d_var 6) d_nil)))
    (d_bC (d_setIx 8 (d_op op_sub r_sub (d_int) (d_ix (K := K) (d_var 8) (d_var 7))) (d_var 7))
    (d_b1 (d_ifS (d_cmpT op_isnP r_isn (nomark _) (d_call none G_read_word (hr.mono (by decide)) g_read_word k_read_word b_read_word pass0 (d_cons (d_biT (rc := rTupleP K) call_tupleP c_tuple T.b_tuple (by decide +kernel) (d_cons (d_var 8) d_nil)) d_nil)) (d_non)) (d_b1 (d_ret (d_bl))) d_b0))))))))))))))
    (d_bC (d_asg (d_tup (d_cons (d_call none G_word_of (hr.mono (by decide)) g_word_of k_word_of b_word_of pass0 (d_cons (d_ix (K := K) (d_var 2) (d_int)) d_nil)) (d_cons (d_call none G_word_of (hr.mono (by decide)) g_word_of k_word_of b_word_of pass0 (d_cons (d_ix (K := K) (d_var 2) (d_int)) d_nil)) d_nil))) (d_gT (K := K) rfl (d_gsC (d_gN 9 sc_law.nd) (d_gsC (d_gN 10 sc_law.nd) d_gs0))))
    (d_bC (d_set 11 sc_law.nd (d_biB (rc := rLenP K) call_lenP c_len T.b_len (by decide +kernel) (d_cons (d_F (d_lc rfl sc_law.nd (blkOk_by (own := [("k", 12)]) (N := N_law) (sc := defScope st_law) (by decide +kernel)) (d_iR1 T.b_range (d_cons (d_int) d_nil)) (fun _ _ _ _ _ => (d_gN 12 sc_law.nd)) (fun _ _ _ _ _ => (d_ts1 (d_cmpT (r := rNeD K) (op_neD hr.units) r_ne (nomark _) (d_ix (K := K) (d_var 9) (d_var 12)) (d_ix (K := K) (d_var 10) (d_var 12))))) (fun _ _ _ _ _ => (d_var 12)) (by decide) rfl)) d_nil)))
    (d_b1 (d_ret (d_or (d_and (d_cmp (r := rEqD K) (op_eqD hr.units) r_eq (nomark _) (d_ix (K := K) (d_var 2) (d_int)) (d_ix (K := K) (d_var 2) (d_int))) (d_one (d_cmp (r := rEqD K) (op_eqD hr.units) r_eq (nomark _) (d_var 11) (d_int)))) (d_one (d_cmp op_ge r_B0 (nomark _) (d_var 11) (d_int)))))))))))⟩
/-- all of it -/
theorem all_mk {l : PySem.W.OpenLaw} {w : World} {K : PySem.W.Frag} {h : Heap} {mg : Str → Option Value} {fa : Addr} (X : K.In h) (G : h.Ns mainGlobals mg) (hfa : mg "law" = some (.ref fa))
    {f0 : Addr} {od0 an0 : Option Addr} {sl0 : Array (Option Value)} {oc0 kV0 dc0 pm0 cd0 ct0 : Value} (a0 : PySem.W.nsIn K mainGlobals "_law_refill" = some (some (.ref f0))) (l0 : K.lookup f0 = some ⟨oc0, od0, .func (PySem.W.fnOf "_law_refill" "_law_refill" (defArgs st_Lrefill) (defBody st_Lrefill) (defScope st_Lrefill) .none kV0 dc0 pm0 an0 cd0 ct0), sl0⟩) (c0 : PySem.W.codeIn K cd0 "_law_refill" = true) (k0 : PySem.W.keepIn K (.ref f0) = true)
    {f1 : Addr} {od1 an1 : Option Addr} {sl1 : Array (Option Value)} {oc1 kV1 dc1 pm1 cd1 ct1 : Value} (a1 : PySem.W.nsIn K mainGlobals "_law_draw" = some (some (.ref f1))) (l1 : K.lookup f1 = some ⟨oc1, od1, .func (PySem.W.fnOf "_law_draw" "_law_draw" (defArgs st_Ldraw) (defBody st_Ldraw) (defScope st_Ldraw) .none kV1 dc1 pm1 an1 cd1 ct1), sl1⟩) (c1 : PySem.W.codeIn K cd1 "_law_draw" = true) (k1 : PySem.W.keepIn K (.ref f1) = true)
    {f2 : Addr} {od2 an2 : Option Addr} {sl2 : Array (Option Value)} {oc2 kV2 dc2 pm2 cd2 ct2 : Value} (a2 : PySem.W.nsIn K mainGlobals "_parity" = some (some (.ref f2))) (l2 : K.lookup f2 = some ⟨oc2, od2, .func (PySem.W.fnOf "_parity" "_parity" (defArgs st_parity_) (defBody st_parity_) (defScope st_parity_) .none kV2 dc2 pm2 an2 cd2 ct2), sl2⟩) (c2 : PySem.W.codeIn K cd2 "_parity" = true) (k2 : PySem.W.keepIn K (.ref f2) = true)
    {f3 : Addr} {od3 an3 : Option Addr} {sl3 : Array (Option Value)} {oc3 kV3 dc3 pm3 cd3 ct3 : Value} (a3 : PySem.W.nsIn K mainGlobals "word_of" = some (some (.ref f3))) (l3 : K.lookup f3 = some ⟨oc3, od3, .func (PySem.W.fnOf "word_of" "word_of" (defArgs st_word_of) (defBody st_word_of) (defScope st_word_of) .none kV3 dc3 pm3 an3 cd3 ct3), sl3⟩) (c3 : PySem.W.codeIn K cd3 "word_of" = true) (k3 : PySem.W.keepIn K (.ref f3) = true)
    {f4 : Addr} {od4 an4 : Option Addr} {sl4 : Array (Option Value)} {oc4 kV4 dc4 pm4 cd4 ct4 : Value} (a4 : PySem.W.nsIn K mainGlobals "_law_word" = some (some (.ref f4))) (l4 : K.lookup f4 = some ⟨oc4, od4, .func (PySem.W.fnOf "_law_word" "_law_word" (defArgs st_Lword) (defBody st_Lword) (defScope st_Lword) .none kV4 dc4 pm4 an4 cd4 ct4), sl4⟩) (c4 : PySem.W.codeIn K cd4 "_law_word" = true) (k4 : PySem.W.keepIn K (.ref f4) = true)
    {f5 : Addr} {od5 an5 : Option Addr} {sl5 : Array (Option Value)} {oc5 kV5 dc5 pm5 cd5 ct5 : Value} (a5 : PySem.W.nsIn K mainGlobals "_cell" = some (some (.ref f5))) (l5 : K.lookup f5 = some ⟨oc5, od5, .func (PySem.W.fnOf "_cell" "_cell" (defArgs st_cell_) (defBody st_cell_) (defScope st_cell_) .none kV5 dc5 pm5 an5 cd5 ct5), sl5⟩) (c5 : PySem.W.codeIn K cd5 "_cell" = true) (k5 : PySem.W.keepIn K (.ref f5) = true)
    {f6 : Addr} {od6 an6 : Option Addr} {sl6 : Array (Option Value)} {oc6 kV6 dc6 pm6 cd6 ct6 : Value} (a6 : PySem.W.nsIn K mainGlobals "read_word" = some (some (.ref f6))) (l6 : K.lookup f6 = some ⟨oc6, od6, .func (PySem.W.fnOf "read_word" "read_word" (defArgs st_read_word) (defBody st_read_word) (defScope st_read_word) .none kV6 dc6 pm6 an6 cd6 ct6), sl6⟩) (c6 : PySem.W.codeIn K cd6 "read_word" = true) (k6 : PySem.W.keepIn K (.ref f6) = true)
    {f7 : Addr} {od7 an7 : Option Addr} {sl7 : Array (Option Value)} {oc7 kV7 dc7 pm7 cd7 ct7 : Value} (a7 : PySem.W.nsIn K mainGlobals "law" = some (some (.ref f7))) (l7 : K.lookup f7 = some ⟨oc7, od7, .func (PySem.W.fnOf "law" "law" (defArgs st_law) (defBody st_law) (defScope st_law) .none kV7 dc7 pm7 an7 cd7 ct7), sl7⟩) (c7 : PySem.W.codeIn K cd7 "law" = true) (k7 : PySem.W.keepIn K (.ref f7) = true) (z_enumerate : PySem.W.nsIn K mainGlobals "enumerate" = some none) (z_int : PySem.W.nsIn K mainGlobals "int" = some none) (z_isinstance : PySem.W.nsIn K mainGlobals "isinstance" = some none) (z_len : PySem.W.nsIn K mainGlobals "len" = some none) (z_list : PySem.W.nsIn K mainGlobals "list" = some none) (z_range : PySem.W.nsIn K mainGlobals "range" = some none) (z_reversed : PySem.W.nsIn K mainGlobals "reversed" = some none) (z_sum : PySem.W.nsIn K mainGlobals "sum" = some none) (z_tuple : PySem.W.nsIn K mainGlobals "tuple" = some none) {x_CELL_PLACES : Addr} {o_CELL_PLACES : Obj} (y_CELL_PLACES : PySem.W.nsIn K mainGlobals "CELL_PLACES" = some (some (.ref x_CELL_PLACES))) (w_CELL_PLACES : K.lookup x_CELL_PLACES = some o_CELL_PLACES) (t_CELL_PLACES : tupI o_CELL_PLACES [3, 5, 6, 7, 9, 10, 11, 12, 13, 14, 15] = true) {x_CHECK_PLACES : Addr} {o_CHECK_PLACES : Obj} (y_CHECK_PLACES : PySem.W.nsIn K mainGlobals "CHECK_PLACES" = some (some (.ref x_CHECK_PLACES))) (w_CHECK_PLACES : K.lookup x_CHECK_PLACES = some o_CHECK_PLACES) (t_CHECK_PLACES : tupI o_CHECK_PLACES [1, 2, 4, 8] = true) {x_SIZE : Tok} (y_SIZE : PySem.W.nsIn K mainGlobals "SIZE" = some (some (.int 16 x_SIZE))) :
    ∃ fd : FuncData, (∀ (s : Shared) (v : Value), BindsTo s fd ⟨[v], []⟩ [("script", v)]) ∧ ∀ base : Heap, K.In base → base.Ns mainGlobals mg → FnOk l.prog w K mg base CX0 3 fa fd ["script"] (spM K m_law) := by
  have e := hfa.symm.trans (PySem.W.mg_of X G a7)
  cases e
  have T : Txt K mg := ⟨trivial, PySem.W.mg_none_of X G z_enumerate, PySem.W.mg_none_of X G z_int, PySem.W.mg_none_of X G z_isinstance, PySem.W.mg_none_of X G z_len, PySem.W.mg_none_of X G z_list, PySem.W.mg_none_of X G z_range, PySem.W.mg_none_of X G z_reversed, PySem.W.mg_none_of X G z_sum, PySem.W.mg_none_of X G z_tuple, ⟨.ref x_CELL_PLACES, _, PySem.W.mg_of X G y_CELL_PLACES, rfl, fun Hb => rep_tupI w_CELL_PLACES t_CELL_PLACES⟩, ⟨.ref x_CHECK_PLACES, _, PySem.W.mg_of X G y_CHECK_PLACES, rfl, fun Hb => rep_tupI w_CHECK_PLACES t_CHECK_PLACES⟩, ⟨.int 16, _, PySem.W.mg_of X G y_SIZE, ⟨_, rfl⟩, fun Hb => .int _⟩⟩
  have F0 := fun_mk (st := st_Lrefill) l0 c0 k0
  have b0 := F0.binds (ps := ["script", "k"]) fun _ _ _ _ _ _ us hl => match us, hl with | [_, _], _ => rfl
  have F1 := fun_mk (st := st_Ldraw) l1 c1 k1
  have b1 := F1.binds (ps := ["state", "script", "size"]) fun _ _ _ _ _ _ us hl => match us, hl with | [_, _, _], _ => rfl
  have F2 := fun_mk (st := st_parity_) l2 c2 k2
  have b2 := F2.binds (ps := ["bits", "check"]) fun _ _ _ _ _ _ us hl => match us, hl with | [_, _], _ => rfl
  have F3 := fun_mk (st := st_word_of) l3 c3 k3
  have b3 := F3.binds (ps := ["cell"]) fun _ _ _ _ _ _ us hl => match us, hl with | [_], _ => rfl
  have F4 := fun_mk (st := st_Lword) l4 c4 k4
  have b4 := F4.binds (ps := ["cell"]) fun _ _ _ _ _ _ us hl => match us, hl with | [_], _ => rfl
  have F5 := fun_mk (st := st_cell_) l5 c5 k5
  have b5 := F5.binds (ps := ["bits", "wrong"]) fun _ _ _ _ _ _ us hl => match us, hl with | [_, _], _ => rfl
  have F6 := fun_mk (st := st_read_word) l6 c6 k6
  have b6 := F6.binds (ps := ["bits"]) fun _ _ _ _ _ _ us hl => match us, hl with | [_], _ => rfl
  have F7 := fun_mk (st := st_law) l7 c7 k7
  refine ⟨PySem.W.fnOf "law" "law" (defArgs st_law) (defBody st_law) (defScope st_law) .none kV7 dc7 pm7 an7 cd7 ct7, fun s v => .of_eq rfl, fun base _ _ => ?_⟩
  have G0 : FnOk l.prog w K mg base CX0 1 f0 _ ["script", "k"] (spM K m_Lrefill) := ok_Lrefill T F0
  have G1 : FnOk l.prog w K mg base CX0 2 f1 _ ["state", "script", "size"] (spM K m_Ldraw) := ok_Ldraw T G0 (PySem.W.mg_of X G a0) k0 b0 F1
  have G2 : FnOk l.prog w K mg base CX0 1 f2 _ ["bits", "check"] (spM K m_parity_) := ok_parity_ T F2
  have G3 : FnOk l.prog w K mg base CX0 2 f3 _ ["cell"] (spM K m_word_of) := ok_word_of T G2 (PySem.W.mg_of X G a2) k2 b2 F3
  have G4 : FnOk l.prog w K mg base CX0 1 f4 _ ["cell"] (spM K m_Lword) := ok_Lword T F4
  have G5 : FnOk l.prog w K mg base CX0 1 f5 _ ["bits", "wrong"] (spM K m_cell_) := ok_cell_ T F5
  have G6 : FnOk l.prog w K mg base CX0 2 f6 _ ["bits"] (spM K m_read_word) := ok_read_word T G5 (PySem.W.mg_of X G a5) k5 b5 G2 (PySem.W.mg_of X G a2) k2 b2 F6
  exact ok_law T G1 (PySem.W.mg_of X G a1) k1 b1 G3 (PySem.W.mg_of X G a3) k3 b3 G4 (PySem.W.mg_of X G a4) k4 b4 G6 (PySem.W.mg_of X G a6) k6 b6 F7
end
end Mine

section
open PySem PySem.Spec PyProof.Rows L2 Evl Mi
local macro_rules | `(tactic| walk_at "ev") => `(tactic| simp -implicitDefEqProofs only [Mi.mTest, Mi.mBin, Mi.mUn, Mi.mC, Mi.aNil, Mi.aCons, Mi.mBi, Mi.mBiF, Mi.mTup, Mi.mLst, Mi.mF, Mi.mIfE, Mi.mTru, Mi.mAnd, Mi.mOr, Mi.mNot, Mi.mAndV, Mi.mOrV, Mi.mNotV, Mi.oNone, Mi.oSome, Mi.mSl, Mi.mSlF, Mi.mVar, Mi.look, Mi.looks, Mi.frz, Mi.frzs, Mi.mAsg, Mi.mAsgF, Mi.gNm, Mi.gTp, Mi.gsCons, Mi.gsNil, Mi.mRet, Mi.mRetN, Mi.mExpr, Mi.mPar, Mi.mAug, Mi.mApp, Mi.mExt, Mi.mSet, Mi.mNext, Mi.mIf, Mi.mYes, Mi.mBinF, Mi.lsAt, Mi.putAt, Mi.bInt, Mi.iSeq, Mi.iRev, Mi.ixD, Mi.D.seq, Mi.D.seqL, Mi.isiD, Mi.tyD, Mi.slD, Mi.slF, Mi.lenD, Mi.absD, Mi.maxD, Mi.minD, Mi.intD, Mi.boolD, Mi.tupleD, Mi.listF, Mi.sumD, Mi.sumS, Mi.addD, Mi.catF, Mi.mulD, Mi.repF, Mi.intOp, Mi.subI, Mi.plusI, Mi.timesI, Mi.fdivI, Mi.modI, Mi.powI, Mi.shlI, Mi.shrI, Mi.andI, Mi.orI, Mi.xorI, Mi.cmpI, Mi.ltI, Mi.leI, Mi.gtI, Mi.geI, Mi.isD, Mi.isnD, Mi.D.isN, Mi.negD, Mi.truD, Mi.D.hasTru, Mi.eqD_int, Mi.neD_int, Mi.at_0, Mi.at_1, Mi.iL_len, Mi.SV.put, Mi.SV.ls, Mi.SV.back, Mi.wipeS, Mi.backS, Mi.parOf, Mi.mCall, Mi.cArgs, Mi.callEnd, Mi.D.scal, List.all_cons, List.all_nil, Bool.and_true, Bool.true_and, Option.bind_some, Option.bind_none, Option.getD_some, List.getElem?_cons_zero, List.getElem?_cons_succ, List.getElem?_nil, List.set_cons_zero, List.set_cons_succ, List.length_cons, List.length_nil, List.cons_append, List.nil_append, List.append_nil, List.replicate, if_true, if_false, reduceIte, reduceCtorEq, Bool.false_eq_true, Bool.not_true, Bool.not_false, and_self, and_true, true_and, Nat.reduceAdd, Nat.reduceSub, Nat.reduceLT, Nat.reduceLeDiff, Nat.zero_add, Nat.add_zero, Int.reduceLT, Int.reduceLE, Int.reduceNeg, or_true, true_or, ge_iff_le, Nat.not_lt_zero, Option.some.injEq, Nat.reduceEqDiff, Nat.succ_ne_zero, Nat.one_ne_zero])
local macro_rules | `(tactic| walk_at "evs") => `(tactic| simp -implicitDefEqProofs only [*, Mi.mTest, Mi.mBin, Mi.mUn, Mi.mC, Mi.aNil, Mi.aCons, Mi.mBi, Mi.mBiF, Mi.mTup, Mi.mLst, Mi.mF, Mi.mIfE, Mi.mTru, Mi.mAnd, Mi.mOr, Mi.mNot, Mi.mAndV, Mi.mOrV, Mi.mNotV, Mi.oNone, Mi.oSome, Mi.mSl, Mi.mSlF, Mi.mVar, Mi.look, Mi.looks, Mi.frz, Mi.frzs, Mi.mAsg, Mi.mAsgF, Mi.gNm, Mi.gTp, Mi.gsCons, Mi.gsNil, Mi.mRet, Mi.mRetN, Mi.mExpr, Mi.mPar, Mi.mAug, Mi.mApp, Mi.mExt, Mi.mSet, Mi.mNext, Mi.mIf, Mi.mYes, Mi.mBinF, Mi.lsAt, Mi.putAt, Mi.bInt, Mi.iSeq, Mi.iRev, Mi.ixD, Mi.D.seq, Mi.D.seqL, Mi.isiD, Mi.tyD, Mi.slD, Mi.slF, Mi.lenD, Mi.absD, Mi.maxD, Mi.minD, Mi.intD, Mi.boolD, Mi.tupleD, Mi.listF, Mi.sumD, Mi.sumS, Mi.addD, Mi.catF, Mi.mulD, Mi.repF, Mi.intOp, Mi.subI, Mi.plusI, Mi.timesI, Mi.fdivI, Mi.modI, Mi.powI, Mi.shlI, Mi.shrI, Mi.andI, Mi.orI, Mi.xorI, Mi.cmpI, Mi.ltI, Mi.leI, Mi.gtI, Mi.geI, Mi.isD, Mi.isnD, Mi.D.isN, Mi.negD, Mi.truD, Mi.D.hasTru, Mi.eqD_int, Mi.neD_int, Mi.at_0, Mi.at_1, Mi.iL_len, Mi.SV.put, Mi.SV.ls, Mi.SV.back, Mi.wipeS, Mi.backS, Mi.parOf, Mi.mCall, Mi.cArgs, Mi.callEnd, Mi.D.scal, List.all_cons, List.all_nil, Bool.and_true, Bool.true_and, Option.bind_some, Option.bind_none, Option.getD_some, List.getElem?_cons_zero, List.getElem?_cons_succ, List.getElem?_nil, List.set_cons_zero, List.set_cons_succ, List.length_cons, List.length_nil, List.cons_append, List.nil_append, List.append_nil, List.replicate, if_true, if_false, reduceIte, reduceCtorEq, Bool.false_eq_true, Bool.not_true, Bool.not_false, and_self, and_true, true_and, Nat.reduceAdd, Nat.reduceSub, Nat.reduceLT, Nat.reduceLeDiff, Nat.zero_add, Nat.add_zero, Int.reduceLT, Int.reduceLE, Int.reduceNeg, or_true, true_or, ge_iff_le, Nat.not_lt_zero, Option.some.injEq, Nat.reduceEqDiff, Nat.succ_ne_zero, Nat.one_ne_zero, decide_true, decide_false])

namespace Mine
theorem pow18 : Mi.intOp powI (.int 10) (.int 18) = some (.int 1000000000000000000) := by
  unfold Mi.intOp powI
  show ((if 0 ≤ (18 : Int) ∧ (18 : Int) ≤ 1000000 ∧ (10 : Int).natAbs < 18446744073709551616 then some ((10 : Int) ^ (18 : Int).toNat) else none).bind fun k => some (D.int k)) = _
  rw [if_pos (by decide)]
  rfl
theorem refill_spec (ns : List Int) (a : Int) (ha : 0 ≤ a) : ∃ c fin, m_Lrefill [.dat (.fro (iL ns)), .dat (.int a)] = some (.int c, fin) ∧ 0 ≤ c := by
  simp only [m_Lrefill, fnM, List.length_cons, List.length_nil, reduceIte, Nat.reduceAdd, Nat.reduceSub, List.cons_append, List.nil_append, List.replicate]
  rw [seq_nx (s1 := [.dat (.fro (iL ns)), .dat (.int a), .dat (.int 0)]) (by walk_at "ev")]
  have h1 : ∃ c : Int, mIf (mTru (mVar 0)) (mAsg (mBin ixD (mVar 0) (mBin (Mi.intOp modI) (mVar 1) (mBi lenD (aCons (mVar 0) aNil)))) (gNm 2)) mNext [.dat (.fro (iL ns)), .dat (.int a), .dat (.int 0)] = some (.nx, [.dat (.fro (iL ns)), .dat (.int a), .dat (.int c)]) := by
    cases ns with
    | nil => exact ⟨0, rfl⟩
    | cons x xs =>
      refine ⟨(x :: xs).getD (a % ((x :: xs).length : Int)).toNat 0, ?_⟩
      have hp : (0 : Int) < ((x :: xs).length : Int) := by rw [List.length_cons]; omega
      have e := at_iL (ns := x :: xs) (i := a % ((x :: xs).length : Int)) (Int.emod_nonneg _ (by omega)) (Int.emod_lt_of_pos _ hp)
      rw [if_t (s1 := [.dat (.fro (iL (x :: xs))), .dat (.int a), .dat (.int 0)]) rfl]
      generalize hns : x :: xs = ns at *
      walk_at "evs"
  obtain ⟨c, h1⟩ := h1
  rw [seq_nx h1]
  have h2 : ∃ d : Int, mIf (mTest (mBin (cmpI ltI) (mVar 2) (mC (.int 0)))) (mAsg (mBin (Mi.intOp subI) (mC (.int 1)) (mBin mulD (mC (.int 2)) (mVar 2))) (gNm 2)) mNext [.dat (.fro (iL ns)), .dat (.int a), .dat (.int c)] = some (.nx, [.dat (.fro (iL ns)), .dat (.int a), .dat (.int d)]) ∧ 0 ≤ d := by
    by_cases hc : c < 0
    · refine ⟨1 - 2 * c, ?_, by omega⟩
      rw [if_t (s1 := [.dat (.fro (iL ns)), .dat (.int a), .dat (.int c)]) (by walk_at "ev"; simp [hc])]
      walk_at "ev"
    · refine ⟨c, ?_, by omega⟩
      rw [if_f (s1 := [.dat (.fro (iL ns)), .dat (.int a), .dat (.int c)]) (by walk_at "ev"; simp [hc])]
      walk_at "ev"
  obtain ⟨d, h2, hd⟩ := h2
  rw [seq_nx h2]
  have fin : mRet (mBin (Mi.intOp modI) (mBi Mi.intD (aCons (mBin addD (mBin mulD (mBi Mi.intD (aCons (mBin addD (mBin addD (mBin mulD (mVar 2) (mC (.int 48271))) (mBin mulD (mVar 1) (mC (.int 69621)))) (mC (.int 12345))) aNil)) (mC (.int 40692))) (mC (.int 7))) aNil)) (mC (.int 2147483399))) [.dat (.fro (iL ns)), .dat (.int a), .dat (.int d)] = some (.rt (.int (((d * 48271 + a * 69621 + 12345) * 40692 + 7) % 2147483399)), [.dat (.fro (iL ns)), .dat (.int a), .dat (.int d)]) := by
    walk_at "ev"
  have t1 : mTest (mBin (cmpI geI) (mVar 2) (mBin (Mi.intOp powI) (mC (.int 10)) (mC (.int 18)))) [.dat (.fro (iL ns)), .dat (.int a), .dat (.int d)] = some (decide (1000000000000000000 ≤ d), [.dat (.fro (iL ns)), .dat (.int a), .dat (.int d)]) := by
    have e1 := un_eval (ma := mC (.int 10)) (mb := mC (.int 18)) (g := Mi.intOp powI) (s := [.dat (.fro (iL ns)), .dat (.int a), .dat (.int d)]) rfl rfl pow18
    have e2 := un_eval (ma := mVar 2) (mb := mBin (Mi.intOp powI) (mC (.int 10)) (mC (.int 18))) (g := cmpI geI) (s := [.dat (.fro (iL ns)), .dat (.int a), .dat (.int d)]) (z := .bl (decide (1000000000000000000 ≤ d))) rfl e1 rfl
    unfold mTest
    rw [e2]
    rfl
  have t2 : mTest (mBin (cmpI ltI) (mVar 1) (mBi lenD (aCons (mVar 0) aNil))) [.dat (.fro (iL ns)), .dat (.int a), .dat (.int d)] = some (decide (a < (ns.length : Int)), [.dat (.fro (iL ns)), .dat (.int a), .dat (.int d)]) := by
    walk_at "ev"
  by_cases hb : 1000000000000000000 ≤ d ∧ a < (ns.length : Int)
  · rw [decide_eq_true hb.1] at t1
    rw [decide_eq_true hb.2] at t2
    have ta : mAnd (mTest (mBin (cmpI geI) (mVar 2) (mBin (Mi.intOp powI) (mC (.int 10)) (mC (.int 18))))) (mTest (mBin (cmpI ltI) (mVar 1) (mBi lenD (aCons (mVar 0) aNil)))) [.dat (.fro (iL ns)), .dat (.int a), .dat (.int d)] = some (true, [.dat (.fro (iL ns)), .dat (.int a), .dat (.int d)]) := by
      rw [and_t t1]
      exact t2
    rw [seq_rt (s1 := [.dat (.fro (iL ns)), .dat (.int a), .dat (.int d)]) (d := .int d) (by rw [if_t ta]; walk_at "ev")]
    exact ⟨d, _, rfl, hd⟩
  · have ta : mAnd (mTest (mBin (cmpI geI) (mVar 2) (mBin (Mi.intOp powI) (mC (.int 10)) (mC (.int 18))))) (mTest (mBin (cmpI ltI) (mVar 1) (mBi lenD (aCons (mVar 0) aNil)))) [.dat (.fro (iL ns)), .dat (.int a), .dat (.int d)] = some (false, [.dat (.fro (iL ns)), .dat (.int a), .dat (.int d)]) := by
      by_cases h1 : 1000000000000000000 ≤ d
      · rw [decide_eq_true h1] at t1
        rw [and_t t1, t2, decide_eq_false (fun h2 => hb ⟨h1, h2⟩)]
      · rw [decide_eq_false h1] at t1
        exact and_f t1
    rw [seq_nx (s1 := [.dat (.fro (iL ns)), .dat (.int a), .dat (.int d)]) (by rw [if_f ta]; rfl), fin]
    exact ⟨_, _, rfl, Int.emod_nonneg _ (by decide)⟩
theorem draw_spec (ns : List Int) (a b size : Int) (ha : 0 ≤ a) (hb : 0 ≤ b) (hs : 0 < size) (hs2 : size < 1073741824) : ∃ d a' b', m_Ldraw [.par [.int a, .int b], .dat (.fro (iL ns)), .dat (.int size)] = some (.int d, some [.int a', .int b']) ∧ 0 ≤ d ∧ d < size ∧ 0 ≤ a' ∧ 0 ≤ b' := by
  have fin : ∀ (a b : Int), 0 ≤ a → 0 ≤ b → ∃ d a' b', (((mSeq (mAsg (mBin (Mi.intOp modI) (mBi Mi.intD (aCons (mBin ixD (mVar 0) (mC (D.int 1))) aNil)) (mVar 2)) (gNm 3))
                (mSeq (mSet 0 (mC (D.int 1)) (mBin (Mi.intOp fdivI) (mBin ixD (mVar 0) (mC (D.int 1))) (mVar 2)))
                  (mRet (mVar 3)))) [SV.par [D.int a, D.int b], SV.dat (D.fro (iL ns)), SV.dat (D.int size), SV.un]).bind
          fun r =>
          match r.1 with
          | Out.rt d => some (d, parOf r.2)
          | Out.nx => some (D.non, parOf r.2)
          | _ => none) = some (D.int d, some [D.int a', D.int b']) ∧ 0 ≤ d ∧ d < size ∧ 0 ≤ a' ∧ 0 ≤ b' := by
    intro a b ha hb
    rw [seq_nx (s1 := [SV.par [D.int a, D.int b], SV.dat (D.fro (iL ns)), SV.dat (D.int size), SV.dat (.int (b % size))]) (by walk_at "evs")]
    rw [seq_nx (s1 := [SV.par [D.int a, D.int (b / size)], SV.dat (D.fro (iL ns)), SV.dat (D.int size), SV.dat (.int (b % size))]) (by walk_at "evs"; simp [ixN])]
    walk_at "ev"
    exact ⟨_, _, _, rfl, Int.emod_nonneg _ (by omega), Int.emod_lt_of_pos _ hs, ha, Int.ediv_nonneg hb (by omega)⟩
  simp only [m_Ldraw, fnM, List.length_cons, List.length_nil, reduceIte, Nat.reduceAdd, Nat.reduceSub, List.cons_append, List.nil_append, List.replicate]
  by_cases h0 : b = 0
  · subst h0
    obtain ⟨c, fn, er, hc⟩ := refill_spec ns a ha
    rw [seq_nx (s1 := [.par [.int (a + 1), .int c], .dat (.fro (iL ns)), .dat (.int size), .un]) ?_]
    · exact fin _ _ (by omega) hc
    · rw [if_t (s1 := [SV.par [D.int a, D.int 0], SV.dat (D.fro (iL ns)), SV.dat (D.int size), SV.un]) (by walk_at "ev"; simp)]
      rw [seq_nx (s1 := [.par [.int a, .int c], .dat (.fro (iL ns)), .dat (.int size), .un]) (by walk_at "evs"; simp [ixN])]
      walk_at "ev"
      simp [ixN]
  · rw [seq_nx (s1 := [.par [.int a, .int b], .dat (.fro (iL ns)), .dat (.int size), .un]) (by walk_at "ev"; simp [h0])]
    exact fin a b ha hb
end Mine

namespace Mine
/-! sums of chosen bits -/
def sel (m : Nat → Bool) : Nat → List Int → List Int
  | _, [] => []
  | k, b :: bs => if m k then b :: sel m (k + 1) bs else sel m (k + 1) bs
def ws (m : Nat → Bool) (k : Nat) (bs : List Int) : Int := (sel m k bs).sum
theorem ws_cons (m : Nat → Bool) (k : Nat) (b : Int) (bs : List Int) : ws m k (b :: bs) = (if m k then b else 0) + ws m (k + 1) bs := by
  unfold ws
  rw [sel]
  split
  · rw [List.sum_cons]
  · rw [Int.zero_add]
theorem ws_set (m : Nat → Bool) : ∀ (bs : List Int) (k i : Nat) (v : Int), i < bs.length → ws m k (bs.set i v) = ws m k bs + (if m (k + i) then v - bs.getD i 0 else 0)
  | [], k, i, v, h => by cases h
  | b :: bs, k, 0, v, h => by
    rw [List.set_cons_zero, ws_cons, ws_cons, Nat.add_zero]
    show _ = _ + (if m k = true then v - b else 0)
    split <;> omega
  | b :: bs, k, i + 1, v, h => by
    rw [List.set_cons_succ, ws_cons, ws_cons, ws_set m bs (k + 1) i v (by simpa using h), show k + 1 + i = k + (i + 1) by omega]
    show _ = _ + (if m (k + (i + 1)) = true then v - bs.getD i 0 else 0)
    omega
theorem sel_all : ∀ (k : Nat) (bs : List Int), sel (fun _ => true) k bs = bs
  | _, [] => rfl
  | k, b :: bs => by
    unfold sel
    rw [if_pos rfl, sel_all (k + 1) bs]
theorem ws_all (k : Nat) (bs : List Int) : ws (fun _ => true) k bs = bs.sum := by
  unfold ws
  rw [sel_all]
def msk (c : Int) (k : Nat) : Bool := Builtin.bitAnd (k : Int) c != 0
def pD (c : Int) : D → Bool
  | .tup [.int k, _] => Builtin.bitAnd k c != 0
  | _ => false
def hD : D → D
  | .tup [_, b] => b
  | d => d
theorem sel_D (c : Int) : ∀ (bs : List Int) (k : Nat), ((enF k (iL bs)).filter (pD c)).map hD = iL (sel (msk c) k bs)
  | [], k => rfl
  | b :: bs, k => by
    have ih := sel_D c bs (k + 1)
    show ((.tup [.int (k : Int), .int b] :: enF (k + 1) (iL bs)).filter (pD c)).map hD = _
    unfold sel
    have e : pD c (.tup [.int (k : Int), .int b]) = msk c k := rfl
    by_cases h : msk c k = true
    · rw [List.filter_cons_of_pos (by rw [e]; exact h), List.map_cons, ih, if_pos h]
      rfl
    · rw [List.filter_cons_of_neg (by rw [e]; exact h), ih, if_neg h]
theorem bi1 {g : List D → Option D} {me : ME} {s s1 : Sto} {x z : D} (h : me s = some (.dat x, s1)) (hg : g [x] = some z) : mBi g (aCons me aNil) s = some (.dat z, s1) := by
  unfold mBi aCons aNil
  rw [h]
  show (g [x]).bind _ = _
  rw [hg]
  rfl
theorem asg_at {me : ME} {i : Nat} {s s1 s2 : Sto} {d : D} (h : me s = some (.dat d, s1)) (e : s1.set i (.dat d) = s2) : mAsg me (gNm i) s = some (.nx, s2) := by
  rw [← e]
  exact asg_of h
theorem mul_int {i j : Int} (h : -18446744073709551616 < i ∧ i < 18446744073709551616) : mulD (.int i) (.int j) = some (.int (i * j)) := by
  show (if (-18446744073709551616 < i ∧ i < 18446744073709551616) ∨ (-18446744073709551616 < j ∧ j < 18446744073709551616) then some (D.int (i * j)) else none) = _
  rw [if_pos (Or.inl h)]
theorem asI_iL2 (ns : List Int) : asI (iL ns) = some ns := asI_iL ns
theorem parity_spec (x : D) (w : List Int) (c : Int) (hx : x.seq = some (iL w)) (hw : w.length ≤ 1000) : m_parity_ [.dat x, .dat (.int c)] = some (.int (ws (msk c) 0 w % 2), none) := by
  simp only [m_parity_, fnM, List.length_cons, List.length_nil, reduceIte, Nat.reduceAdd, Nat.reduceSub, List.cons_append, List.nil_append, List.replicate]
  have hi : iES (mVar 0) [.dat x, .dat (.int c), .un, .un] = some (enF 0 (iL w), [.dat x, .dat (.int c), .un, .un]) := by
    show (D.seq x).bind (fun ds => some (enF 0 ds, [SV.dat x, SV.dat (.int c), SV.un, SV.un])) = _
    rw [hx]
    rfl
  obtain ⟨t', e, hT⟩ := comp_fm (vs := [2, 3]) (g := gTp 2 (gsCons (gNm 2) (gsCons (gNm 3) gsNil))) (mt := mTru (mBin (Mi.intOp andI) (mVar 2) (mVar 1))) (me := mVar 3) (xs := enF 0 (iL w)) [.dat x, .dat (.int c), .un, .un] (pD c) hD (by rw [enF_len, iL_len]; omega) (fun d hd => by
    obtain ⟨i, hi, hd⟩ := List.getElem_of_mem hd
    have hd2 : (enF 0 (iL w))[i]? = some d := by rw [List.getElem?_eq_getElem hi, hd]
    obtain ⟨y, hy, rfl⟩ := enF_at hd2
    rw [iL_get] at hy
    obtain ⟨b, _, rfl⟩ := Option.map_eq_some_iff.mp hy
    refine ⟨[.dat x, .dat (.int c), .dat (.int ((0 + i : Nat) : Int)), .dat (.int b)], [.dat x, .dat (.int c), .dat (.int ((0 + i : Nat) : Int)), .dat (.int b)], rfl, ?_, fun _ => ⟨[.dat x, .dat (.int c), .dat (.int ((0 + i : Nat) : Int)), .dat (.int b)], rfl, rfl⟩, fun _ => rfl⟩
    generalize ((0 + i : Nat) : Int) = j
    rfl) [.dat x, .dat (.int c), .un, .un] rfl
  have lc := lc_of hi e
  rw [hT, sel_D] at lc
  have lc2 : mF (mLc (iES (mVar 0)) (gTp 2 (gsCons (gNm 2) (gsCons (gNm 3) gsNil))) (mTru (mBin (Mi.intOp andI) (mVar 2) (mVar 1))) (mVar 3) [2, 3]) [.dat x, .dat (.int c), .un, .un] = some (.dat (.lst (iL (sel (msk c) 0 w))), [.dat x, .dat (.int c), .un, .un]) := by
    unfold mF
    rw [lc]
    rfl
  have s1 : mBi sumS (aCons (mF (mLc (iES (mVar 0)) (gTp 2 (gsCons (gNm 2) (gsCons (gNm 3) gsNil))) (mTru (mBin (Mi.intOp andI) (mVar 2) (mVar 1))) (mVar 3) [2, 3])) aNil) [.dat x, .dat (.int c), .un, .un] = some (.dat (.int (ws (msk c) 0 w)), [.dat x, .dat (.int c), .un, .un]) := by
    exact bi1 lc2 (by show (asI (iL (sel (msk c) 0 w))).bind (fun ns => some (D.int ns.sum)) = _; rw [asI_iL2]; rfl)
  have s2 := un_eval (g := Mi.intOp modI) (mb := mC (.int 2)) (y := .int 2) (z := .int (ws (msk c) 0 w % 2)) s1 rfl rfl
  have s3 : mRet (mBin (Mi.intOp modI) (mBi sumS (aCons (mF (mLc (iES (mVar 0)) (gTp 2 (gsCons (gNm 2) (gsCons (gNm 3) gsNil))) (mTru (mBin (Mi.intOp andI) (mVar 2) (mVar 1))) (mVar 3) [2, 3])) aNil)) (mC (.int 2))) [.dat x, .dat (.int c), .un, .un] = some (.rt (.int (ws (msk c) 0 w % 2)), [.dat x, .dat (.int c), .un, .un]) := by
    unfold mRet
    rw [s2]
    rfl
  rw [s3]
  rfl
/-! the cell of a word -/
def isT : Option D → Bool
  | some (.bl b) => b
  | _ => false
def bt (w : List Int) (q : D) (p : Int) : Int := if isT (eqD (.int p) q) = true then 1 - w.getD p.toNat 0 else w.getD p.toNat 0
def PL : List Int := [3, 5, 6, 7, 9, 10, 11, 12, 13, 14, 15]
def fold (f : Int → Int) : Int → List Int → Int
  | a, [] => a
  | a, p :: ps => fold f (2 * a + f p) ps
theorem cell_loop (w : List Int) (q : D) (hw : w.length = 16) (hq : ∀ p : Int, ∃ b, eqD (.int p) q = some (.bl b)) : ∀ (ps : List Int) (a : Int) (z4 z3 : SV), (∀ p ∈ ps, 0 ≤ p ∧ p < 16) → SV.tame z3 = true → SV.tame z4 = true → ∃ z3' z4', SV.tame z3' = true ∧ SV.tame z4' = true ∧
    forD (gNm 3) (mSeq (mAsg (mIfE (mTest (mBin eqD (mVar 3) (mVar 1))) (mBin (Mi.intOp subI) (mC (.int 1)) (mBin ixD (mVar 0) (mVar 3))) (mBin ixD (mVar 0) (mVar 3))) (gNm 4)) (mAsg (mBin addD (mBin mulD (mC (.int 2)) (mVar 2)) (mVar 4)) (gNm 2))) (iL ps) [.dat (.tup (iL w)), .dat q, .dat (.int a), z3, z4] =
      some (.nx, [.dat (.tup (iL w)), .dat q, .dat (.int (fold (bt w q) a ps)), z3', z4'])
  | [], a, z4, z3, _, h3, h4 => ⟨z3, z4, h3, h4, rfl⟩
  | p :: ps, a, z4, z3, hp, h3, h4 => by
    obtain ⟨p0, p1⟩ := hp p (by simp)
    obtain ⟨b, hqb⟩ := hq p
    have ix := at_iL (ns := w) p0 (by rw [hw]; exact p1)
    have t : mTest (mBin eqD (mVar 3) (mVar 1)) [.dat (.tup (iL w)), .dat q, .dat (.int a), .dat (.int p), z4] = some (b, [.dat (.tup (iL w)), .dat q, .dat (.int a), .dat (.int p), z4]) := by
      have u := un_eval (g := eqD) (ma := mVar 3) (mb := mVar 1) (s := [.dat (.tup (iL w)), .dat q, .dat (.int a), .dat (.int p), z4]) (x := .int p) (y := q) rfl rfl hqb
      unfold mTest
      rw [u]
      rfl
    have v : mBin ixD (mVar 0) (mVar 3) [.dat (.tup (iL w)), .dat q, .dat (.int a), .dat (.int p), z4] = some (.dat (.int (w.getD p.toNat 0)), [.dat (.tup (iL w)), .dat q, .dat (.int a), .dat (.int p), z4]) :=
      un_eval (x := .tup (iL w)) (y := .int p) rfl rfl (by unfold ixD; exact ix)
    have s1 : mAsg (mIfE (mTest (mBin eqD (mVar 3) (mVar 1))) (mBin (Mi.intOp subI) (mC (.int 1)) (mBin ixD (mVar 0) (mVar 3))) (mBin ixD (mVar 0) (mVar 3))) (gNm 4) [.dat (.tup (iL w)), .dat q, .dat (.int a), .dat (.int p), z4] = some (.nx, [.dat (.tup (iL w)), .dat q, .dat (.int a), .dat (.int p), .dat (.int (bt w q p))]) := by
      unfold bt
      rw [hqb]
      cases b
      · refine asg_at (d := .int (w.getD p.toNat 0)) (s1 := [.dat (.tup (iL w)), .dat q, .dat (.int a), .dat (.int p), z4]) ?_ rfl
        unfold mIfE
        rw [t]
        exact v
      · refine asg_at (d := .int (1 - w.getD p.toNat 0)) (s1 := [.dat (.tup (iL w)), .dat q, .dat (.int a), .dat (.int p), z4]) ?_ rfl
        unfold mIfE
        rw [t]
        exact un_eval (g := Mi.intOp subI) (ma := mC (.int 1)) (x := .int 1) (z := .int (1 - w.getD p.toNat 0)) rfl v rfl
    have mu : mulD (.int 2) (.int a) = some (.int (2 * a)) := mul_int (by decide)
    have s2 : mAsg (mBin addD (mBin mulD (mC (.int 2)) (mVar 2)) (mVar 4)) (gNm 2) [.dat (.tup (iL w)), .dat q, .dat (.int a), .dat (.int p), .dat (.int (bt w q p))] = some (.nx, [.dat (.tup (iL w)), .dat q, .dat (.int (2 * a + bt w q p)), .dat (.int p), .dat (.int (bt w q p))]) :=
      asg_at (un_eval (g := addD) (x := .int (2 * a)) (y := .int (bt w q p)) (z := .int (2 * a + bt w q p)) (un_eval (s := [.dat (.tup (iL w)), .dat q, .dat (.int a), .dat (.int p), .dat (.int (bt w q p))]) (x := .int 2) (y := .int a) rfl rfl mu) rfl rfl) rfl
    obtain ⟨z3', z4', q1, q2, q3⟩ := cell_loop w q hw hq ps (2 * a + bt w q p) (.dat (.int (bt w q p))) (.dat (.int p)) (fun y hy => hp y (by simp [hy])) rfl rfl
    refine ⟨z3', z4', q1, q2, ?_⟩
    show (mSeq _ _ [SV.dat (D.tup (iL w)), .dat q, .dat (.int a), .dat (.int p), z4]).bind _ = _
    rw [seq_nx s1, s2]
    exact q3
theorem cell_spec (w : List Int) (q : D) (hw : w.length = 16) (hq : ∀ p : Int, ∃ b, eqD (.int p) q = some (.bl b)) : m_cell_ [.dat (.tup (iL w)), .dat q] = some (.int (fold (bt w q) 0 PL), none) := by
  simp only [m_cell_, fnM, List.length_cons, List.length_nil, reduceIte, Nat.reduceAdd, Nat.reduceSub, List.cons_append, List.nil_append, List.replicate]
  rw [seq_nx (s1 := [.dat (.tup (iL w)), .dat q, .dat (.int 0), .un, .un]) rfl]
  obtain ⟨z3, z4, h3, h4, e⟩ := cell_loop w q hw hq PL 0 .un .un (by decide) rfl rfl
  rw [seq_nx (s1 := [.dat (.tup (iL w)), .dat q, .dat (.int (fold (bt w q) 0 PL)), z3, z4]) (by rw [for_it (xs := iL PL) (s1 := [.dat (.tup (iL w)), .dat q, .dat (.int 0), .un, .un]) rfl]; exact e)]
  show some (_, parOf _) = _
  rw [show ∀ a s, parOf (SV.dat a :: s) = parOf s from fun a s => rfl, show ∀ a s, parOf (SV.dat a :: s) = parOf s from fun a s => rfl, show ∀ a s, parOf (SV.dat a :: s) = parOf s from fun a s => rfl, par_tame h3, par_tame h4]
  rfl
end Mine

namespace Mine
theorem set_ok {me mi : ME} {s s1 s2 s3 : Sto} {ns : List Int} {v i : Int} {j : Nat} (h1 : me s = some (.dat (.int v), s1)) (h0 : s1[j]? = some (.own (iL ns))) (h2 : mi s1 = some (.dat (.int i), s2)) (h3 : s2[j]? = some (.own (iL ns))) (i0 : 0 ≤ i) (i1 : i < (ns.length : Int)) (e : s2.set j (.own (iL (ns.set i.toNat v))) = s3) : mSet j mi me s = some (.nx, s3) := by
  have hx : ixN (iL ns).length i = some i.toNat := by
    unfold ixN
    rw [if_pos i0, iL_len, if_pos (by omega)]
  have l1 : lsAt s1 j = some (iL ns) := by
    unfold lsAt
    rw [h0]
  have l3 : lsAt s2 j = some (iL ns) := by
    unfold lsAt
    rw [h3]
  unfold mSet
  rw [h1]
  show (lsAt s1 j).bind _ = _
  rw [l1]
  show (mi s1).bind _ = _
  rw [h2]
  show (lsAt s2 j).bind _ = _
  rw [l3]
  show (ixN (iL ns).length i).bind _ = _
  rw [hx]
  show (Mi.putAt s2 j ((iL ns).set i.toNat (.int v))).bind _ = _
  unfold Mi.putAt
  rw [h3, iL_set]
  show some (Out.nx, _) = _
  rw [e]
def RP : List Int := [15, 14, 13, 12, 11, 10, 9, 7, 6, 5, 3]
def Z16 : List Int := [0, 0, 0, 0, 0, 0, 0, 0, 0, 0, 0, 0, 0, 0, 0, 0]
def put : Int → List Int → List Int → List Int
  | _, [], u => u
  | c, p :: ps, u => put (c / 2) ps (u.set p.toNat (c % 2))
theorem and1 (c : Int) (h : 0 ≤ c) : Builtin.bitAnd c 1 = c % 2 := by
  obtain ⟨n, rfl⟩ : ∃ n : Nat, c = (n : Int) := ⟨c.toNat, by omega⟩
  unfold Builtin.bitAnd
  rw [decide_eq_true h, decide_eq_true (show (0 : Int) ≤ 1 by decide)]
  show (((n : Int).toNat &&& (1 : Nat) : Nat) : Int) = _
  rw [Int.toNat_natCast, Nat.and_one_is_mod]
  omega
theorem put_len : ∀ (ps : List Int) (c : Int) (u : List Int), (put c ps u).length = u.length
  | [], c, u => rfl
  | p :: ps, c, u => by
    unfold put
    rw [put_len, List.length_set]
theorem w_loop : ∀ (ps : List Int) (c : Int) (u : List Int) (z : SV), 0 ≤ c → u.length = 16 → (∀ p ∈ ps, 0 ≤ p ∧ p < 16) → SV.tame z = true → ∃ c' z', SV.tame z' = true ∧
    forD (gNm 2) (mSeq (mSet 1 (mVar 2) (mBin (Mi.intOp andI) (mVar 0) (mC (.int 1)))) (mAug 0 (Mi.intOp shrI) (mC (.int 1)))) (iL ps) [.dat (.int c), .own (iL u), z] = some (.nx, [.dat (.int c'), .own (iL (put c ps u)), z'])
  | [], c, u, z, _, _, _, hz => ⟨c, z, hz, rfl⟩
  | p :: ps, c, u, z, hc, hu, hp, hz => by
    obtain ⟨p0, p1⟩ := hp p (by simp)
    have s1 : mSet 1 (mVar 2) (mBin (Mi.intOp andI) (mVar 0) (mC (.int 1))) [.dat (.int c), .own (iL u), .dat (.int p)] = some (.nx, [.dat (.int c), .own (iL (u.set p.toNat (c % 2))), .dat (.int p)]) := by
      refine set_ok (s1 := [.dat (.int c), .own (iL u), .dat (.int p)]) (s2 := [.dat (.int c), .own (iL u), .dat (.int p)]) (v := c % 2) (i := p) ?_ rfl rfl rfl p0 (by rw [hu]; exact p1) rfl
      exact un_eval (g := Mi.intOp andI) (ma := mVar 0) (mb := mC (.int 1)) (x := .int c) (y := .int 1) rfl rfl (by show some (D.int (Builtin.bitAnd c 1)) = _; rw [and1 c hc])
    have s2 : mAug 0 (Mi.intOp shrI) (mC (.int 1)) [.dat (.int c), .own (iL (u.set p.toNat (c % 2))), .dat (.int p)] = some (.nx, [.dat (.int (c / 2)), .own (iL (u.set p.toNat (c % 2))), .dat (.int p)]) := rfl
    obtain ⟨c', z', q1, q2⟩ := w_loop ps (c / 2) (u.set p.toNat (c % 2)) (.dat (.int p)) (by omega) (by rw [List.length_set, hu]) (fun y hy => hp y (by simp [hy])) rfl
    refine ⟨c', z', q1, ?_⟩
    show (mSeq _ _ [SV.dat (.int c), SV.own (iL u), .dat (.int p)]).bind _ = _
    rw [seq_nx s1, s2]
    exact q2
def chk : List Int → List Int → List Int
  | [], u => u
  | p :: ps, u => chk ps (u.set p.toNat (ws (msk p) 0 u % 2))
theorem chk_len : ∀ (ps : List Int) (u : List Int), (chk ps u).length = u.length
  | [], u => rfl
  | p :: ps, u => by
    unfold chk
    rw [chk_len, List.length_set]
theorem c_loop : ∀ (ps : List Int) (c : Int) (u : List Int) (z : SV), u.length = 16 → (∀ p ∈ ps, 0 ≤ p ∧ p < 16) → SV.tame z = true → ∃ z', SV.tame z' = true ∧
    forD (gNm 2) (mSet 1 (mVar 2) (mCall m_parity_ none (aCons (mVar 1) (aCons (mVar 2) aNil)))) (iL ps) [.dat (.int c), .own (iL u), z] = some (.nx, [.dat (.int c), .own (iL (chk ps u)), z'])
  | [], c, u, z, _, _, hz => ⟨z, hz, rfl⟩
  | p :: ps, c, u, z, hu, hp, hz => by
    obtain ⟨p0, p1⟩ := hp p (by simp)
    have sp := parity_spec (.lst (iL u)) u p rfl (by omega)
    have cl : mCall m_parity_ none (aCons (mVar 1) (aCons (mVar 2) aNil)) [.dat (.int c), .own (iL u), .dat (.int p)] = some (.dat (.int (ws (msk p) 0 u % 2)), [.dat (.int c), .own (iL u), .dat (.int p)]) := by
      clear p0 p1 hp hu
      walk_at "evs"
    have s1 : mSet 1 (mVar 2) (mCall m_parity_ none (aCons (mVar 1) (aCons (mVar 2) aNil))) [.dat (.int c), .own (iL u), .dat (.int p)] = some (.nx, [.dat (.int c), .own (iL (u.set p.toNat (ws (msk p) 0 u % 2))), .dat (.int p)]) :=
      set_ok cl rfl (s2 := [.dat (.int c), .own (iL u), .dat (.int p)]) (i := p) rfl rfl p0 (by rw [hu]; exact p1) rfl
    obtain ⟨z', q1, q2⟩ := c_loop ps c (u.set p.toNat (ws (msk p) 0 u % 2)) (.dat (.int p)) (by rw [List.length_set, hu]) (fun y hy => hp y (by simp [hy])) rfl
    refine ⟨z', q1, ?_⟩
    show (mSet _ _ _ [SV.dat (.int c), SV.own (iL u), .dat (.int p)]).bind _ = _
    rw [s1]
    exact q2
def wd (c : Int) : List Int := (chk [1, 2, 4, 8] (put c RP Z16)).set 0 ((chk [1, 2, 4, 8] (put c RP Z16)).sum % 2)
theorem wd_len (c : Int) : (wd c).length = 16 := by
  unfold wd
  rw [List.length_set, chk_len, put_len]
  rfl
theorem word_spec (c : Int) (hc : 0 ≤ c) : m_word_of [.dat (.int c)] = some (.tup (iL (wd c)), none) := by
  simp only [m_word_of, fnM, List.length_cons, List.length_nil, reduceIte, Nat.reduceAdd, Nat.reduceSub, List.cons_append, List.nil_append, List.replicate]
  rw [seq_nx (s1 := [.dat (.int c), .own (iL Z16), .un]) rfl]
  obtain ⟨c', z1, t1, e1⟩ := w_loop RP c Z16 .un hc rfl (by decide) rfl
  rw [seq_nx (s1 := [.dat (.int c'), .own (iL (put c RP Z16)), z1]) (by rw [for_it (xs := iL RP) (s1 := [.dat (.int c), .own (iL Z16), .un]) rfl]; exact e1)]
  obtain ⟨z2, t2, e2⟩ := c_loop [1, 2, 4, 8] c' (put c RP Z16) z1 (by rw [put_len]; rfl) (by decide) t1
  rw [seq_nx (s1 := [.dat (.int c'), .own (iL (chk [1, 2, 4, 8] (put c RP Z16))), z2]) (by rw [for_it (xs := iL [1, 2, 4, 8]) (s1 := [.dat (.int c'), .own (iL (put c RP Z16)), z1]) rfl]; exact e2)]
  have hl : (chk [1, 2, 4, 8] (put c RP Z16)).length = 16 := by rw [chk_len, put_len]; rfl
  unfold wd
  generalize chk [1, 2, 4, 8] (put c RP Z16) = u at hl ⊢
  have sm : mBin (Mi.intOp modI) (mBi sumS (aCons (mVar 1) aNil)) (mC (.int 2)) [.dat (.int c'), .own (iL u), z2] = some (.dat (.int (u.sum % 2)), [.dat (.int c'), .own (iL u), z2]) := by
    have b : mBi sumS (aCons (mVar 1) aNil) [.dat (.int c'), .own (iL u), z2] = some (.dat (.int u.sum), [.dat (.int c'), .own (iL u), z2]) := by
      show (sumS [.lst (iL u)]).bind _ = _
      have : sumS [.lst (iL u)] = some (.int u.sum) := by
        show (asI (iL u)).bind (fun ns => some (D.int ns.sum)) = _
        rw [asI_iL2]
        rfl
      rw [this]
      rfl
    exact un_eval (g := Mi.intOp modI) b (y := .int 2) rfl rfl
  rw [seq_nx (s1 := [.dat (.int c'), .own (iL (u.set 0 (u.sum % 2))), z2]) (set_ok sm rfl (s2 := [.dat (.int c'), .own (iL u), z2]) (i := 0) rfl rfl (by decide) (by rw [hl]; decide) rfl)]
  show some (_, parOf _) = _
  rw [show ∀ a s, parOf (SV.dat a :: s) = parOf s from fun a s => rfl, show ∀ a s, parOf (SV.own a :: s) = parOf s from fun a s => rfl, par_tame t2]
  rfl
/-! reading -/
def wrL (w : List Int) : List Int := [1, 2, 4, 8].filter fun c => decide (ws (msk c) 0 w % 2 = 1)
def pW (w : List Int) : D → Bool
  | .int c => decide (ws (msk c) 0 w % 2 = 1)
  | _ => false
theorem filt_W (w : List Int) : ∀ cs : List Int, ((iL cs).filter (pW w)).map id = iL (cs.filter fun c => decide (ws (msk c) 0 w % 2 = 1)) := fun cs => by
  rw [List.map_id]
  unfold iL
  rw [List.filter_map]
  rfl
theorem wrong_spec (w : List Int) (hw : w.length = 16) : mAsg (mBi sumS (aCons (mF (mLc (iSeq (mC dc_CHECK_PLACES)) (gNm 2) (mTest (mBin eqD (mCall m_parity_ none (aCons (mVar 0) (aCons (mVar 2) aNil))) (mC (.int 1)))) (mVar 2) [2])) aNil)) (gNm 1) [.dat (.tup (iL w)), .un, .un] = some (.nx, [.dat (.tup (iL w)), .dat (.int (wrL w).sum), .un]) := by
  have hi : iSeq (mC dc_CHECK_PLACES) [.dat (.tup (iL w)), .un, .un] = some (iL [1, 2, 4, 8], [.dat (.tup (iL w)), .un, .un]) := rfl
  obtain ⟨t', e, hT⟩ := comp_fm (vs := [2]) (g := gNm 2) (mt := mTest (mBin eqD (mCall m_parity_ none (aCons (mVar 0) (aCons (mVar 2) aNil))) (mC (.int 1)))) (me := mVar 2) (xs := iL [1, 2, 4, 8]) [.dat (.tup (iL w)), .un, .un] (pW w) id (by decide) (fun d hd => by
    obtain ⟨c, _, rfl⟩ := List.mem_map.mp hd
    refine ⟨[.dat (.tup (iL w)), .un, .dat (.int c)], [.dat (.tup (iL w)), .un, .dat (.int c)], rfl, ?_, fun _ => ⟨[.dat (.tup (iL w)), .un, .dat (.int c)], rfl, rfl⟩, fun _ => rfl⟩
    have sp := parity_spec (.tup (iL w)) w c rfl (by omega)
    have cl : mCall m_parity_ none (aCons (mVar 0) (aCons (mVar 2) aNil)) [.dat (.tup (iL w)), .un, .dat (.int c)] = some (.dat (.int (ws (msk c) 0 w % 2)), [.dat (.tup (iL w)), .un, .dat (.int c)]) := by
      clear hd hi hw
      walk_at "evs"
    have u := un_eval (g := eqD) (mb := mC (.int 1)) (y := .int 1) cl rfl (eqD_int _ _)
    unfold mTest
    rw [u]
    rfl) [.dat (.tup (iL w)), .un, .un] rfl
  have lc := lc_of hi e
  rw [hT, filt_W] at lc
  refine asg_at (d := .int (wrL w).sum) (s1 := [.dat (.tup (iL w)), .un, .un]) (bi1 (x := .lst (iL (wrL w))) ?_ ?_) rfl
  · unfold mF
    rw [lc]
    rfl
  · show (asI (iL (wrL w))).bind (fun ns => some (D.int ns.sum)) = _
    rw [asI_iL2]
    rfl
theorem eqD_non (p : Int) : eqD (.int p) .non = some (.bl false) := by
  rw [eqD_pl (pl_int _) pl_non]
  rfl
theorem cellI (w : List Int) (k : Int) (hw : w.length = 16) : m_cell_ [.dat (.tup (iL w)), .dat (.int k)] = some (.int (fold (bt w (.int k)) 0 PL), none) :=
  cell_spec w (.int k) hw fun p => ⟨_, eqD_int p k⟩
theorem cellN (w : List Int) (hw : w.length = 16) : m_cell_ [.dat (.tup (iL w)), .dat .non] = some (.int (fold (bt w .non) 0 PL), none) :=
  cell_spec w .non hw fun p => ⟨_, eqD_non p⟩
def rd (w : List Int) : D := if w.sum % 2 = 1 then .tup [.int (fold (bt w (.int (wrL w).sum)) 0 PL), .int (wrL w).sum] else if 0 < (wrL w).sum then .non else .tup [.int (fold (bt w .non) 0 PL), .non]
theorem read_spec (w : List Int) (hw : w.length = 16) : m_read_word [.dat (.tup (iL w))] = some (rd w, none) := by
  simp only [m_read_word, fnM, List.length_cons, List.length_nil, reduceIte, Nat.reduceAdd, Nat.reduceSub, List.cons_append, List.nil_append, List.replicate]
  rw [seq_nx (wrong_spec w hw)]
  have c1 := cellI w (wrL w).sum hw
  have c2 := cellN w hw
  unfold rd
  generalize (wrL w).sum = k at c1 ⊢
  have t1 : mTest (mBin eqD (mBin (Mi.intOp modI) (mBi sumS (aCons (mVar 0) aNil)) (mC (.int 2))) (mC (.int 1))) [.dat (.tup (iL w)), .dat (.int k), .un] = some (decide (w.sum % 2 = 1), [.dat (.tup (iL w)), .dat (.int k), .un]) := by
    have b : mBi sumS (aCons (mVar 0) aNil) [.dat (.tup (iL w)), .dat (.int k), .un] = some (.dat (.int w.sum), [.dat (.tup (iL w)), .dat (.int k), .un]) :=
      bi1 (x := .tup (iL w)) rfl (by
        show (asI (iL w)).bind (fun ns => some (D.int ns.sum)) = _
        rw [asI_iL2]
        rfl)
    have u := un_eval (g := eqD) (mb := mC (.int 1)) (y := .int 1) (un_eval (g := Mi.intOp modI) (z := .int (w.sum % 2)) b (mb := mC (.int 2)) (y := .int 2) rfl rfl) rfl (eqD_int _ _)
    unfold mTest
    rw [u]
    rfl
  by_cases h1 : w.sum % 2 = 1
  · rw [if_pos h1]
    rw [decide_eq_true h1] at t1
    rw [seq_rt (s1 := [.dat (.tup (iL w)), .dat (.int k), .un]) (d := .tup [.int (fold (bt w (.int k)) 0 PL), .int k]) (by
      rw [if_t t1]
      clear t1 h1 c2 hw
      walk_at "evs")]
    rfl
  · rw [if_neg h1]
    rw [decide_eq_false h1] at t1
    rw [seq_nx (s1 := [.dat (.tup (iL w)), .dat (.int k), .un]) (by rw [if_f t1]; rfl)]
    have t2 : mTest (mBin (cmpI gtI) (mVar 1) (mC (.int 0))) [.dat (.tup (iL w)), .dat (.int k), .un] = some (decide (0 < k), [.dat (.tup (iL w)), .dat (.int k), .un]) := by
      clear t1 h1 c1 c2 hw
      walk_at "ev"
    by_cases h2 : 0 < k
    · rw [if_pos h2]
      rw [decide_eq_true h2] at t2
      rw [seq_rt (s1 := [.dat (.tup (iL w)), .dat (.int k), .un]) (d := .non) (by rw [if_t t2]; rfl)]
      rfl
    · rw [if_neg h2]
      rw [decide_eq_false h2] at t2
      rw [seq_nx (s1 := [.dat (.tup (iL w)), .dat (.int k), .un]) (by rw [if_f t2]; rfl)]
      have r : mRet (mTup (aCons (mCall m_cell_ none (aCons (mVar 0) (aCons (mC .non) aNil))) (aCons (mC .non) aNil))) [.dat (.tup (iL w)), .dat (.int k), .un] = some (.rt (.tup [.int (fold (bt w .non) 0 PL), .non]), [.dat (.tup (iL w)), .dat (.int k), .un]) := by
        clear t1 h1 c1 hw t2 h2
        walk_at "evs"
      rw [r]
      rfl
end Mine

namespace Mine
theorem put_ex (c : Int) (h0 : 0 ≤ c) (h : c < 2048) : ∃ y0 y1 y2 y3 y4 y5 y6 y7 y8 y9 y10 : Int, (y0 = 0 ∨ y0 = 1) ∧ (y1 = 0 ∨ y1 = 1) ∧ (y2 = 0 ∨ y2 = 1) ∧ (y3 = 0 ∨ y3 = 1) ∧ (y4 = 0 ∨ y4 = 1) ∧ (y5 = 0 ∨ y5 = 1) ∧ (y6 = 0 ∨ y6 = 1) ∧ (y7 = 0 ∨ y7 = 1) ∧ (y8 = 0 ∨ y8 = 1) ∧ (y9 = 0 ∨ y9 = 1) ∧ (y10 = 0 ∨ y10 = 1) ∧ c = 1 * y0 + 2 * y1 + 4 * y2 + 8 * y3 + 16 * y4 + 32 * y5 + 64 * y6 + 128 * y7 + 256 * y8 + 512 * y9 + 1024 * y10 ∧ put c RP Z16 = [0, 0, 0, y10, 0, y9, y8, y7, 0, y6, y5, y4, y3, y2, y1, y0] := by
  refine ⟨c % 2, (c / 2) % 2, ((c / 2) / 2) % 2, (((c / 2) / 2) / 2) % 2, ((((c / 2) / 2) / 2) / 2) % 2, (((((c / 2) / 2) / 2) / 2) / 2) % 2, ((((((c / 2) / 2) / 2) / 2) / 2) / 2) % 2, (((((((c / 2) / 2) / 2) / 2) / 2) / 2) / 2) % 2, ((((((((c / 2) / 2) / 2) / 2) / 2) / 2) / 2) / 2) % 2, (((((((((c / 2) / 2) / 2) / 2) / 2) / 2) / 2) / 2) / 2) % 2, ((((((((((c / 2) / 2) / 2) / 2) / 2) / 2) / 2) / 2) / 2) / 2) % 2, by omega, by omega, by omega, by omega, by omega, by omega, by omega, by omega, by omega, by omega, by omega, by omega, rfl⟩
def selR (p : Int) (u : List Int) : List Int := ((List.range 16).filter fun k : Nat => decide (0 < Builtin.bitAnd (k : Int) p) && !decide ((k : Int) = p)).map fun k : Nat => u.getD k 0
def chk2 : List Int → List Int → List Int
  | [], u => u
  | p :: ps, u => chk2 ps (u.set p.toNat ((selR p u).sum % 2))
theorem chk2_len : ∀ (ps : List Int) (u : List Int), (chk2 ps u).length = u.length
  | [], u => rfl
  | p :: ps, u => by
    unfold chk2
    rw [chk2_len, List.length_set]
def wd2 (c : Int) : List Int := (chk2 [1, 2, 4, 8] (put c RP Z16)).set 0 (((chk2 [1, 2, 4, 8] (put c RP Z16)).drop 1).sum % 2)
theorem wd_ex (c : Int) (h0 : 0 ≤ c) (h : c < 2048) : ∃ y0 y1 y2 y3 y4 y5 y6 y7 y8 y9 y10 t0 t1 t2 t4 t8 : Int, ((y0 = 0 ∨ y0 = 1) ∧ (y1 = 0 ∨ y1 = 1) ∧ (y2 = 0 ∨ y2 = 1) ∧ (y3 = 0 ∨ y3 = 1) ∧ (y4 = 0 ∨ y4 = 1) ∧ (y5 = 0 ∨ y5 = 1) ∧ (y6 = 0 ∨ y6 = 1) ∧ (y7 = 0 ∨ y7 = 1) ∧ (y8 = 0 ∨ y8 = 1) ∧ (y9 = 0 ∨ y9 = 1) ∧ (y10 = 0 ∨ y10 = 1)) ∧ c = 1 * y0 + 2 * y1 + 4 * y2 + 8 * y3 + 16 * y4 + 32 * y5 + 64 * y6 + 128 * y7 + 256 * y8 + 512 * y9 + 1024 * y10 ∧ t1 = (0 + (y10 + (y9 + (y7 + (y6 + (y4 + (y2 + (y0 + 0)))))))) % 2 ∧ t2 = (0 + (y10 + (y8 + (y7 + (y5 + (y4 + (y1 + (y0 + 0)))))))) % 2 ∧ t4 = (0 + (y9 + (y8 + (y7 + (y3 + (y2 + (y1 + (y0 + 0)))))))) % 2 ∧ t8 = (0 + (y6 + (y5 + (y4 + (y3 + (y2 + (y1 + (y0 + 0)))))))) % 2 ∧ t0 = (0 + (t1 + (t2 + (y10 + (t4 + (y9 + (y8 + (y7 + (t8 + (y6 + (y5 + (y4 + (y3 + (y2 + (y1 + (y0 + 0)))))))))))))))) % 2 ∧ wd c = [t0, t1, t2, y10, t4, y9, y8, y7, t8, y6, y5, y4, y3, y2, y1, y0] ∧ wd2 c = [t0, t1, t2, y10, t4, y9, y8, y7, t8, y6, y5, y4, y3, y2, y1, y0] := by
  obtain ⟨y0, y1, y2, y3, y4, y5, y6, y7, y8, y9, y10, b0, b1, b2, b3, b4, b5, b6, b7, b8, b9, b10, hv, hp⟩ := put_ex c h0 h
  unfold wd wd2
  rw [hp]
  refine ⟨y0, y1, y2, y3, y4, y5, y6, y7, y8, y9, y10, _, _, _, _, _, ⟨b0, b1, b2, b3, b4, b5, b6, b7, b8, b9, b10⟩, hv, rfl, rfl, rfl, rfl, rfl, rfl, ?_⟩
  simp only [Int.zero_add]
  rfl
theorem bt_non (w : List Int) (p : Int) : bt w .non p = w.getD p.toNat 0 := by
  unfold bt
  rw [eqD_non]
  rfl
theorem bt_int (w : List Int) (k p : Int) : bt w (.int k) p = if p = k then 1 - w.getD p.toNat 0 else w.getD p.toNat 0 := by
  unfold bt
  rw [eqD_int]
  by_cases h : p = k
  · rw [decide_eq_true h, if_pos h]
    rfl
  · rw [decide_eq_false h, if_neg h]
    rfl
theorem fold_congr {f g : Int → Int} : ∀ (ps : List Int) (a : Int), (∀ p ∈ ps, f p = g p) → fold f a ps = fold g a ps
  | [], a, _ => rfl
  | p :: ps, a, h => by
    unfold fold
    rw [h p (by simp)]
    exact fold_congr ps _ fun y hy => h y (by simp [hy])
structure GW (w : List Int) (c : Int) : Prop where
  len : w.length = 16
  bit : ∀ i, i < 16 → w.getD i 0 = 0 ∨ w.getD i 0 = 1
  par : ∀ m ∈ ([1, 2, 4, 8] : List Int), ws (msk m) 0 w % 2 = 0
  ev : w.sum % 2 = 0
  ce : fold (fun p => w.getD p.toNat 0) 0 PL = c
theorem wd_good (c : Int) (h0 : 0 ≤ c) (h : c < 2048) : GW (wd c) c ∧ wd2 c = wd c := by
  obtain ⟨y0, y1, y2, y3, y4, y5, y6, y7, y8, y9, y10, t0, t1, t2, t4, t8, ⟨b0, b1, b2, b3, b4, b5, b6, b7, b8, b9, b10⟩, hv, h1, h2, h4, h8, hz, e, e2⟩ := wd_ex c h0 h
  refine ⟨⟨wd_len c, ?_, ?_, ?_, ?_⟩, e2.trans e.symm⟩
  · intro i hi
    rw [e]
    have : i = 0 ∨ i = 1 ∨ i = 2 ∨ i = 3 ∨ i = 4 ∨ i = 5 ∨ i = 6 ∨ i = 7 ∨ i = 8 ∨ i = 9 ∨ i = 10 ∨ i = 11 ∨ i = 12 ∨ i = 13 ∨ i = 14 ∨ i = 15 := by omega
    rcases this with rfl | rfl | rfl | rfl | rfl | rfl | rfl | rfl | rfl | rfl | rfl | rfl | rfl | rfl | rfl | rfl
    · show t0 = 0 ∨ t0 = 1; omega
    · show t1 = 0 ∨ t1 = 1; omega
    · show t2 = 0 ∨ t2 = 1; omega
    · exact b10
    · show t4 = 0 ∨ t4 = 1; omega
    · exact b9
    · exact b8
    · exact b7
    · show t8 = 0 ∨ t8 = 1; omega
    · exact b6
    · exact b5
    · exact b4
    · exact b3
    · exact b2
    · exact b1
    · exact b0
  · intro m hm
    rw [e]
    have : m = 1 ∨ m = 2 ∨ m = 4 ∨ m = 8 := by simpa using hm
    rcases this with rfl | rfl | rfl | rfl
    · show (t1 + (y10 + (y9 + (y7 + (y6 + (y4 + (y2 + (y0 + 0)))))))) % 2 = 0; clear h2 h4 h8 hz hv e e2; omega
    · show (t2 + (y10 + (y8 + (y7 + (y5 + (y4 + (y1 + (y0 + 0)))))))) % 2 = 0; clear h1 h4 h8 hz hv e e2; omega
    · show (t4 + (y9 + (y8 + (y7 + (y3 + (y2 + (y1 + (y0 + 0)))))))) % 2 = 0; clear h2 h1 h8 hz hv e e2; omega
    · show (t8 + (y6 + (y5 + (y4 + (y3 + (y2 + (y1 + (y0 + 0)))))))) % 2 = 0; clear h2 h4 h1 hz hv e e2; omega
  · rw [e]
    show (t0 + (t1 + (t2 + (y10 + (t4 + (y9 + (y8 + (y7 + (t8 + (y6 + (y5 + (y4 + (y3 + (y2 + (y1 + (y0 + 0)))))))))))))))) % 2 = 0
    clear h1 h2 h4 h8 hv e e2
    omega
  · rw [e, hv]
    show (2 * (2 * (2 * (2 * (2 * (2 * (2 * (2 * (2 * (2 * (2 * 0 + y10) + y9) + y8) + y7) + y6) + y5) + y4) + y3) + y2) + y1) + y0) = _
    clear h1 h2 h4 h8 e e2 hz
    omega
/-! one and two changed bits -/
def flip (w : List Int) (i : Nat) : List Int := w.set i (1 - w.getD i 0)
theorem flip_len (w : List Int) (i : Nat) : (flip w i).length = w.length := List.length_set ..
theorem flip_get (w : List Int) (i j : Nat) (hi : i < w.length) : (flip w i).getD j 0 = if j = i then 1 - w.getD i 0 else w.getD j 0 := by
  unfold flip
  rw [List.getD_eq_getElem?_getD, List.getElem?_set]
  by_cases h : j = i
  · subst h
    rw [if_pos rfl, if_pos hi, if_pos rfl]
    rfl
  · rw [if_neg (fun e => h e.symm), if_neg h, List.getD_eq_getElem?_getD]
theorem ws_flip (m : Nat → Bool) (w : List Int) (i : Nat) (hi : i < w.length) : ws m 0 (flip w i) = ws m 0 w + (if m i then 1 - 2 * w.getD i 0 else 0) := by
  unfold flip
  rw [ws_set m w 0 i _ hi, Nat.zero_add]
  split <;> omega
theorem sum_flip (w : List Int) (i : Nat) (hi : i < w.length) : (flip w i).sum = w.sum + (1 - 2 * w.getD i 0) := by
  have := ws_flip (fun _ => true) w i hi
  rw [ws_all, ws_all, if_pos rfl] at this
  exact this
theorem m1 : ∀ i, i < 16 → (([1, 2, 4, 8] : List Int).filter fun c => msk c i).sum = (i : Int) := by decide +kernel
theorem m2 : ∀ i, i < 16 → ∀ j, j < i → 0 < (([1, 2, 4, 8] : List Int).filter fun c => msk c i != msk c j).sum := by decide +kernel
theorem rd_good {w : List Int} {c : Int} (g : GW w c) : rd w = .tup [.int c, .non] := by
  have hw : wrL w = [] := by
    unfold wrL
    refine List.filter_eq_nil_iff.mpr fun m hm => ?_
    have := g.par m hm
    simp
    omega
  unfold rd
  rw [if_neg (by have := g.ev; omega), hw, if_neg (by decide), fold_congr PL 0 (fun p _ => bt_non w p), g.ce]
theorem rd_one {w : List Int} {c : Int} (g : GW w c) (i : Nat) (hi : i < 16) : rd (flip w i) = .tup [.int c, .int (i : Int)] := by
  have hl : i < w.length := by rw [g.len]; exact hi
  have hw : wrL (flip w i) = ([1, 2, 4, 8] : List Int).filter fun c => msk c i := by
    unfold wrL
    refine List.filter_congr fun m hm => ?_
    have p := g.par m hm
    rw [ws_flip (msk m) w i hl]
    cases hm : msk m i
    · simp
      omega
    · simp
      omega
  have hs := sum_flip w i hl
  have ev := g.ev
  unfold rd
  rw [hw, m1 i hi, if_pos (by omega)]
  have hf : fold (bt (flip w i) (.int (i : Int))) 0 PL = c := by
    rw [← g.ce]
    refine fold_congr PL 0 fun p hp => ?_
    rw [bt_int, flip_get w i _ hl]
    have hp2 : 0 ≤ p := by
      have : p ∈ PL → 0 ≤ p := by unfold PL; intro h; simp at h; omega
      exact this hp
    by_cases h : p = (i : Int)
    · rw [if_pos h, if_pos (by omega), show p.toNat = i by omega]
      omega
    · rw [if_neg h, if_neg (by omega)]
  rw [hf]
theorem rd_two {w : List Int} {c : Int} (g : GW w c) (i j : Nat) (hi : i < 16) (hj : j < i) : rd (flip (flip w i) j) = .non := by
  have hl : i < w.length := by rw [g.len]; exact hi
  have hl2 : j < (flip w i).length := by rw [flip_len]; omega
  have hw : wrL (flip (flip w i) j) = ([1, 2, 4, 8] : List Int).filter fun c => msk c i != msk c j := by
    unfold wrL
    refine List.filter_congr fun m hm => ?_
    have p := g.par m hm
    rw [ws_flip (msk m) _ j hl2, ws_flip (msk m) w i hl]
    cases hm : msk m i <;> cases hn : msk m j <;> simp <;> omega
  have hs := sum_flip w i hl
  have hs2 := sum_flip _ j hl2
  have ev := g.ev
  unfold rd
  rw [hw, if_neg (by omega), if_pos (m2 i hi j hj)]
end Mine

namespace Mine
/-! the law's word -/
theorem l1_loop (c0 : Int) : ∀ (ps : List Int) (c : Int) (u : List Int) (z : SV), u.length = 16 → (∀ p ∈ ps, 0 ≤ p ∧ p < 16) → SV.tame z = true → ∃ c' z', SV.tame z' = true ∧
    forD (gNm 3) (mSeq (mSet 1 (mVar 3) (mBin (Mi.intOp modI) (mBi Mi.intD (aCons (mVar 2) aNil)) (mC (D.int 2)))) (mAsg (mBin (Mi.intOp fdivI) (mVar 2) (mC (D.int 2))) (gNm 2))) (iL ps) [.dat (.int c0), .own (iL u), .dat (.int c), z, .un, .un] = some (.nx, [.dat (.int c0), .own (iL (put c ps u)), .dat (.int c'), z', .un, .un])
  | [], c, u, z, _, _, hz => ⟨c, z, hz, rfl⟩
  | p :: ps, c, u, z, hu, hp, hz => by
    obtain ⟨p0, p1⟩ := hp p (by simp)
    have e1 : mBin (Mi.intOp modI) (mBi Mi.intD (aCons (mVar 2) aNil)) (mC (D.int 2)) [.dat (.int c0), .own (iL u), .dat (.int c), .dat (.int p), .un, .un] = some (.dat (.int (c % 2)), [.dat (.int c0), .own (iL u), .dat (.int c), .dat (.int p), .un, .un]) :=
      un_eval (g := Mi.intOp modI) (bi1 (g := Mi.intD) (me := mVar 2) (x := .int c) (z := .int c) rfl rfl) (y := .int 2) rfl rfl
    have s1 := set_ok (j := 1) (mi := mVar 3) e1 rfl (s2 := [.dat (.int c0), .own (iL u), .dat (.int c), .dat (.int p), .un, .un]) (i := p) rfl rfl p0 (by rw [hu]; exact p1) (s3 := [.dat (.int c0), .own (iL (u.set p.toNat (c % 2))), .dat (.int c), .dat (.int p), .un, .un]) rfl
    have s2 : mAsg (mBin (Mi.intOp fdivI) (mVar 2) (mC (.int 2))) (gNm 2) [.dat (.int c0), .own (iL (u.set p.toNat (c % 2))), .dat (.int c), .dat (.int p), .un, .un] = some (.nx, [.dat (.int c0), .own (iL (u.set p.toNat (c % 2))), .dat (.int (c / 2)), .dat (.int p), .un, .un]) := rfl
    obtain ⟨c', z', q1, q2⟩ := l1_loop c0 ps (c / 2) (u.set p.toNat (c % 2)) (.dat (.int p)) (by rw [List.length_set, hu]) (fun y hy => hp y (by simp [hy])) rfl
    refine ⟨c', z', q1, ?_⟩
    show ((mSeq (mSet 1 (mVar 3) (mBin (Mi.intOp modI) (mBi Mi.intD (aCons (mVar 2) aNil)) (mC (D.int 2)))) (mAsg (mBin (Mi.intOp fdivI) (mVar 2) (mC (D.int 2))) (gNm 2))) [SV.dat (.int c0), SV.own (iL u), SV.dat (.int c), .dat (.int p), .un, .un]).bind _ = _
    rw [seq_nx s1, s2]
    exact q2
def pR (p : Int) : D → Bool
  | .int k => decide (0 < Builtin.bitAnd k p) && !decide (k = p)
  | _ => false
def hR (u : List Int) : D → D
  | .int k => .int (u.getD k.toNat 0)
  | d => d
theorem selR_D (p : Int) (u : List Int) : ((rng 0 16).filter (pR p)).map (hR u) = iL (selR p u) := by
  unfold rng iL selR
  rw [List.filter_map, List.map_map, List.map_map]
  have e1 : (pR p ∘ fun i : Nat => D.int (0 + (i : Int))) = fun k : Nat => decide (0 < Builtin.bitAnd (k : Int) p) && !decide ((k : Int) = p) := by
    funext k
    show (decide (0 < Builtin.bitAnd (0 + (k : Int)) p) && !decide (0 + (k : Int) = p)) = _
    rw [Int.zero_add]
  have e2 : (hR u ∘ fun i : Nat => D.int (0 + (i : Int))) = (D.int ∘ fun k : Nat => u.getD k 0) := by
    funext k
    show D.int (u.getD (0 + (k : Int)).toNat 0) = D.int (u.getD k 0)
    rw [Int.zero_add, Int.toNat_natCast]
  rw [e1, e2]
theorem lc_R (c0 c : Int) (u : List Int) (hu : u.length = 16) (p : Int) (z : SV) (hz : SV.tame z = true) : (mLc (iR1 (aCons (mC (D.int 16)) aNil)) (gNm 5) (mAnd (mTest (mBin (cmpI gtI) (mBin (Mi.intOp andI) (mVar 5) (mVar 4)) (mC (D.int 0)))) (mTest (mBin neD (mVar 5) (mVar 4)))) (mBin ixD (mVar 1) (mVar 5)) [5]) [.dat (.int c0), .own (iL u), .dat (.int c), z, .dat (.int p), .un] = some (iL (selR p u), [.dat (.int c0), .own (iL u), .dat (.int c), z, .dat (.int p), .un]) := by
  have hi : iR1 (aCons (mC (D.int 16)) aNil) [.dat (.int c0), .own (iL u), .dat (.int c), z, .dat (.int p), .un] = some (rng 0 16, [.dat (.int c0), .own (iL u), .dat (.int c), z, .dat (.int p), .un]) := r1_of (n := 16) rfl (by decide)
  obtain ⟨t', e, hT⟩ := comp_fm (vs := [5]) (g := gNm 5) (mt := (mAnd (mTest (mBin (cmpI gtI) (mBin (Mi.intOp andI) (mVar 5) (mVar 4)) (mC (D.int 0)))) (mTest (mBin neD (mVar 5) (mVar 4))))) (me := mBin ixD (mVar 1) (mVar 5)) (xs := rng 0 16) [.dat (.int c0), .own (iL u), .dat (.int c), z, .dat (.int p), .un] (pR p) (hR u) (by rw [rng_len]; decide) (fun d hd => by
    obtain ⟨i, hi, hd⟩ := List.getElem_of_mem hd
    have hd2 : (rng 0 16)[i]? = some d := by rw [List.getElem?_eq_getElem hi, hd]
    obtain ⟨hi2, rfl⟩ := rng_at hd2
    rw [show (0 : Int) + ((i : Nat) : Int) = (i : Int) by omega]
    refine ⟨[.dat (.int c0), .own (iL u), .dat (.int c), z, .dat (.int p), .dat (.int (i : Int))], [.dat (.int c0), .own (iL u), .dat (.int c), z, .dat (.int p), .dat (.int (i : Int))], rfl, ?_, fun _ => ⟨[.dat (.int c0), .own (iL u), .dat (.int c), z, .dat (.int p), .dat (.int (i : Int))], ?_, rfl⟩, fun _ => rfl⟩
    · have t1 : mTest (mBin (cmpI gtI) (mBin (Mi.intOp andI) (mVar 5) (mVar 4)) (mC (D.int 0))) [.dat (.int c0), .own (iL u), .dat (.int c), z, .dat (.int p), .dat (.int (i : Int))] = some (decide (0 < Builtin.bitAnd (i : Int) p), [.dat (.int c0), .own (iL u), .dat (.int c), z, .dat (.int p), .dat (.int (i : Int))]) := rfl
      have t2 : mTest (mBin neD (mVar 5) (mVar 4)) [.dat (.int c0), .own (iL u), .dat (.int c), z, .dat (.int p), .dat (.int (i : Int))] = some (!decide ((i : Int) = p), [.dat (.int c0), .own (iL u), .dat (.int c), z, .dat (.int p), .dat (.int (i : Int))]) := by
        have n := un_eval (g := neD) (ma := mVar 5) (mb := mVar 4) (s := [.dat (.int c0), .own (iL u), .dat (.int c), z, .dat (.int p), .dat (.int (i : Int))]) (x := .int (i : Int)) (y := .int p) rfl rfl (neD_int _ _)
        unfold mTest
        rw [n]
        rfl
      show _ = some (decide (0 < Builtin.bitAnd (i : Int) p) && !decide ((i : Int) = p), _)
      cases hb : decide (0 < Builtin.bitAnd (i : Int) p)
      · rw [hb] at t1
        rw [and_f t1]
        rfl
      · rw [hb] at t1
        rw [and_t t1, t2]
        rfl
    · have ix := at_iL (ns := u) (i := (i : Int)) (by omega) (by rw [hu]; omega)
      show _ = some (Bv.dat (.int (u.getD (i : Int).toNat 0)), _)
      clear hd hd2 hi hi2 hz hu
      walk_at "evs") [.dat (.int c0), .own (iL u), .dat (.int c), z, .dat (.int p), .un] rfl
  have lc := lc_of hi e
  rw [hT, selR_D] at lc
  exact lc
theorem l2_loop (c0 c : Int) (z : SV) (hz : SV.tame z = true) : ∀ (ps : List Int) (u : List Int) (y : SV), u.length = 16 → (∀ p ∈ ps, 0 ≤ p ∧ p < 16) → SV.tame y = true → ∃ y', SV.tame y' = true ∧
    forD (gNm 4) (mSet 1 (mVar 4) (mBin (Mi.intOp modI) (mBi sumS (aCons (mF (mLc (iR1 (aCons (mC (D.int 16)) aNil)) (gNm 5) (mAnd (mTest (mBin (cmpI gtI) (mBin (Mi.intOp andI) (mVar 5) (mVar 4)) (mC (D.int 0)))) (mTest (mBin neD (mVar 5) (mVar 4)))) (mBin ixD (mVar 1) (mVar 5)) [5])) aNil)) (mC (D.int 2)))) (iL ps) [.dat (.int c0), .own (iL u), .dat (.int c), z, y, .un] = some (.nx, [.dat (.int c0), .own (iL (chk2 ps u)), .dat (.int c), z, y', .un])
  | [], u, y, _, _, hy => ⟨y, hy, rfl⟩
  | p :: ps, u, y, hu, hp, hy => by
    obtain ⟨p0, p1⟩ := hp p (by simp)
    have lc := lc_R c0 c u hu p z hz
    have e0 : mBi sumS (aCons (mF (mLc (iR1 (aCons (mC (D.int 16)) aNil)) (gNm 5) (mAnd (mTest (mBin (cmpI gtI) (mBin (Mi.intOp andI) (mVar 5) (mVar 4)) (mC (D.int 0)))) (mTest (mBin neD (mVar 5) (mVar 4)))) (mBin ixD (mVar 1) (mVar 5)) [5])) aNil) [.dat (.int c0), .own (iL u), .dat (.int c), z, .dat (.int p), .un] = some (.dat (.int (selR p u).sum), [.dat (.int c0), .own (iL u), .dat (.int c), z, .dat (.int p), .un]) := by
      refine bi1 (x := .lst (iL (selR p u))) ?_ ?_
      · unfold mF
        rw [lc]
        rfl
      · show (asI (iL (selR p u))).bind (fun ns => some (D.int ns.sum)) = _
        rw [asI_iL2]
        rfl
    have e1 := un_eval (g := Mi.intOp modI) (mb := mC (D.int 2)) (z := .int ((selR p u).sum % 2)) e0 (y := .int 2) rfl rfl
    have s1 := set_ok (j := 1) (mi := mVar 4) e1 rfl (s2 := [.dat (.int c0), .own (iL u), .dat (.int c), z, .dat (.int p), .un]) (i := p) rfl rfl p0 (by rw [hu]; exact p1) (s3 := [.dat (.int c0), .own (iL (u.set p.toNat ((selR p u).sum % 2))), .dat (.int c), z, .dat (.int p), .un]) rfl
    obtain ⟨y', q1, q2⟩ := l2_loop c0 c z hz ps (u.set p.toNat ((selR p u).sum % 2)) (.dat (.int p)) (by rw [List.length_set, hu]) (fun y hy => hp y (by simp [hy])) rfl
    refine ⟨y', q1, ?_⟩
    show ((mSet 1 (mVar 4) (mBin (Mi.intOp modI) (mBi sumS (aCons (mF (mLc (iR1 (aCons (mC (D.int 16)) aNil)) (gNm 5) (mAnd (mTest (mBin (cmpI gtI) (mBin (Mi.intOp andI) (mVar 5) (mVar 4)) (mC (D.int 0)))) (mTest (mBin neD (mVar 5) (mVar 4)))) (mBin ixD (mVar 1) (mVar 5)) [5])) aNil)) (mC (D.int 2)))) [SV.dat (.int c0), SV.own (iL u), SV.dat (.int c), z, .dat (.int p), .un]).bind _ = _
    rw [s1]
    exact q2
theorem cut_1 (u : List Int) : cutG (iL u) (some 1) none = iL (u.drop 1) := by
  rw [cut_iL]
  congr 1
  have h1 : HT.sIx u.length 0 (some 1) = min 1 u.length := HT.sIx_nat _ _ 1
  unfold cutG
  rw [h1, HT.sIx_none]
  rcases u with _ | ⟨x, u⟩
  · rfl
  · rw [show min 1 (x :: u).length = 1 by rw [List.length_cons]; omega, ← List.length_drop, List.take_length]
theorem Lword_spec (c : Int) : m_Lword [.dat (.int c)] = some (.lst (iL (wd2 c)), none) := by
  simp only [m_Lword, fnM, List.length_cons, List.length_nil, reduceIte, Nat.reduceAdd, Nat.reduceSub, List.cons_append, List.nil_append, List.replicate]
  rw [seq_nx (s1 := [.dat (.int c), .own (iL Z16), .un, .un, .un, .un]) rfl]
  rw [seq_nx (s1 := [.dat (.int c), .own (iL Z16), .dat (.int c), .un, .un, .un]) rfl]
  obtain ⟨c', z1, t1, e1⟩ := l1_loop c RP c Z16 .un rfl (by decide) rfl
  rw [seq_nx (s1 := [.dat (.int c), .own (iL (put c RP Z16)), .dat (.int c'), z1, .un, .un]) (by rw [for_it (xs := iL RP) (s1 := [.dat (.int c), .own (iL Z16), .dat (.int c), .un, .un, .un]) rfl]; exact e1)]
  obtain ⟨z2, t2, e2⟩ := l2_loop c c' z1 t1 [1, 2, 4, 8] (put c RP Z16) .un (by rw [put_len]; rfl) (by decide) rfl
  rw [seq_nx (s1 := [.dat (.int c), .own (iL (chk2 [1, 2, 4, 8] (put c RP Z16))), .dat (.int c'), z1, z2, .un]) (by rw [for_it (xs := iL [1, 2, 4, 8]) (s1 := [.dat (.int c), .own (iL (put c RP Z16)), .dat (.int c'), z1, .un, .un]) rfl]; exact e2)]
  have hl : (chk2 [1, 2, 4, 8] (put c RP Z16)).length = 16 := by rw [chk2_len, put_len]; rfl
  unfold wd2
  generalize chk2 [1, 2, 4, 8] (put c RP Z16) = u at hl ⊢
  have sm : mBin (Mi.intOp modI) (mBi sumS (aCons (mSl slD (mVar 1) (oSome (mC (.int 1))) oNone) aNil)) (mC (.int 2)) [.dat (.int c), .own (iL u), .dat (.int c'), z1, z2, .un] = some (.dat (.int ((u.drop 1).sum % 2)), [.dat (.int c), .own (iL u), .dat (.int c'), z1, z2, .un]) := by
    have b : mBi sumS (aCons (mSl slD (mVar 1) (oSome (mC (.int 1))) oNone) aNil) [.dat (.int c), .own (iL u), .dat (.int c'), z1, z2, .un] = some (.dat (.int (u.drop 1).sum), [.dat (.int c), .own (iL u), .dat (.int c'), z1, z2, .un]) := by
      refine bi1 (x := .lst (iL (u.drop 1))) ?_ ?_
      · rw [← cut_1]
        rfl
      · show (asI (iL (u.drop 1))).bind (fun ns => some (D.int ns.sum)) = _
        rw [asI_iL2]
        rfl
    exact un_eval (g := Mi.intOp modI) b (y := .int 2) rfl rfl
  rw [seq_nx (s1 := [.dat (.int c), .own (iL (u.set 0 ((u.drop 1).sum % 2))), .dat (.int c'), z1, z2, .un]) (set_ok sm rfl (s2 := [.dat (.int c), .own (iL u), .dat (.int c'), z1, z2, .un]) (i := 0) rfl rfl (by decide) (by rw [hl]; decide) rfl)]
  generalize u.set 0 ((u.drop 1).sum % 2) = v
  have r : mRet (mVar 1) [.dat (.int c), .own (iL v), .dat (.int c'), z1, z2, .un] = some (.rt (.lst (iL v)), [.dat (.int c), .dat (.lst (iL v)), .dat (.int c'), z1, z2, .un]) := rfl
  rw [r]
  show some (_, parOf [SV.dat (.int c), .dat (.lst (iL v)), .dat (.int c'), z1, z2, .un]) = _
  rw [show parOf [SV.dat (.int c), .dat (.lst (iL v)), .dat (.int c'), z1, z2, .un] = parOf [z1, z2, .un] from rfl, par_tame t1, par_tame t2]
  rfl
/-! how far two words are apart -/
def dif : Nat → List Int → List Int → List Nat
  | k, a :: x, b :: y => if a ≠ b then k :: dif (k + 1) x y else dif (k + 1) x y
  | _, _, _ => []
theorem dif_rng : ∀ (x y : List Int) (n k : Nat), x.length = n → y.length = n → dif k x y = (List.range' k n).filter fun j => decide (x.getD (j - k) 0 ≠ y.getD (j - k) 0)
  | [], [], n, k, hx, hy => by
    subst hx
    rfl
  | [], b :: y, n, k, hx, hy => by simp at hx hy; omega
  | a :: x, [], n, k, hx, hy => by simp at hx hy; omega
  | a :: x, b :: y, 0, k, hx, hy => by simp at hx
  | a :: x, b :: y, n + 1, k, hx, hy => by
    have ih := dif_rng x y n (k + 1) (by simpa using hx) (by simpa using hy)
    unfold dif
    rw [List.range'_succ]
    have t : (List.range' (k + 1) n).filter (fun j => decide ((a :: x).getD (j - k) 0 ≠ (b :: y).getD (j - k) 0)) = dif (k + 1) x y := by
      rw [ih]
      refine List.filter_congr fun j hj => ?_
      have hj2 := (List.mem_range'_1.mp hj).1
      rw [show j - k = (j - (k + 1)) + 1 by omega]
      rfl
    by_cases h : a = b
    · rw [if_neg (by simpa using h), List.filter_cons_of_neg (by rw [Nat.sub_self]; simpa using h), t]
    · rw [if_pos h, List.filter_cons_of_pos (by rw [Nat.sub_self]; simpa using h), t]
theorem dif_par (m : Nat → Bool) : ∀ (x y : List Int) (k : Nat), x.length = y.length → (∀ b ∈ x, b = 0 ∨ b = 1) → (∀ b ∈ y, b = 0 ∨ b = 1) → (ws m k x + ws m k y - (((dif k x y).filter m).length : Int)) % 2 = 0
  | [], [], k, _, _, _ => rfl
  | [], b :: y, k, h, _, _ => by simp at h
  | a :: x, [], k, h, _, _ => by simp at h
  | a :: x, b :: y, k, h, hx, hy => by
    have ih := dif_par m x y (k + 1) (by simpa using h) (fun b hb => hx b (by simp [hb])) (fun b hb => hy b (by simp [hb]))
    have ha := hx a (by simp)
    have hb := hy b (by simp)
    by_cases e : a = b
    · rw [show dif k (a :: x) (b :: y) = dif (k + 1) x y by rw [dif, if_neg (by simpa using e)], ws_cons, ws_cons]
      split <;> omega
    · rw [show dif k (a :: x) (b :: y) = k :: dif (k + 1) x y by rw [dif, if_pos e], ws_cons, ws_cons]
      by_cases hm : m k = true
      · rw [List.filter_cons_of_pos hm, List.length_cons, if_pos hm, if_pos hm]
        omega
      · rw [List.filter_cons_of_neg hm, if_neg hm, if_neg hm]
        omega
theorem dif_nil : ∀ (x y : List Int) (k : Nat), x.length = y.length → dif k x y = [] → x = y
  | [], [], _, _, _ => rfl
  | [], b :: y, k, h, _ => by simp at h
  | a :: x, [], k, h, _ => by simp at h
  | a :: x, b :: y, k, h, hd => by
    unfold dif at hd
    by_cases e : a = b
    · rw [if_neg (by simpa using e)] at hd
      rw [e, dif_nil x y (k + 1) (by simpa using h) hd]
    · rw [if_pos e] at hd
      cases hd
theorem dif_same : ∀ (x : List Int) (k : Nat), dif k x x = []
  | [], _ => rfl
  | a :: x, k => by
    unfold dif
    rw [if_neg (by simp), dif_same x (k + 1)]
theorem far {x y : List Int} {a b : Int} (gx : GW x a) (gy : GW y b) (h : a ≠ b) : 4 ≤ (dif 0 x y).length := by
  have hl : x.length = y.length := by rw [gx.len, gy.len]
  have mem : ∀ {w : List Int} {c : Int}, GW w c → ∀ b ∈ w, b = 0 ∨ b = 1 := fun {w c} g b hb => by
    obtain ⟨i, hi, rfl⟩ := List.getElem_of_mem hb
    have := g.bit i (by rw [← g.len]; exact hi)
    rw [List.getD_eq_getElem?_getD, List.getElem?_eq_getElem hi] at this
    exact this
  have p0 := dif_par (fun _ => true) x y 0 hl (mem gx) (mem gy)
  rw [ws_all, ws_all, List.filter_eq_self.mpr (fun _ _ => rfl)] at p0
  have pm : ∀ m ∈ ([1, 2, 4, 8] : List Int), (((dif 0 x y).filter (msk m)).length : Int) % 2 = 0 := fun m hm => by
    have := dif_par (msk m) x y 0 hl (mem gx) (mem gy)
    have h1 := gx.par m hm
    have h2 := gy.par m hm
    omega
  have e1 := gx.ev
  have e2 := gy.ev
  have hr := dif_rng x y 16 0 gx.len gy.len
  have hmem : ∀ i ∈ dif 0 x y, i < 16 := fun i hi => by
    rw [hr] at hi
    have := (List.mem_range'_1.mp (List.mem_filter.mp hi).1).2
    omega
  have hsort : (dif 0 x y).Pairwise (· < ·) := by
    rw [hr]
    exact List.Pairwise.filter _ (List.pairwise_lt_range' ..)
  match hd : dif 0 x y with
  | [] =>
    have := dif_nil x y 0 hl hd
    subst this
    exact absurd (gx.ce.symm.trans gy.ce) h
  | [i] =>
    rw [hd] at p0
    simp only [List.length_cons, List.length_nil] at p0
    omega
  | [i, j] =>
    rw [hd] at pm hmem hsort
    have hij : i < j := by
      have := List.pairwise_cons.mp hsort
      exact this.1 j (by simp)
    have hj := hmem j (by simp)
    have q := m2 j hj i hij
    have z : ([1, 2, 4, 8] : List Int).filter (fun c => msk c j != msk c i) = [] := by
      refine List.filter_eq_nil_iff.mpr fun m hm => ?_
      have := pm m hm
      cases h1 : msk m i <;> cases h2 : msk m j <;> simp [h1, h2] at this ⊢
    rw [z] at q
    cases q
  | [i, j, k] =>
    rw [hd] at p0
    simp only [List.length_cons, List.length_nil] at p0
    omega
  | i :: j :: k :: l :: r =>
    simp only [List.length_cons]
    omega
end Mine

namespace Mine
theorem flip_ok {s s' : Sto} {o t : Nat} {w : List Int} {i : Nat} (h1 : s[o]? = some (.own (iL w))) (h2 : s[t]? = some (.dat (.int (i : Int)))) (hi : i < w.length) (e : s.set o (.own (iL (flip w i))) = s') : (mSet o (mVar t) (mBin (Mi.intOp subI) (mC (D.int 1)) (mBin ixD (mVar o) (mVar t)))) s = some (.nx, s') := by
  subst e
  have ix := at_iL (ns := w) (i := (i : Int)) (by omega) (by omega)
  rw [Int.toNat_natCast] at ix
  have vo : mVar o s = some (.slot o, s) := by
    unfold mVar
    rw [h1]
  have vt : mVar t s = some (.dat (.int (i : Int)), s) := by
    unfold mVar
    rw [h2]
  have e0 : mBin ixD (mVar o) (mVar t) s = some (.dat (.int (w.getD i 0)), s) := by
    unfold mBin
    rw [vo]
    show (mVar t s).bind _ = _
    rw [vt]
    have lk : look s (.slot o) = some (.lst (iL w)) := by simp only [look, h1]
    show (look s (.slot o)).bind _ = _
    rw [lk]
    show (atI (iL w) (i : Int)).bind _ = _
    rw [ix]
    rfl
  have e1 := un_eval (g := Mi.intOp subI) (ma := mC (D.int 1)) (x := .int 1) (z := .int (1 - w.getD i 0)) (s := s) (s1 := s) rfl e0 rfl
  exact set_ok e1 h1 vt h1 (by omega) (by omega) (by rw [Int.toNat_natCast]; rfl)
theorem two_loop {w : List Int} {c : Int} (g : GW w c) (ns : List Int) (a b : Int) (C D4 D3 : SV) (i : Nat) (hi : i < 16) (z7 z8 : SV) : ∃ z7' z8', forD (gNm 7) (mSeq (mAsgF (mBiF listF (aCons (mVar 6) aNil)) 8) (mSeq (mSet 8 (mVar 7) (mBin (Mi.intOp subI) (mC (D.int 1)) (mBin ixD (mVar 8) (mVar 7)))) (mIf (mTest (mBin isnD (mCall m_read_word none (aCons (mBi tupleD (aCons (mVar 8) aNil)) aNil)) (mC D.non))) (mRet (mC (D.bl false))) mNext))) (rng 0 i) [SV.dat (D.fro (iL ns)), SV.own [D.int a, D.int b], C, D3, D4, (.dat (.int (i : Int))), (.own (iL (flip w i))), z7, z8, SV.un, SV.un, SV.un, SV.un] = some (.nx, [SV.dat (D.fro (iL ns)), SV.own [D.int a, D.int b], C, D3, D4, (.dat (.int (i : Int))), (.own (iL (flip w i))), z7', z8', SV.un, SV.un, SV.un, SV.un]) := by
  obtain ⟨t, e, z7', z8', rfl⟩ := forD_inv (g := gNm 7) (mb := (mSeq (mAsgF (mBiF listF (aCons (mVar 6) aNil)) 8) (mSeq (mSet 8 (mVar 7) (mBin (Mi.intOp subI) (mC (D.int 1)) (mBin ixD (mVar 8) (mVar 7)))) (mIf (mTest (mBin isnD (mCall m_read_word none (aCons (mBi tupleD (aCons (mVar 8) aNil)) aNil)) (mC D.non))) (mRet (mC (D.bl false))) mNext)))) (fun _ t => ∃ z7 z8, t = [SV.dat (D.fro (iL ns)), SV.own [D.int a, D.int b], C, D3, D4, (.dat (.int (i : Int))), (.own (iL (flip w i))), z7, z8, SV.un, SV.un, SV.un, SV.un]) (rng 0 i) 0 _ ⟨z7, z8, rfl⟩ fun j d t hd ht => by
    obtain ⟨z7, z8, rfl⟩ := ht
    obtain ⟨hj, rfl⟩ := rng_at hd
    rw [show (0 : Int) + ((j : Nat) : Int) = (j : Int) by omega]
    refine ⟨[SV.dat (D.fro (iL ns)), SV.own [D.int a, D.int b], C, D3, D4, (.dat (.int (i : Int))), (.own (iL (flip w i))), (.dat (.int (j : Int))), z8, SV.un, SV.un, SV.un, SV.un], [SV.dat (D.fro (iL ns)), SV.own [D.int a, D.int b], C, D3, D4, (.dat (.int (i : Int))), (.own (iL (flip w i))), (.dat (.int (j : Int))), (.own (iL (flip (flip w i) j))), SV.un, SV.un, SV.un, SV.un], rfl, .inl ?_, _, _, rfl⟩
    have s1 : mAsgF (mBiF listF (aCons (mVar 6) aNil)) 8 [SV.dat (D.fro (iL ns)), SV.own [D.int a, D.int b], C, D3, D4, (.dat (.int (i : Int))), (.own (iL (flip w i))), (.dat (.int (j : Int))), z8, SV.un, SV.un, SV.un, SV.un] = some (.nx, [SV.dat (D.fro (iL ns)), SV.own [D.int a, D.int b], C, D3, D4, (.dat (.int (i : Int))), (.own (iL (flip w i))), (.dat (.int (j : Int))), (.own (iL (flip w i))), SV.un, SV.un, SV.un, SV.un]) := rfl
    have s2 := flip_ok (s := [SV.dat (D.fro (iL ns)), SV.own [D.int a, D.int b], C, D3, D4, (.dat (.int (i : Int))), (.own (iL (flip w i))), (.dat (.int (j : Int))), (.own (iL (flip w i))), SV.un, SV.un, SV.un, SV.un]) (o := 8) (t := 7) (w := flip w i) (i := j) (s' := [SV.dat (D.fro (iL ns)), SV.own [D.int a, D.int b], C, D3, D4, (.dat (.int (i : Int))), (.own (iL (flip w i))), (.dat (.int (j : Int))), (.own (iL (flip (flip w i) j))), SV.un, SV.un, SV.un, SV.un]) rfl rfl (by rw [flip_len, g.len]; omega) rfl
    have rs := read_spec (flip (flip w i) j) (by rw [flip_len, flip_len, g.len])
    rw [rd_two g i j hi hj] at rs
    have k : mCall m_read_word none (aCons (mBi tupleD (aCons (mVar 8) aNil)) aNil) [SV.dat (D.fro (iL ns)), SV.own [D.int a, D.int b], C, D3, D4, (.dat (.int (i : Int))), (.own (iL (flip w i))), (.dat (.int (j : Int))), (.own (iL (flip (flip w i) j))), SV.un, SV.un, SV.un, SV.un] = some (.dat .non, [SV.dat (D.fro (iL ns)), SV.own [D.int a, D.int b], C, D3, D4, (.dat (.int (i : Int))), (.own (iL (flip w i))), (.dat (.int (j : Int))), (.own (iL (flip (flip w i) j))), SV.un, SV.un, SV.un, SV.un]) := by
      clear s1 s2 hd hj hi
      walk_at "evs"
    have t : mTest (mBin isnD (mCall m_read_word none (aCons (mBi tupleD (aCons (mVar 8) aNil)) aNil)) (mC D.non)) [SV.dat (D.fro (iL ns)), SV.own [D.int a, D.int b], C, D3, D4, (.dat (.int (i : Int))), (.own (iL (flip w i))), (.dat (.int (j : Int))), (.own (iL (flip (flip w i) j))), SV.un, SV.un, SV.un, SV.un] = some (false, [SV.dat (D.fro (iL ns)), SV.own [D.int a, D.int b], C, D3, D4, (.dat (.int (i : Int))), (.own (iL (flip w i))), (.dat (.int (j : Int))), (.own (iL (flip (flip w i) j))), SV.un, SV.un, SV.un, SV.un]) := by
      have u := un_eval (g := isnD) (mb := mC D.non) (y := .non) (z := .bl false) k rfl rfl
      unfold mTest
      rw [u]
      rfl
    rw [seq_nx s1, seq_nx s2]
    exact (if_f t).trans rfl
  exact ⟨z7', z8', e⟩
theorem one_loop {w : List Int} {c : Int} (g : GW w c) (ns : List Int) (a b : Int) (C : SV) (z5 z6 z7 z8 : SV) : ∃ z5' z6' z7' z8', forD (gNm 5) (mSeq (mAsgF (mBiF listF (aCons (mVar 4) aNil)) 6) (mSeq (mSet 6 (mVar 5) (mBin (Mi.intOp subI) (mC (D.int 1)) (mBin ixD (mVar 6) (mVar 5)))) (mSeq (mIf (mTest (mBin neD (mCall m_read_word none (aCons (mBi tupleD (aCons (mVar 6) aNil)) aNil)) (mTup (aCons (mVar 3) (aCons (mVar 5) aNil))))) (mRet (mC (D.bl false))) mNext) (mFor (iR1 (aCons (mVar 5) aNil)) (gNm 7) (mSeq (mAsgF (mBiF listF (aCons (mVar 6) aNil)) 8) (mSeq (mSet 8 (mVar 7) (mBin (Mi.intOp subI) (mC (D.int 1)) (mBin ixD (mVar 8) (mVar 7)))) (mIf (mTest (mBin isnD (mCall m_read_word none (aCons (mBi tupleD (aCons (mVar 8) aNil)) aNil)) (mC D.non))) (mRet (mC (D.bl false))) mNext))))))) (rng 0 16) [SV.dat (D.fro (iL ns)), SV.own [D.int a, D.int b], C, (.dat (.int c)), (.dat (.tup (iL w))), z5, z6, z7, z8, SV.un, SV.un, SV.un, SV.un] = some (.nx, [SV.dat (D.fro (iL ns)), SV.own [D.int a, D.int b], C, (.dat (.int c)), (.dat (.tup (iL w))), z5', z6', z7', z8', SV.un, SV.un, SV.un, SV.un]) := by
  obtain ⟨t, e, z5', z6', z7', z8', rfl⟩ := forD_inv (g := gNm 5) (mb := (mSeq (mAsgF (mBiF listF (aCons (mVar 4) aNil)) 6) (mSeq (mSet 6 (mVar 5) (mBin (Mi.intOp subI) (mC (D.int 1)) (mBin ixD (mVar 6) (mVar 5)))) (mSeq (mIf (mTest (mBin neD (mCall m_read_word none (aCons (mBi tupleD (aCons (mVar 6) aNil)) aNil)) (mTup (aCons (mVar 3) (aCons (mVar 5) aNil))))) (mRet (mC (D.bl false))) mNext) (mFor (iR1 (aCons (mVar 5) aNil)) (gNm 7) (mSeq (mAsgF (mBiF listF (aCons (mVar 6) aNil)) 8) (mSeq (mSet 8 (mVar 7) (mBin (Mi.intOp subI) (mC (D.int 1)) (mBin ixD (mVar 8) (mVar 7)))) (mIf (mTest (mBin isnD (mCall m_read_word none (aCons (mBi tupleD (aCons (mVar 8) aNil)) aNil)) (mC D.non))) (mRet (mC (D.bl false))) mNext)))))))) (fun _ t => ∃ z5 z6 z7 z8, t = [SV.dat (D.fro (iL ns)), SV.own [D.int a, D.int b], C, (.dat (.int c)), (.dat (.tup (iL w))), z5, z6, z7, z8, SV.un, SV.un, SV.un, SV.un]) (rng 0 16) 0 _ ⟨z5, z6, z7, z8, rfl⟩ fun i d t hd ht => by
    obtain ⟨z5, z6, z7, z8, rfl⟩ := ht
    obtain ⟨hi, rfl⟩ := rng_at hd
    rw [show (0 : Int) + ((i : Nat) : Int) = (i : Int) by omega]
    obtain ⟨y7, y8, e2⟩ := two_loop g ns a b C (.dat (.tup (iL w))) (.dat (.int c)) i hi z7 z8
    refine ⟨[SV.dat (D.fro (iL ns)), SV.own [D.int a, D.int b], C, (.dat (.int c)), (.dat (.tup (iL w))), (.dat (.int (i : Int))), z6, z7, z8, SV.un, SV.un, SV.un, SV.un], [SV.dat (D.fro (iL ns)), SV.own [D.int a, D.int b], C, (.dat (.int c)), (.dat (.tup (iL w))), (.dat (.int (i : Int))), (.own (iL (flip w i))), y7, y8, SV.un, SV.un, SV.un, SV.un], rfl, .inl ?_, _, _, _, _, rfl⟩
    have s1 : mAsgF (mBiF listF (aCons (mVar 4) aNil)) 6 [SV.dat (D.fro (iL ns)), SV.own [D.int a, D.int b], C, (.dat (.int c)), (.dat (.tup (iL w))), (.dat (.int (i : Int))), z6, z7, z8, SV.un, SV.un, SV.un, SV.un] = some (.nx, [SV.dat (D.fro (iL ns)), SV.own [D.int a, D.int b], C, (.dat (.int c)), (.dat (.tup (iL w))), (.dat (.int (i : Int))), (.own (iL w)), z7, z8, SV.un, SV.un, SV.un, SV.un]) := rfl
    have s2 := flip_ok (s := [SV.dat (D.fro (iL ns)), SV.own [D.int a, D.int b], C, (.dat (.int c)), (.dat (.tup (iL w))), (.dat (.int (i : Int))), (.own (iL w)), z7, z8, SV.un, SV.un, SV.un, SV.un]) (o := 6) (t := 5) (w := w) (i := i) (s' := [SV.dat (D.fro (iL ns)), SV.own [D.int a, D.int b], C, (.dat (.int c)), (.dat (.tup (iL w))), (.dat (.int (i : Int))), (.own (iL (flip w i))), z7, z8, SV.un, SV.un, SV.un, SV.un]) rfl rfl (by rw [g.len]; omega) rfl
    have rs := read_spec (flip w i) (by rw [flip_len, g.len])
    rw [rd_one g i hi] at rs
    have k : mCall m_read_word none (aCons (mBi tupleD (aCons (mVar 6) aNil)) aNil) [SV.dat (D.fro (iL ns)), SV.own [D.int a, D.int b], C, (.dat (.int c)), (.dat (.tup (iL w))), (.dat (.int (i : Int))), (.own (iL (flip w i))), z7, z8, SV.un, SV.un, SV.un, SV.un] = some (.dat (.tup [.int c, .int (i : Int)]), [SV.dat (D.fro (iL ns)), SV.own [D.int a, D.int b], C, (.dat (.int c)), (.dat (.tup (iL w))), (.dat (.int (i : Int))), (.own (iL (flip w i))), z7, z8, SV.un, SV.un, SV.un, SV.un]) := by
      clear s1 s2 hd hi e2
      walk_at "evs"
    have pl : (D.tup [.int c, .int (i : Int)]).Pl 64 := (pl_tup (n := 0) (pl_cons (pl_int _) (pl_cons (pl_int _) pl_nil))).up (by decide)
    have t : mTest (mBin neD (mCall m_read_word none (aCons (mBi tupleD (aCons (mVar 6) aNil)) aNil)) (mTup (aCons (mVar 3) (aCons (mVar 5) aNil)))) [SV.dat (D.fro (iL ns)), SV.own [D.int a, D.int b], C, (.dat (.int c)), (.dat (.tup (iL w))), (.dat (.int (i : Int))), (.own (iL (flip w i))), z7, z8, SV.un, SV.un, SV.un, SV.un] = some (false, [SV.dat (D.fro (iL ns)), SV.own [D.int a, D.int b], C, (.dat (.int c)), (.dat (.tup (iL w))), (.dat (.int (i : Int))), (.own (iL (flip w i))), z7, z8, SV.un, SV.un, SV.un, SV.un]) := by
      have u := un_eval (g := neD) (mb := mTup (aCons (mVar 3) (aCons (mVar 5) aNil))) (y := .tup [.int c, .int (i : Int)]) (z := .bl false) k rfl (neD_rf pl)
      unfold mTest
      rw [u]
      rfl
    rw [seq_nx s1, seq_nx s2, seq_nx ((if_f t).trans rfl), for_it (r1_of (n := (i : Int)) (s1 := [SV.dat (D.fro (iL ns)), SV.own [D.int a, D.int b], C, (.dat (.int c)), (.dat (.tup (iL w))), (.dat (.int (i : Int))), (.own (iL (flip w i))), z7, z8, SV.un, SV.un, SV.un, SV.un]) rfl (by omega)), Int.toNat_natCast]
    exact e2
  exact ⟨z5', z6', z7', z8', e⟩
theorem body0 (c : Int) (h0 : 0 ≤ c) (h : c < 2048) (ns : List Int) (a b : Int) (C : SV) (z4 z5 z6 z7 z8 : SV) : ∃ z4' z5' z6' z7' z8', (mSeq (mAsg (mCall m_word_of none (aCons (mVar 3) aNil)) (gNm 4)) (mSeq (mIf (mOr (mNot (mTru (mBi (isiD "tuple") (aCons (mVar 4) aNil)))) (mOr (mTest (mBin neD (mF (mBiF listF (aCons (mVar 4) aNil))) (mCall m_Lword none (aCons (mVar 3) aNil)))) (mTest (mBin neD (mCall m_read_word none (aCons (mVar 4) aNil)) (mTup (aCons (mVar 3) (aCons (mC D.non) aNil))))))) (mRet (mC (D.bl false))) mNext) (mFor (iR1 (aCons (mC (D.int 16)) aNil)) (gNm 5) (mSeq (mAsgF (mBiF listF (aCons (mVar 4) aNil)) 6) (mSeq (mSet 6 (mVar 5) (mBin (Mi.intOp subI) (mC (D.int 1)) (mBin ixD (mVar 6) (mVar 5)))) (mSeq (mIf (mTest (mBin neD (mCall m_read_word none (aCons (mBi tupleD (aCons (mVar 6) aNil)) aNil)) (mTup (aCons (mVar 3) (aCons (mVar 5) aNil))))) (mRet (mC (D.bl false))) mNext) (mFor (iR1 (aCons (mVar 5) aNil)) (gNm 7) (mSeq (mAsgF (mBiF listF (aCons (mVar 6) aNil)) 8) (mSeq (mSet 8 (mVar 7) (mBin (Mi.intOp subI) (mC (D.int 1)) (mBin ixD (mVar 8) (mVar 7)))) (mIf (mTest (mBin isnD (mCall m_read_word none (aCons (mBi tupleD (aCons (mVar 8) aNil)) aNil)) (mC D.non))) (mRet (mC (D.bl false))) mNext)))))))))) [SV.dat (D.fro (iL ns)), SV.own [D.int a, D.int b], C, (.dat (.int c)), z4, z5, z6, z7, z8, SV.un, SV.un, SV.un, SV.un] = some (.nx, [SV.dat (D.fro (iL ns)), SV.own [D.int a, D.int b], C, (.dat (.int c)), z4', z5', z6', z7', z8', SV.un, SV.un, SV.un, SV.un]) := by
  obtain ⟨g, hw2⟩ := wd_good c h0 h
  have hW := word_spec c h0
  have hL := Lword_spec c
  rw [hw2] at hL
  have rs := read_spec (wd c) g.len
  rw [rd_good g] at rs
  obtain ⟨y5, y6, y7, y8, e⟩ := one_loop g ns a b C z5 z6 z7 z8
  generalize wd c = w at *
  refine ⟨.dat (.tup (iL w)), y5, y6, y7, y8, ?_⟩
  have k0 : mCall m_word_of none (aCons (mVar 3) aNil) [SV.dat (D.fro (iL ns)), SV.own [D.int a, D.int b], C, (.dat (.int c)), z4, z5, z6, z7, z8, SV.un, SV.un, SV.un, SV.un] = some (.dat (.tup (iL w)), [SV.dat (D.fro (iL ns)), SV.own [D.int a, D.int b], C, (.dat (.int c)), z4, z5, z6, z7, z8, SV.un, SV.un, SV.un, SV.un]) := by
    clear e g rs hL hw2
    walk_at "evs"
  rw [seq_nx (asg_at (s2 := [SV.dat (D.fro (iL ns)), SV.own [D.int a, D.int b], C, (.dat (.int c)), (.dat (.tup (iL w))), z5, z6, z7, z8, SV.un, SV.un, SV.un, SV.un]) k0 rfl)]
  have t1 : mNot (mTru (mBi (isiD "tuple") (aCons (mVar 4) aNil))) [SV.dat (D.fro (iL ns)), SV.own [D.int a, D.int b], C, (.dat (.int c)), (.dat (.tup (iL w))), z5, z6, z7, z8, SV.un, SV.un, SV.un, SV.un] = some (false, [SV.dat (D.fro (iL ns)), SV.own [D.int a, D.int b], C, (.dat (.int c)), (.dat (.tup (iL w))), z5, z6, z7, z8, SV.un, SV.un, SV.un, SV.un]) := by
    have i : isiD "tuple" [.tup (iL w)] = some (.bl true) := by
      have : kitB "tuple" "tuple" = some true := by decide +kernel
      simp only [isiD, tyD, Option.bind_some, this]
    have u := bi1 (me := mVar 4) (s := [SV.dat (D.fro (iL ns)), SV.own [D.int a, D.int b], C, (.dat (.int c)), (.dat (.tup (iL w))), z5, z6, z7, z8, SV.un, SV.un, SV.un, SV.un]) (x := .tup (iL w)) rfl i
    unfold mNot mTru
    rw [u]
    rfl
  have t2 : mTest (mBin neD (mF (mBiF listF (aCons (mVar 4) aNil))) (mCall m_Lword none (aCons (mVar 3) aNil))) [SV.dat (D.fro (iL ns)), SV.own [D.int a, D.int b], C, (.dat (.int c)), (.dat (.tup (iL w))), z5, z6, z7, z8, SV.un, SV.un, SV.un, SV.un] = some (false, [SV.dat (D.fro (iL ns)), SV.own [D.int a, D.int b], C, (.dat (.int c)), (.dat (.tup (iL w))), z5, z6, z7, z8, SV.un, SV.un, SV.un, SV.un]) := by
    have k1 : mCall m_Lword none (aCons (mVar 3) aNil) [SV.dat (D.fro (iL ns)), SV.own [D.int a, D.int b], C, (.dat (.int c)), (.dat (.tup (iL w))), z5, z6, z7, z8, SV.un, SV.un, SV.un, SV.un] = some (.dat (.lst (iL w)), [SV.dat (D.fro (iL ns)), SV.own [D.int a, D.int b], C, (.dat (.int c)), (.dat (.tup (iL w))), z5, z6, z7, z8, SV.un, SV.un, SV.un, SV.un]) := by
      clear e g rs hW t1 k0 hw2
      walk_at "evs"
    have n := neD_LL w w
    rw [decide_eq_true rfl] at n
    have u := un_eval (g := neD) (ma := mF (mBiF listF (aCons (mVar 4) aNil))) (x := .lst (iL w)) (s := [SV.dat (D.fro (iL ns)), SV.own [D.int a, D.int b], C, (.dat (.int c)), (.dat (.tup (iL w))), z5, z6, z7, z8, SV.un, SV.un, SV.un, SV.un]) rfl k1 n
    unfold mTest
    rw [u]
    rfl
  have t3 : mTest (mBin neD (mCall m_read_word none (aCons (mVar 4) aNil)) (mTup (aCons (mVar 3) (aCons (mC D.non) aNil)))) [SV.dat (D.fro (iL ns)), SV.own [D.int a, D.int b], C, (.dat (.int c)), (.dat (.tup (iL w))), z5, z6, z7, z8, SV.un, SV.un, SV.un, SV.un] = some (false, [SV.dat (D.fro (iL ns)), SV.own [D.int a, D.int b], C, (.dat (.int c)), (.dat (.tup (iL w))), z5, z6, z7, z8, SV.un, SV.un, SV.un, SV.un]) := by
    have k1 : mCall m_read_word none (aCons (mVar 4) aNil) [SV.dat (D.fro (iL ns)), SV.own [D.int a, D.int b], C, (.dat (.int c)), (.dat (.tup (iL w))), z5, z6, z7, z8, SV.un, SV.un, SV.un, SV.un] = some (.dat (.tup [.int c, .non]), [SV.dat (D.fro (iL ns)), SV.own [D.int a, D.int b], C, (.dat (.int c)), (.dat (.tup (iL w))), z5, z6, z7, z8, SV.un, SV.un, SV.un, SV.un]) := by
      clear e g hL hW t1 t2 k0 hw2
      walk_at "evs"
    have pl : (D.tup [.int c, .non]).Pl 64 := (pl_tup (n := 0) (pl_cons (pl_int _) (pl_cons pl_non pl_nil))).up (by decide)
    have u := un_eval (g := neD) (mb := mTup (aCons (mVar 3) (aCons (mC D.non) aNil))) (y := .tup [.int c, .non]) k1 rfl (neD_rf pl)
    unfold mTest
    rw [u]
    rfl
  rw [seq_nx ((if_f (by rw [or_f t1, or_f t2]; exact t3)).trans rfl), for_it (r1_of (n := 16) (s1 := [SV.dat (D.fro (iL ns)), SV.own [D.int a, D.int b], C, (.dat (.int c)), (.dat (.tup (iL w))), z5, z6, z7, z8, SV.un, SV.un, SV.un, SV.un]) rfl (by decide))]
  exact e
theorem menu4 (e : Int) (h0 : 0 ≤ e) (h : e < 4) : ∃ k, atI [D.int 0, .int 2047, .int 1024, .int 1] e = some (.int k) ∧ 0 ≤ k ∧ k < 2048 := by
  have : e = 0 ∨ e = 1 ∨ e = 2 ∨ e = 3 := by omega
  rcases this with rfl | rfl | rfl | rfl
  · exact ⟨0, rfl, by decide, by decide⟩
  · exact ⟨2047, rfl, by decide, by decide⟩
  · exact ⟨1024, rfl, by decide, by decide⟩
  · exact ⟨1, rfl, by decide, by decide⟩
def pA (x y : List Int) : D → Bool
  | .int k => !decide (x.getD k.toNat 0 = y.getD k.toNat 0)
  | _ => false
theorem apart_D (x y : List Int) (hx : x.length = 16) (hy : y.length = 16) : (((rng 0 16).filter (pA x y)).map id).length = (dif 0 x y).length := by
  rw [dif_rng x y 16 0 hx hy, List.map_id]
  unfold rng
  rw [List.filter_map, List.length_map, List.range_eq_range']
  congr 1
  refine List.filter_congr fun j hj => ?_
  show (!decide (x.getD (0 + (j : Int)).toNat 0 = y.getD (0 + (j : Int)).toNat 0)) = decide (x.getD (j - 0) 0 ≠ y.getD (j - 0) 0)
  rw [Int.zero_add, Int.toNat_natCast, Nat.sub_zero]
  by_cases h : x.getD j 0 = y.getD j 0
  · rw [decide_eq_true h, decide_eq_false (fun n => n h)]
    rfl
  · rw [decide_eq_false h, decide_eq_true h]
    rfl
end Mine

namespace Mine
theorem forD_nx {g : MG} {mb : MS} {d : D} {ds : List D} {s t1 t2 : Sto} (h1 : g d s = some t1) (h2 : mb t1 = some (.nx, t2)) : forD g mb (d :: ds) s = forD g mb ds t2 := by
  rw [forD, h1]
  show (mb t1).bind _ = _
  rw [h2]
  rfl
theorem andV_t {ma mb : ME} {s s1 : Sto} (h : ma s = some (.dat (.bl true), s1)) : mAndV ma mb s = mb s1 := by
  unfold mAndV mTest
  rw [h]
  rfl
theorem andV_f {ma mb : ME} {s s1 : Sto} (h : ma s = some (.dat (.bl false), s1)) : mAndV ma mb s = some (.dat (.bl false), s1) := by
  unfold mAndV mTest
  rw [h]
  rfl
theorem orV_t {ma mb : ME} {s s1 : Sto} (h : ma s = some (.dat (.bl true), s1)) : mOrV ma mb s = some (.dat (.bl true), s1) := by
  unfold mOrV mTest
  rw [h]
  rfl
theorem orV_f {ma mb : ME} {s s1 : Sto} (h : ma s = some (.dat (.bl false), s1)) : mOrV ma mb s = mb s1 := by
  unfold mOrV mTest
  rw [h]
  rfl
theorem ret_ok {me : ME} {s s1 : Sto} {d : D} (h : me s = some (.dat d, s1)) : mRet me s = some (.rt d, s1) := by
  unfold mRet
  rw [h]
  rfl
theorem apart_ok (ns : List Int) (a b : Int) (C z3 z4 z5 z6 z7 z8 : SV) (x y : List Int) (hx : x.length = 16) (hy : y.length = 16) : mBi lenD (aCons (mF (mLc (iR1 (aCons (mC (D.int 16)) aNil)) (gNm 12) (mTest (mBin neD (mBin ixD (mVar 9) (mVar 12)) (mBin ixD (mVar 10) (mVar 12)))) (mVar 12) [12])) aNil) [SV.dat (D.fro (iL ns)), SV.own [D.int a, D.int b], C, z3, z4, z5, z6, z7, z8, (.dat (.tup (iL x))), (.dat (.tup (iL y))), (.un), SV.un] = some (.dat (.int ((dif 0 x y).length : Int)), [SV.dat (D.fro (iL ns)), SV.own [D.int a, D.int b], C, z3, z4, z5, z6, z7, z8, (.dat (.tup (iL x))), (.dat (.tup (iL y))), (.un), SV.un]) := by
  have hi : iR1 (aCons (mC (D.int 16)) aNil) [SV.dat (D.fro (iL ns)), SV.own [D.int a, D.int b], C, z3, z4, z5, z6, z7, z8, (.dat (.tup (iL x))), (.dat (.tup (iL y))), (.un), SV.un] = some (rng 0 16, [SV.dat (D.fro (iL ns)), SV.own [D.int a, D.int b], C, z3, z4, z5, z6, z7, z8, (.dat (.tup (iL x))), (.dat (.tup (iL y))), (.un), SV.un]) := r1_of (n := 16) rfl (by decide)
  obtain ⟨t', e, hT⟩ := comp_fm (vs := [12]) (g := gNm 12) (mt := mTest (mBin neD (mBin ixD (mVar 9) (mVar 12)) (mBin ixD (mVar 10) (mVar 12)))) (me := mVar 12) (xs := rng 0 16) [SV.dat (D.fro (iL ns)), SV.own [D.int a, D.int b], C, z3, z4, z5, z6, z7, z8, (.dat (.tup (iL x))), (.dat (.tup (iL y))), (.un), SV.un] (pA x y) id (by rw [rng_len]; decide) (fun d hd => by
    obtain ⟨i, hi, hd⟩ := List.getElem_of_mem hd
    have hd2 : (rng 0 16)[i]? = some d := by rw [List.getElem?_eq_getElem hi, hd]
    obtain ⟨hi2, rfl⟩ := rng_at hd2
    rw [show (0 : Int) + ((i : Nat) : Int) = (i : Int) by omega]
    refine ⟨[SV.dat (D.fro (iL ns)), SV.own [D.int a, D.int b], C, z3, z4, z5, z6, z7, z8, .dat (.tup (iL x)), .dat (.tup (iL y)), .un, .dat (.int (i : Int))], [SV.dat (D.fro (iL ns)), SV.own [D.int a, D.int b], C, z3, z4, z5, z6, z7, z8, .dat (.tup (iL x)), .dat (.tup (iL y)), .un, .dat (.int (i : Int))], rfl, ?_, fun _ => ⟨[SV.dat (D.fro (iL ns)), SV.own [D.int a, D.int b], C, z3, z4, z5, z6, z7, z8, .dat (.tup (iL x)), .dat (.tup (iL y)), .un, .dat (.int (i : Int))], rfl, rfl⟩, fun _ => rfl⟩
    have i1 := at_iL (ns := x) (i := (i : Int)) (by omega) (by rw [hx]; omega)
    have i2 := at_iL (ns := y) (i := (i : Int)) (by omega) (by rw [hy]; omega)
    have v1 : mBin ixD (mVar 9) (mVar 12) [SV.dat (D.fro (iL ns)), SV.own [D.int a, D.int b], C, z3, z4, z5, z6, z7, z8, .dat (.tup (iL x)), .dat (.tup (iL y)), .un, .dat (.int (i : Int))] = some (.dat (.int (x.getD (i : Int).toNat 0)), [SV.dat (D.fro (iL ns)), SV.own [D.int a, D.int b], C, z3, z4, z5, z6, z7, z8, .dat (.tup (iL x)), .dat (.tup (iL y)), .un, .dat (.int (i : Int))]) :=
      un_eval (g := ixD) (x := .tup (iL x)) (y := .int (i : Int)) rfl rfl (by unfold ixD; exact i1)
    have v2 : mBin ixD (mVar 10) (mVar 12) [SV.dat (D.fro (iL ns)), SV.own [D.int a, D.int b], C, z3, z4, z5, z6, z7, z8, .dat (.tup (iL x)), .dat (.tup (iL y)), .un, .dat (.int (i : Int))] = some (.dat (.int (y.getD (i : Int).toNat 0)), [SV.dat (D.fro (iL ns)), SV.own [D.int a, D.int b], C, z3, z4, z5, z6, z7, z8, .dat (.tup (iL x)), .dat (.tup (iL y)), .un, .dat (.int (i : Int))]) :=
      un_eval (g := ixD) (x := .tup (iL y)) (y := .int (i : Int)) rfl rfl (by unfold ixD; exact i2)
    have v3 := un_eval v1 v2 (neD_int _ _)
    unfold mTest
    rw [v3]
    rfl) [SV.dat (D.fro (iL ns)), SV.own [D.int a, D.int b], C, z3, z4, z5, z6, z7, z8, (.dat (.tup (iL x))), (.dat (.tup (iL y))), (.un), SV.un] rfl
  have lc := lc_of hi e
  rw [hT] at lc
  refine bi1 (x := .lst (((rng 0 16).filter (pA x y)).map id)) ?_ ?_
  · unfold mF
    rw [lc]
    rfl
  · show some (D.int ((((rng 0 16).filter (pA x y)).map id).length : Int)) = _
    rw [apart_D x y hx hy]
theorem law_holds (ns : List Int) (hns : ns.length ≤ 63) : ∃ fin, m_law [.dat (.fro (iL ns))] = some (.bl true, fin) := by
  clear hns
  simp only [m_law, fnM, List.length_cons, List.length_nil, reduceIte, Nat.reduceAdd, Nat.reduceSub, List.cons_append, List.nil_append, List.replicate]
  rw [seq_nx (s1 := [SV.dat (D.fro (iL ns)), SV.own [D.int 0, D.int 0], (.un), (.un), (.un), (.un), (.un), (.un), (.un), (.un), (.un), (.un), SV.un]) (by walk_at "ev")]
  obtain ⟨d1, a1, b1, e1, l1, u1, ha1, hb1⟩ := draw_spec ns 0 0 2048 (by decide) (by decide) (by decide) (by decide)
  obtain ⟨d, a2, b2, e2, l2, u2, ha2, hb2⟩ := draw_spec ns a1 b1 4 ha1 hb1 (by decide) (by decide)
  obtain ⟨d2, e3, l3, u3⟩ := menu4 d l2 u2
  rw [seq_nx (s1 := [SV.dat (D.fro (iL ns)), SV.own [D.int a2, D.int b2], (.dat (.lst (iL [d1, d2]))), (.un), (.un), (.un), (.un), (.un), (.un), (.un), (.un), (.un), SV.un]) (by
    refine (asgL_of (q := iL [d1, d2]) (s1 := [SV.dat (D.fro (iL ns)), SV.own [D.int a2, D.int b2], (.un), (.un), (.un), (.un), (.un), (.un), (.un), (.un), (.un), (.un), SV.un]) ?_).trans rfl
    clear l1 u1 ha1 hb1 l2 u2 ha2 hb2 l3 u3
    walk_at "evs"
    rfl)]
  clear e1 e2 e3
  obtain ⟨y4, y5, y6, y7, y8, w1⟩ := body0 d1 l1 u1 ns a2 b2 (.dat (.lst (iL [d1, d2]))) .un .un .un .un .un
  obtain ⟨x4, x5, x6, x7, x8, w2⟩ := body0 d2 l3 u3 ns a2 b2 (.dat (.lst (iL [d1, d2]))) y4 y5 y6 y7 y8
  rw [seq_nx (s1 := [SV.dat (D.fro (iL ns)), SV.own [D.int a2, D.int b2], (.dat (.lst (iL [d1, d2]))), (.dat (.int d2)), x4, x5, x6, x7, x8, (.un), (.un), (.un), SV.un]) (by
    rw [for_it (xs := [.int d1, .int d2]) (s1 := [SV.dat (D.fro (iL ns)), SV.own [D.int a2, D.int b2], (.dat (.lst (iL [d1, d2]))), (.un), (.un), (.un), (.un), (.un), (.un), (.un), (.un), (.un), SV.un]) rfl]
    rw [forD_nx (t1 := [SV.dat (D.fro (iL ns)), SV.own [D.int a2, D.int b2], (.dat (.lst (iL [d1, d2]))), (.dat (.int d1)), (.un), (.un), (.un), (.un), (.un), (.un), (.un), (.un), SV.un]) rfl w1]
    rw [forD_nx (t1 := [SV.dat (D.fro (iL ns)), SV.own [D.int a2, D.int b2], (.dat (.lst (iL [d1, d2]))), (.dat (.int d2)), y4, y5, y6, y7, y8, (.un), (.un), (.un), SV.un]) rfl w2]
    rfl)]
  clear w1 w2
  have h1 := word_spec d1 l1
  have h2 := word_spec d2 l3
  obtain ⟨g1, _⟩ := wd_good d1 l1 u1
  obtain ⟨g2, _⟩ := wd_good d2 l3 u3
  have hf : d1 ≠ d2 → 4 ≤ (dif 0 (wd d1) (wd d2)).length := far g1 g2
  have hs : d1 = d2 → (dif 0 (wd d1) (wd d2)).length = 0 := fun e => by rw [e, dif_same]; rfl
  generalize wd d1 = w1 at *
  generalize wd d2 = w2 at *
  rw [seq_nx (s1 := [SV.dat (D.fro (iL ns)), SV.own [D.int a2, D.int b2], (.dat (.lst (iL [d1, d2]))), (.dat (.int d2)), x4, x5, x6, x7, x8, (.dat (.tup (iL w1))), (.dat (.tup (iL w2))), (.un), SV.un]) (by
    have i1 : atI (iL [d1, d2]) 0 = some (.int d1) := at_0 _ _
    have i2 : atI (iL [d1, d2]) 1 = some (.int d2) := at_1 _ _ _
    clear l1 u1 ha1 hb1 l2 u2 ha2 hb2 l3 u3 g1 g2 hf hs
    walk_at "evs")]
  have ap := apart_ok ns a2 b2 (.dat (.lst (iL [d1, d2]))) (.dat (.int d2)) x4 x5 x6 x7 x8 w1 w2 g1.len g2.len
  rw [seq_nx (asg_at (s2 := [SV.dat (D.fro (iL ns)), SV.own [D.int a2, D.int b2], (.dat (.lst (iL [d1, d2]))), (.dat (.int d2)), x4, x5, x6, x7, x8, (.dat (.tup (iL w1))), (.dat (.tup (iL w2))), (.dat (.int ((dif 0 w1 w2).length : Int))), SV.un]) ap rfl)]
  clear ap
  generalize (dif 0 w1 w2).length = n at *
  have q1 : mBin eqD (mBin ixD (mVar 2) (mC (.int 0))) (mBin ixD (mVar 2) (mC (.int 1))) [SV.dat (D.fro (iL ns)), SV.own [D.int a2, D.int b2], (.dat (.lst (iL [d1, d2]))), (.dat (.int d2)), x4, x5, x6, x7, x8, (.dat (.tup (iL w1))), (.dat (.tup (iL w2))), (.dat (.int (n : Int))), SV.un] = some (.dat (.bl (decide (d1 = d2))), [SV.dat (D.fro (iL ns)), SV.own [D.int a2, D.int b2], (.dat (.lst (iL [d1, d2]))), (.dat (.int d2)), x4, x5, x6, x7, x8, (.dat (.tup (iL w1))), (.dat (.tup (iL w2))), (.dat (.int (n : Int))), SV.un]) :=
    un_eval (x := .int d1) (y := .int d2) rfl rfl (eqD_int _ _)
  have q2 : mBin eqD (mVar 11) (mC (.int 0)) [SV.dat (D.fro (iL ns)), SV.own [D.int a2, D.int b2], (.dat (.lst (iL [d1, d2]))), (.dat (.int d2)), x4, x5, x6, x7, x8, (.dat (.tup (iL w1))), (.dat (.tup (iL w2))), (.dat (.int (n : Int))), SV.un] = some (.dat (.bl (decide ((n : Int) = 0))), [SV.dat (D.fro (iL ns)), SV.own [D.int a2, D.int b2], (.dat (.lst (iL [d1, d2]))), (.dat (.int d2)), x4, x5, x6, x7, x8, (.dat (.tup (iL w1))), (.dat (.tup (iL w2))), (.dat (.int (n : Int))), SV.un]) :=
    un_eval (x := .int (n : Int)) (y := .int 0) rfl rfl (eqD_int _ _)
  have q3 : mBin (cmpI geI) (mVar 11) (mC (.int 4)) [SV.dat (D.fro (iL ns)), SV.own [D.int a2, D.int b2], (.dat (.lst (iL [d1, d2]))), (.dat (.int d2)), x4, x5, x6, x7, x8, (.dat (.tup (iL w1))), (.dat (.tup (iL w2))), (.dat (.int (n : Int))), SV.un] = some (.dat (.bl (decide ((n : Int) ≥ 4))), [SV.dat (D.fro (iL ns)), SV.own [D.int a2, D.int b2], (.dat (.lst (iL [d1, d2]))), (.dat (.int d2)), x4, x5, x6, x7, x8, (.dat (.tup (iL w1))), (.dat (.tup (iL w2))), (.dat (.int (n : Int))), SV.un]) := rfl
  by_cases hd : d1 = d2
  · have := hs hd
    rw [decide_eq_true hd] at q1
    rw [decide_eq_true (by omega)] at q2
    rw [ret_ok (orV_t (by rw [andV_t q1]; exact q2))]
    exact ⟨_, rfl⟩
  · have := hf hd
    rw [decide_eq_false hd] at q1
    rw [decide_eq_true (by omega)] at q3
    rw [ret_ok ((orV_f (andV_f q1)).trans q3)]
    exact ⟨_, rfl⟩
end Mine

end
open PySem PySem.W PyProof.Rows in
set_option maxRecDepth 100000 in
set_option maxHeartbeats 0 in
theorem PySem.Challenge.cw_rangekeep_k20_whole_words_are_mended_holds : PySem.Challenge.rw_rangekeep_k20_whole_words_are_mended.Holds := by
  w_on; o_law; k_head; (case hw => w_witness2)
  k_fill
  refine L2.walk_of (l := PySem.Challenge.rw_rangekeep_k20_whole_words_are_mended) (n := 63) (k := 3) (x := "script") (CX := fun _ => L2.CX0) (sp := fun w => Mi.spM _ Mine.m_law) rfl (by decide) rfl ⟨rfl, by decide, by decide⟩ (fun w h Y => PySem.W.kIn_of Y) ?F (fun _ _ a ns hl _ hS => (Mine.law_holds ns hl).elim fun fin hm => Mi.sp_law hS hm) (fun _ _ _ _ _ h => h)
  case F =>
    intro w mg fa h KX G hmg
    refine' Mine.all_mk KX G hmg ?a0 ?l0 ?c0 ?k0 ?a1 ?l1 ?c1 ?k1 ?a2 ?l2 ?c2 ?k2 ?a3 ?l3 ?c3 ?k3 ?a4 ?l4 ?c4 ?k4 ?a5 ?l5 ?c5 ?k5 ?a6 ?l6 ?c6 ?k6 ?a7 ?l7 ?c7 ?k7 ?z_enumerate ?z_int ?z_isinstance ?z_len ?z_list ?z_range ?z_reversed ?z_sum ?z_tuple ?y_CELL_PLACES ?w_CELL_PLACES ?t_CELL_PLACES ?y_CHECK_PLACES ?w_CHECK_PLACES ?t_CHECK_PLACES ?y_SIZE
    (case a0 => k_is); (case l0 => k_is); (case c0 => k_is); (case k0 => k_is); (case a1 => k_is); (case l1 => k_is); (case c1 => k_is); (case k1 => k_is); (case a2 => k_is); (case l2 => k_is); (case c2 => k_is); (case k2 => k_is); (case a3 => k_is); (case l3 => k_is); (case c3 => k_is); (case k3 => k_is); (case a4 => k_is); (case l4 => k_is); (case c4 => k_is); (case k4 => k_is); (case a5 => k_is); (case l5 => k_is); (case c5 => k_is); (case k5 => k_is); (case a6 => k_is); (case l6 => k_is); (case c6 => k_is); (case k6 => k_is); (case a7 => k_is); (case l7 => k_is); (case c7 => k_is); (case k7 => k_is); (case z_enumerate => k_is); (case z_int => k_is); (case z_isinstance => k_is); (case z_len => k_is); (case z_list => k_is); (case z_range => k_is); (case z_reversed => k_is); (case z_sum => k_is); (case z_tuple => k_is); (case y_CELL_PLACES => k_is); (case w_CELL_PLACES => k_is); (case t_CELL_PLACES => decide +kernel); (case y_CHECK_PLACES => k_is); (case w_CHECK_PLACES => k_is); (case t_CHECK_PLACES => decide +kernel); (case y_SIZE => k_is)
