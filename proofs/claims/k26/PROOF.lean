import PyProof.Rows.All
import Wide.All
import OpenK.AllK
import Wide.FinOn
import PySem.Challenge.RW_rangekeep_k26_records_as_cells
import HandS.ForMost
import HandS.Evl
import HandS.Flow
import HandS.TupAny
import HandS.TupMul
import HandS.IsInst
import HandS.Zip
import HandS.Rev
import HandS.Style
import PyProof.Draws
import KE.GoesEnum
import KE.KTupSum
import HandS.OwnEq
import HandS.Wide
import HandS.WideMore
import HandS.Exc
import HandS.ExcOwn
import HandS.ExcInit
import HandS.ExcField
import HandS.TryOnly
import HandS.WordsExc
import KE.GoesZip
import KE.GoesMore
import HandS.Gcd
import HandS.Dict
import HandS.Deep
import PyProof.ListMulRoad
import PyProof.FactsAll.tuple_2
import HandS.SortInts
import KE.SortData
import HandS.Flt
import HandS.More
import HandS.SetKeys
import HandS.ListItems
import HandS.DictTup
import KE.KDictZip
import HandS.Strs
import HandS.SetFor
import PyProof.Rows.SetFrom
import HandS.Star
import KE.DataMinMax
import PyProof.SumAny
import HandS.Conv
set_option Elab.async false
set_option linter.all false
set_option maxRecDepth 100000
set_option maxHeartbeats 4000000
section
theorem keepG {G : Prop} (g : G) (_ : False → False) : G := g
local macro_rules | `(tactic| walk_at "zz") => `(tactic| (intro hf; simpa using (fun (_ : Int) => hf) ((by exact (5 : Nat) : (by exact Nat)) : Int)))

/-! The data layer: plain data D for what stands in the heap; stores of slots; what a reading makes of a store. -/
namespace Mi
open PySem PySem.Spec PyProof.Rows L2 Evl

inductive D where
  | non | bl (b : Bool) | int (i : Int) | str (x : Str) | tup (ds : List D) | lst (ds : List D) | fro (ds : List D) | ins (c : Nat) (ds : List D)
instance : Inhabited D := ⟨.non⟩
/-- the classes of the program: their names, their attributes as __init__ sets them -/
def clsTab : List (Str × List Str) := [("Clock", ["begin", "offset", "drift"]), ("Orbit", ["begin", "end", "place", "speed", "pull"]), ("Observation", ["sender", "point", "reading", "slack", "modulus"]),
  ("Stream", ["code", "amplitude", "first", "steps", "bits"]), ("Settings", ["codes", "amplitudes", "noise", "moving"]), ("Problem", ["observations", "box", "least", "greatest", "faults"]), ("Journey", ["moments", "speed", "drift", "misses"]), ("Chain", ["seed", "length"]), ("KeySender", ["_chain", "_step", "_delay"]), ("KeyReceiver", ["_length", "_step", "_delay", "_error", "_key", "_interval", "_tags"]), ("Plan", ["points", "box", "least", "greatest", "slack", "count"])]
def clsName (c : Nat) : Str := (clsTab.getD c ("", [])).1
def clsFlds (c : Nat) : List Str := (clsTab.getD c ("", [])).2

/-- the classes of what is raised -/
def excTab : List Str := ["InvalidCode", "InvalidBits", "InvalidFrame", "InvalidOrbit", "TooMany", "InvalidScript", "RangekeepError"]
def excName (c : Nat) : Str := excTab.getD c ""
/-- a tuple that stands, or that is a constant of the module -/
def SqM (K : PySem.W.Frag) (H : Hp) (a : Addr) (xs : List V) : Prop :=
  H a = some (.tup xs) ∨ ∃ (o : Obj) (its : Array Value) (n : Nat), K.lookup a = some o ∧ o.cls = .type "tuple" ∧ o.data = .seq its n ∧ its.size ≤ sizeLine ∧ Vals xs its.toList
theorem SqM.t {K : PySem.W.Frag} {H : Hp} {a : Addr} {xs : List V} : SqM K H a xs → SqT K H a xs
  | .inl h => .inl (.inl h)
  | .inr h => .inr h
theorem ex_m {K : PySem.W.Frag} {H H' : Hp} {a : Addr} {xs : List V} (e : Ex H H') : SqM K H a xs → SqM K H' a xs
  | .inl h => .inl (e _ _ h)
  | .inr h => .inr h
mutual
inductive Rep (K : PySem.W.Frag) (H : Hp) : V → D → Prop
  | non : Rep K H .non .non
  | bl (b : Bool) : Rep K H (.bl b) (.bl b)
  | int (i : Int) : Rep K H (.int i) (.int i)
  | str (x : Str) : Rep K H (.str x) (.str x)
  | tup {a : Addr} {xs : List V} {ds : List D} : SqM K H a xs → RepL K H xs ds → Rep K H (.ref a) (.tup ds)
  | lst {a : Addr} {xs : List V} {ds : List D} : H a = some (.lst xs) → RepL K H xs ds → Rep K H (.ref a) (.lst ds)
  | fro {a : Addr} {xs : List V} {ds : List D} : SqL K H a xs → RepL K H xs ds → Rep K H (.ref a) (.fro ds)
  | ins {a C dx : Addr} {fs : List (Str × V)} {c : Nat} {ds : List D} : PySem.W.nsIn K mainGlobals (clsName c) = some (some (.ref C)) → H a = some (.ins C dx fs) → fs.map (·.1) = clsFlds c → RepL K H (fs.map (·.2)) ds → Rep K H (.ref a) (.ins c ds)
inductive RepL (K : PySem.W.Frag) (H : Hp) : List V → List D → Prop
  | nil : RepL K H [] []
  | cons {v : V} {vs : List V} {d : D} {ds : List D} : Rep K H v d → RepL K H vs ds → RepL K H (v :: vs) (d :: ds)
end
section
variable {K : PySem.W.Frag} {H H' : Hp}
mutual
theorem Rep.mono (e : Ex H H') : ∀ (d : D) (v : V), Rep K H v d → Rep K H' v d
  | .non, _, h => by cases h; exact .non
  | .bl b, _, h => by cases h; exact .bl b
  | .int i, _, h => by cases h; exact .int i
  | .str x, _, h => by cases h; exact .str x
  | .tup ds, _, h => by cases h with | tup a b => exact .tup (ex_m e a) (RepL.mono e ds _ b)
  | .lst ds, _, h => by cases h with | lst a b => exact .lst (e _ _ a) (RepL.mono e ds _ b)
  | .fro ds, _, h => by cases h with | fro a b => exact .fro (ex_l e a) (RepL.mono e ds _ b)
  | .ins c ds, _, h => by cases h with | ins k a b c => exact .ins k (e _ _ a) b (RepL.mono e ds _ c)
theorem RepL.mono (e : Ex H H') : ∀ (ds : List D) (vs : List V), RepL K H vs ds → RepL K H' vs ds
  | [], _, h => by cases h; exact .nil
  | d :: ds, _, h => by cases h with | cons a b => exact .cons (Rep.mono e d _ a) (RepL.mono e ds _ b)
end
theorem Rep.up {v : V} {d : D} (h : Rep K H v d) (e : Ex H H') : Rep K H' v d := Rep.mono e d v h
theorem RepL.up {vs : List V} {ds : List D} (h : RepL K H vs ds) (e : Ex H H') : RepL K H' vs ds := RepL.mono e ds vs h
theorem RepL.len : ∀ {vs : List V} {ds : List D}, RepL K H vs ds → vs.length = ds.length
  | _, _, .nil => rfl
  | _, _, .cons _ t => by rw [List.length_cons, List.length_cons, RepL.len t]
theorem RepL.app : ∀ {vs ws : List V} {ds es : List D}, RepL K H vs ds → RepL K H ws es → RepL K H (vs ++ ws) (ds ++ es)
  | _, _, _, _, .nil, h => h
  | _, _, _, _, .cons a t, h => .cons a (RepL.app t h)
theorem RepL.get : ∀ {vs : List V} {ds : List D} {i : Nat} {d : D}, RepL K H vs ds → ds[i]? = some d → ∃ v, vs[i]? = some v ∧ Rep K H v d
  | _, _, _, _, .nil, e => by simp at e
  | _, _, 0, _, .cons a _, e => by simp at e; subst e; exact ⟨_, rfl, a⟩
  | _, _, i + 1, d, .cons _ t, e => by
    obtain ⟨v, h1, h2⟩ := RepL.get (i := i) (d := d) t (by simpa using e)
    exact ⟨v, by simpa using h1, h2⟩
theorem RepL.set {v : V} {d : D} (r : Rep K H v d) : ∀ {vs : List V} {ds : List D} (i : Nat), RepL K H vs ds → RepL K H (vs.set i v) (ds.set i d)
  | _, _, _, .nil => .nil
  | _, _, 0, .cons _ t => .cons r t
  | _, _, i + 1, .cons a t => .cons a (RepL.set r i t)
theorem RepL.take : ∀ {vs : List V} {ds : List D} (i : Nat), RepL K H vs ds → RepL K H (vs.take i) (ds.take i)
  | _, _, 0, _ => .nil
  | _, _, _ + 1, .nil => .nil
  | _, _, i + 1, .cons a t => .cons a (RepL.take i t)
theorem RepL.drop : ∀ {vs : List V} {ds : List D} (i : Nat), RepL K H vs ds → RepL K H (vs.drop i) (ds.drop i)
  | _, _, 0, r => r
  | _, _, _ + 1, .nil => .nil
  | _, _, i + 1, .cons _ t => RepL.drop i t
theorem RepL.rep : ∀ (n : Nat) {vs : List V} {ds : List D}, RepL K H vs ds → RepL K H (List.replicate n vs).flatten (List.replicate n ds).flatten
  | 0, _, _, _ => .nil
  | n + 1, _, _, r => by
    rw [List.replicate_succ, List.replicate_succ, List.flatten_cons, List.flatten_cons]
    exact r.app (RepL.rep n r)
theorem RepL.nilv {vs : List V} {ds : List D} (r : RepL K H vs ds) : vs = [] ↔ ds = [] := by
  refine keepG ?_ ?_
  cases r with
  | nil => exact ⟨fun _ => rfl, fun _ => rfl⟩
  | cons _ _ => exact ⟨fun z => (by cases z), fun z => (by cases z)⟩
  walk_at "zz"
/-- ints -/
def iL (ns : List Int) : List D := ns.map D.int
theorem RepL.toI : ∀ {vs : List V} {ns : List Int}, RepL K H vs (iL ns) → vs = ns.map V.int
  | _, [], h => by cases h; rfl
  | _, n :: ns, h => by
    cases h with
    | cons a t =>
      cases a
      rw [RepL.toI t]
      rfl
theorem RepL.of_ints : ∀ (ns : List Int), RepL K H (ns.map V.int) (iL ns)
  | [] => .nil
  | n :: ns => .cons (.int n) (RepL.of_ints ns)
end
end Mi

namespace Mi
open PySem PySem.Spec PyProof.Rows L2 Evl

/-- a thing of this def's own that is no list: a dict of ints and texts, a dict of tuples of these -/
inductive Box where
  | dic (kvs : List (Key × D)) | dct (kvs : List (List Key × D))
/-- a slot: nothing is said; a datum that stands still; a list of this def's own; the list that the def may change for its caller -/
inductive SV where
  | un | dat (d : D) | own (ds : List D) | par (ds : List D) | box (b : Box)
abbrev Sto := List SV
def SV.owns : SV → Bool
  | .own _ => true
  | .par _ => true
  | .box _ => true
  | _ => false
def SV.put : SV → List D → SV
  | .own _, ds => .own ds
  | .par _, ds => .par ds
  | x, _ => x
def SV.ls : SV → Option (List D)
  | .own ds => some ds
  | .par ds => some ds
  | _ => none
/-- what an expression gives: a datum, or the list at a slot -/
inductive Bv where
  | dat (d : D) | slot (j : Nat)
/-- what must stand (P), what stood still at the start (B), the list that may change (os) -/
structure Fr where
  P : Hp
  B : Hp
  os : Option Addr

section
variable (K : PySem.W.Frag)
inductive RepP {κ : Type} (Hb : Hp) : List (κ × V) → List (κ × D) → Prop where
  | nil : RepP Hb [] []
  | cons {k : κ} {v : V} {d : D} {vs : List (κ × V)} {ds : List (κ × D)} : Rep K Hb v d → RepP Hb vs ds → RepP Hb ((k, v) :: vs) ((k, d) :: ds)
def BoxOk (Hb : Hp) : HO → Box → Prop
  | .dK kvs, .dic es => RepP K Hb kvs es
  | .dT kvs, .dct es => RepP K Hb kvs es
  | _, _ => False
def SVok (f : Fr) (H Hb : Hp) : SV → Option V → Prop
  | .un, _ => True
  | .dat d, o => ∃ v, o = some v ∧ Rep K Hb v d
  | .own ds, o => ∃ l vs, o = some (.ref l) ∧ Hb l = none ∧ f.P l = none ∧ f.os ≠ some l ∧ H l = some (.lst vs) ∧ RepL K Hb vs ds
  | .par ds, o => ∃ l vs, o = some (.ref l) ∧ Hb l = none ∧ f.os = some l ∧ H l = some (.lst vs) ∧ RepL K Hb vs ds
  | .box b, o => ∃ l u, o = some (.ref l) ∧ Hb l = none ∧ f.P l = none ∧ f.os ≠ some l ∧ H l = some u ∧ BoxOk K Hb u b
structure Rw (f : Fr) (σ : L2.St) (H : Hp) (s : Sto) (Hb : Hp) : Prop where
  hb : Ex Hb H
  up : Ex f.B Hb
  ag : ∀ a, f.P a ≠ none → (∀ xs, f.P a ≠ some (.tup xs)) → Hb a = f.B a
  kp : ∀ a o, f.P a = some o → H a = some o
  os : ∀ l, f.os = some l → Hb l = none ∧ f.P l = none ∧ ∃ vs, H l = some (.lst vs)
  len : s.length = σ.length
  ok : ∀ (i : Nat) (sv : SV) (o : Option V), s[i]? = some sv → σ[i]? = some o → SVok K f H Hb sv o
  dist : ∀ (i j : Nat) (si sj : SV), i ≠ j → s[i]? = some si → s[j]? = some sj → si.owns = true → sj.owns = true → σ[i]? ≠ σ[j]?
/-- the value of a Bv -/
def RepB (σ : L2.St) (Hb : Hp) (v : V) : Bv → Prop
  | .dat d => Rep K Hb v d
  | .slot j => σ[j]? = some (some v)
end
section
variable {K : PySem.W.Frag} {f : Fr} {σ : L2.St} {H H' Hb Hb' : Hp} {s : Sto}
theorem nt_l {l : Addr} {vs : List V} (h : H l = some (.lst vs)) : ∀ xs, H l ≠ some (.tup xs) := fun xs z => by rw [h] at z; cases z
theorem nt_b {l : Addr} {u : HO} {b : Box} (h : H l = some u) (k : BoxOk K Hb u b) : ∀ xs, H l ≠ some (.tup xs) := fun xs z => by
  rw [h] at z
  cases z
  cases b <;> exact k
theorem Rw.nt (R : Rw K f σ H s Hb) {a : Addr} (ha : f.P a ≠ none) (hx : ∀ xs, f.P a ≠ some (.tup xs)) : H a ≠ none ∧ ∀ xs, H a ≠ some (.tup xs) := by
  refine keepG ?_ ?_
  cases q : f.P a with
  | none => exact absurd q ha
  | some o =>
    have := R.kp a o q
    refine ⟨by rw [this]; simp, fun xs z => ?_⟩
    rw [this] at z
    cases z
    exact hx xs q
  walk_at "zz"
theorem RepP.up {κ : Type} (e : Ex Hb Hb') : ∀ {vs : List (κ × V)} {ds : List (κ × D)}, RepP K Hb vs ds → RepP K Hb' vs ds
  | _, _, .nil => .nil
  | _, _, .cons r t => .cons (Rep.up r e) (RepP.up e t)
theorem BoxOk.up {u : HO} {b : Box} (h : BoxOk K Hb u b) (e : Ex Hb Hb') : BoxOk K Hb' u b := by
  refine keepG ?_ ?_
  cases u <;> cases b <;> first | exact RepP.up e h | exact h.elim
  walk_at "zz"
theorem Rw.slot (R : Rw K f σ H s Hb) {i : Nat} {sv : SV} (h : s[i]? = some sv) : ∃ o, σ[i]? = some o ∧ SVok K f H Hb sv o := by
  refine keepG ?_ ?_
  have hl : i < s.length := (List.getElem?_eq_some_iff.mp h).1
  have h2 : i < σ.length := by rw [← R.len]; exact hl
  exact ⟨_, List.getElem?_eq_getElem h2, R.ok i sv _ h (List.getElem?_eq_getElem h2)⟩
  walk_at "zz"
/-- a list of a slot: where it stands -/
theorem Rw.list (R : Rw K f σ H s Hb) {j : Nat} {sv : SV} {ds : List D} (h : s[j]? = some sv) (hs : sv.ls = some ds) :
    ∃ l vs, σ[j]? = some (some (.ref l)) ∧ Hb l = none ∧ f.P l = none ∧ H l = some (.lst vs) ∧ RepL K Hb vs ds := by
  refine keepG ?_ ?_
  obtain ⟨o, ho, k⟩ := R.slot h
  cases sv with
  | un => cases hs
  | dat d => cases hs
  | box b => cases hs
  | own es =>
    cases hs
    obtain ⟨l, vs, rfl, h1, h2, _, h3, h4⟩ := k
    exact ⟨l, vs, ho, h1, h2, h3, h4⟩
  | par es =>
    cases hs
    obtain ⟨l, vs, rfl, h1, h2, h3, h4⟩ := k
    exact ⟨l, vs, ho, h1, (R.os l h2).2.1, h3, h4⟩
  walk_at "zz"
theorem Rw.owned (R : Rw K f σ H s Hb) {j : Nat} {sv : SV} (h : s[j]? = some sv) (o : sv.owns = true) : ∃ l u, σ[j]? = some (some (.ref l)) ∧ Hb l = none ∧ f.P l = none ∧ H l = some u := by
  refine keepG ?_ ?_
  obtain ⟨ov, ho, k⟩ := R.slot h
  cases sv with
  | un => cases o
  | dat d => cases o
  | own es =>
    obtain ⟨l, vs, rfl, h1, h2, _, h3, h4⟩ := k
    exact ⟨l, _, ho, h1, h2, h3⟩
  | par es =>
    obtain ⟨l, vs, rfl, h1, h2, h3, h4⟩ := k
    exact ⟨l, _, ho, h1, (R.os l h2).2.1, h3⟩
  | box b =>
    obtain ⟨l, u, rfl, h1, h2, _, h3, h4⟩ := k
    exact ⟨l, _, ho, h1, h2, h3⟩
  walk_at "zz"
theorem Rw.fresh (R : Rw K f σ H s Hb) {p : Addr} (h : H p = none) : Hb p = none ∧ f.P p = none ∧ f.os ≠ some p := by
  refine keepG ?_ ?_
  refine ⟨fresh_back R.hb h, ?_, fun e => ?_⟩
  · cases q : f.P p with
    | none => rfl
    | some o =>
      have := R.kp p o q
      rw [h] at this
      cases this
  · obtain ⟨_, _, vs, hv⟩ := R.os p e
    rw [h] at hv
    cases hv
  walk_at "zz"
/-- the heap grows; what stood stands -/
theorem Rw.step (R : Rw K f σ H s Hb) (e1 : Ex Hb Hb') (e2 : Ex Hb' H') (ag : ∀ a, H a ≠ none → (∀ xs, H a ≠ some (.tup xs)) → Hb' a = Hb a) (kp : Ex H H') : Rw K f σ H' s Hb' where
  hb := e2
  up := R.up.trans e1
  ag := fun a ha hx => by
    rw [ag a (R.nt ha hx).1 (R.nt ha hx).2]
    exact R.ag a ha hx
  kp := fun a o h => kp a o (R.kp a o h)
  os := fun l h => by
    obtain ⟨h1, h2, vs, h3⟩ := R.os l h
    exact ⟨by rw [ag l (by rw [h3]; simp) (nt_l h3)]; exact h1, h2, vs, kp _ _ h3⟩
  len := R.len
  ok := fun i sv o h1 h2 => by
    have k := R.ok i sv o h1 h2
    cases sv with
    | un => trivial
    | dat d =>
      obtain ⟨v, rfl, r⟩ := k
      exact ⟨v, rfl, r.up e1⟩
    | box b0 =>
      obtain ⟨l, vs, rfl, a1, a2, a3, a4, a5⟩ := k
      exact ⟨l, vs, rfl, by rw [ag l (by rw [a4]; simp) (nt_b a4 a5)]; exact a1, a2, a3, kp _ _ a4, a5.up e1⟩
    | own ds =>
      obtain ⟨l, vs, rfl, a1, a2, a3, a4, a5⟩ := k
      exact ⟨l, vs, rfl, by rw [ag l (by rw [a4]; simp) (nt_l a4)]; exact a1, a2, a3, kp _ _ a4, a5.up e1⟩
    | par ds =>
      obtain ⟨l, vs, rfl, a1, a2, a4, a5⟩ := k
      exact ⟨l, vs, rfl, by rw [ag l (by rw [a4]; simp) (nt_l a4)]; exact a1, a2, kp _ _ a4, a5.up e1⟩
  dist := R.dist
/-- a new thing that stands still -/
theorem Rw.new (R : Rw K f σ H s Hb) {p : Addr} (o : HO) (h : H p = none) : Ex Hb (upd Hb p o) ∧ Rw K f σ (upd H p o) s (upd Hb p o) := by
  refine keepG ?_ ?_
  have h1 := (R.fresh h).1
  have e1 : Ex Hb (upd Hb p o) := Ex.new h1
  refine ⟨e1, R.step e1 (fun a u e => ?_) (fun a ha _ => upd_ne fun z => ha (by rw [z]; exact h)) (Ex.new h)⟩
  by_cases hp : a = p
  · subst hp
    rw [upd_same] at e ⊢
    exact e
  · rw [upd_ne hp] at e ⊢
    exact R.hb a u e
  walk_at "zz"
/-- a slot takes a datum -/
theorem Rw.set (R : Rw K f σ H s Hb) (i : Nat) {v : V} {d : D} (r : Rep K Hb v d) : Rw K f (σ.set i (some v)) H (s.set i (.dat d)) Hb where
  hb := R.hb
  up := R.up
  ag := R.ag
  kp := R.kp
  os := R.os
  len := by rw [List.length_set, List.length_set]; exact R.len
  ok := fun j sv o h1 h2 => by
    by_cases e : i = j
    · subst e
      have hl : i < s.length := by
        have := (List.getElem?_eq_some_iff.mp h1).1
        rw [List.length_set] at this
        exact this
      rw [List.getElem?_set_self hl] at h1
      rw [List.getElem?_set_self (by rw [← R.len]; exact hl)] at h2
      cases h1
      cases h2
      exact ⟨v, rfl, r⟩
    · rw [List.getElem?_set_ne e] at h1 h2
      exact R.ok j sv o h1 h2
  dist := fun a b sa sb hab ha hb oa ob => by
    have na : i ≠ a := fun e => by
      subst e
      have hl : i < s.length := by
        have := (List.getElem?_eq_some_iff.mp ha).1
        rw [List.length_set] at this
        exact this
      rw [List.getElem?_set_self hl] at ha
      cases ha
      cases oa
    have nb : i ≠ b := fun e => by
      subst e
      have hl : i < s.length := by
        have := (List.getElem?_eq_some_iff.mp hb).1
        rw [List.length_set] at this
        exact this
      rw [List.getElem?_set_self hl] at hb
      cases hb
      cases ob
    rw [List.getElem?_set_ne na] at ha ⊢
    rw [List.getElem?_set_ne nb] at hb ⊢
    exact R.dist a b sa sb hab ha hb oa ob
/-- a new list that the slot i owns -/
theorem Rw.setOwn (R : Rw K f σ H s Hb) (i : Nat) {p : Addr} {vs : List V} {ds : List D} (h0 : Hb p = none) (h1 : f.P p = none) (h2 : f.os ≠ some p) (h3 : H p = some (.lst vs)) (h4 : RepL K Hb vs ds)
    (h5 : ∀ (j : Nat) (sv : SV), s[j]? = some sv → sv.owns = true → σ[j]? ≠ some (some (.ref p))) : Rw K f (σ.set i (some (.ref p))) H (s.set i (.own ds)) Hb where
  hb := R.hb
  up := R.up
  ag := R.ag
  kp := R.kp
  os := R.os
  len := by rw [List.length_set, List.length_set]; exact R.len
  ok := fun j sv o g1 g2 => by
    by_cases e : i = j
    · subst e
      have hl : i < s.length := by
        have := (List.getElem?_eq_some_iff.mp g1).1
        rw [List.length_set] at this
        exact this
      rw [List.getElem?_set_self hl] at g1
      rw [List.getElem?_set_self (by rw [← R.len]; exact hl)] at g2
      cases g1
      cases g2
      exact ⟨p, vs, rfl, h0, h1, h2, h3, h4⟩
    · rw [List.getElem?_set_ne e] at g1 g2
      exact R.ok j sv o g1 g2
  dist := fun a b sa sb hab ha hb oa ob => by
    by_cases na : i = a
    · subst na
      have nb : i ≠ b := hab
      have hl : i < s.length := by
        have := (List.getElem?_eq_some_iff.mp ha).1
        rw [List.length_set] at this
        exact this
      rw [List.getElem?_set_ne nb] at hb ⊢
      rw [List.getElem?_set_self (by rw [← R.len]; exact hl)]
      exact fun e => h5 b sb hb ob e.symm
    · by_cases nb : i = b
      · subst nb
        have hl : i < s.length := by
          have := (List.getElem?_eq_some_iff.mp hb).1
          rw [List.length_set] at this
          exact this
        rw [List.getElem?_set_ne na] at ha ⊢
        rw [List.getElem?_set_self (by rw [← R.len]; exact hl)]
        exact h5 a sa ha oa
      · rw [List.getElem?_set_ne na] at ha ⊢
        rw [List.getElem?_set_ne nb] at hb ⊢
        exact R.dist a b sa sb hab ha hb oa ob
/-- the list of the slot j changes, whatever else grows -/
theorem Rw.stepAt (R : Rw K f σ H s Hb) {j : Nat} {sv : SV} {es ds : List D} {l : Addr} {vs : List V} (hj : s[j]? = some sv) (hs : sv.ls = some es) (hl : σ[j]? = some (some (.ref l)))
    (e1 : Ex Hb Hb') (e2 : Ex Hb' H') (ag : ∀ a, H a ≠ none → (∀ xs, H a ≠ some (.tup xs)) → Hb' a = Hb a) (kp : ∀ a o, a ≠ l → H a = some o → H' a = some o) (h1 : H' l = some (.lst vs)) (h2 : RepL K Hb' vs ds) :
    Rw K f σ H' (s.set j (sv.put ds)) Hb' := by
  refine keepG ?_ ?_
  have hjl : j < s.length := (List.getElem?_eq_some_iff.mp hj).1
  obtain ⟨l', vs', q1, q2, q3, q4, q5⟩ := R.list hj hs
  rw [hl] at q1
  cases q1
  have ow : sv.owns = true := by cases sv <;> first | rfl | cases hs
  refine ⟨e2, R.up.trans e1, fun a ha hx => ?_, fun a o h => ?_, fun k h => ?_, ?_, fun i sv2 o g1 g2 => ?_, fun a b sa sb hab ha hb oa ob => ?_⟩
  · rw [ag a (R.nt ha hx).1 (R.nt ha hx).2]
    exact R.ag a ha hx
  · exact kp a o (fun z => by rw [z, q3] at h; cases h) (R.kp a o h)
  · obtain ⟨k1, k2, ws, k3⟩ := R.os k h
    refine ⟨by rw [ag k (by rw [k3]; simp) (nt_l k3)]; exact k1, k2, ?_⟩
    by_cases e : k = l
    · subst e; exact ⟨vs, h1⟩
    · exact ⟨ws, kp _ _ e k3⟩
  · rw [List.length_set]; exact R.len
  · by_cases e : j = i
    · subst e
      rw [List.getElem?_set_self hjl] at g1
      cases g1
      rw [hl] at g2
      cases g2
      have k := R.ok j sv _ hj hl
      cases sv with
      | un => cases hs
      | dat d => cases hs
      | box b0 => cases hs
      | own d0 =>
        obtain ⟨l2, vs2, e0, a1, a2, a3, a4, a5⟩ := k
        cases e0
        exact ⟨_, vs, rfl, by rw [ag _ (by rw [a4]; simp) (nt_l a4)]; exact a1, a2, a3, h1, h2⟩
      | par d0 =>
        obtain ⟨l2, vs2, e0, a1, a2, a4, a5⟩ := k
        cases e0
        exact ⟨_, vs, rfl, by rw [ag _ (by rw [a4]; simp) (nt_l a4)]; exact a1, a2, h1, h2⟩
    · rw [List.getElem?_set_ne e] at g1
      have k := R.ok i sv2 o g1 g2
      cases sv2 with
      | un => trivial
      | dat d =>
        obtain ⟨v, rfl, r⟩ := k
        exact ⟨v, rfl, r.up e1⟩
      | box b0 =>
        obtain ⟨l2, vs2, rfl, a1, a2, a3, a4, a5⟩ := k
        have ne : l2 ≠ l := fun z => R.dist i j _ sv (fun q => e q.symm) g1 hj rfl ow (by rw [g2, hl, z])
        exact ⟨l2, vs2, rfl, by rw [ag l2 (by rw [a4]; simp) (nt_b a4 a5)]; exact a1, a2, a3, kp _ _ ne a4, a5.up e1⟩
      | own d0 =>
        obtain ⟨l2, vs2, rfl, a1, a2, a3, a4, a5⟩ := k
        have ne : l2 ≠ l := fun z => R.dist i j _ sv (fun q => e q.symm) g1 hj rfl ow (by rw [g2, hl, z])
        exact ⟨l2, vs2, rfl, by rw [ag l2 (by rw [a4]; simp) (nt_l a4)]; exact a1, a2, a3, kp _ _ ne a4, a5.up e1⟩
      | par d0 =>
        obtain ⟨l2, vs2, rfl, a1, a2, a4, a5⟩ := k
        have ne : l2 ≠ l := fun z => R.dist i j _ sv (fun q => e q.symm) g1 hj rfl ow (by rw [g2, hl, z])
        exact ⟨l2, vs2, rfl, by rw [ag l2 (by rw [a4]; simp) (nt_l a4)]; exact a1, a2, kp _ _ ne a4, a5.up e1⟩
  · have own2 : ∀ (c : Nat) (sc : SV), (s.set j (sv.put ds))[c]? = some sc → sc.owns = true → ∃ sc', s[c]? = some sc' ∧ sc'.owns = true := fun c sc h o => by
      by_cases e : j = c
      · subst e; exact ⟨sv, hj, ow⟩
      · rw [List.getElem?_set_ne e] at h
        exact ⟨sc, h, o⟩
    obtain ⟨sa', ha', oa'⟩ := own2 a sa ha oa
    obtain ⟨sb', hb', ob'⟩ := own2 b sb hb ob
    exact R.dist a b sa' sb' hab ha' hb' oa' ob'
  walk_at "zz"
/-- the list of the slot j stands still from here on -/
theorem Rw.freeze (R : Rw K f σ H s Hb) {j : Nat} {ds : List D} (hj : s[j]? = some (.own ds)) :
    ∃ l vs, σ[j]? = some (some (.ref l)) ∧ H l = some (.lst vs) ∧ Ex Hb (upd Hb l (.lst vs)) ∧ Rep K (upd Hb l (.lst vs)) (.ref l) (.lst ds) ∧ Rw K f σ H (s.set j (.dat (.lst ds))) (upd Hb l (.lst vs)) := by
  refine keepG ?_ ?_
  obtain ⟨o, ho, l, vs, rfl, h1, h2, h3, h4, h5⟩ := R.slot hj
  have hjl : j < s.length := (List.getElem?_eq_some_iff.mp hj).1
  have e1 : Ex Hb (upd Hb l (.lst vs)) := Ex.new h1
  have rp : Rep K (upd Hb l (.lst vs)) (.ref l) (.lst ds) := .lst upd_same (h5.up e1)
  refine ⟨l, vs, ho, h4, e1, rp, ⟨fun a u e => ?_, R.up.trans e1, fun a ha hx => ?_, R.kp, fun k hk => ?_, ?_, fun i sv o g1 g2 => ?_, fun a b sa sb hab ha hb oa ob => ?_⟩⟩
  · by_cases q : a = l
    · subst q
      rw [upd_same] at e
      cases e
      exact h4
    · rw [upd_ne q] at e
      exact R.hb a u e
  · rw [upd_ne (fun z => ha (by rw [z]; exact h2))]
    exact R.ag a ha hx
  · obtain ⟨k1, k2, k3⟩ := R.os k hk
    exact ⟨by rw [upd_ne (fun z => h3 (by rw [hk, z]))]; exact k1, k2, k3⟩
  · rw [List.length_set]; exact R.len
  · by_cases e : j = i
    · subst e
      rw [List.getElem?_set_self hjl] at g1
      cases g1
      rw [ho] at g2
      cases g2
      exact ⟨_, rfl, rp⟩
    · rw [List.getElem?_set_ne e] at g1
      have k := R.ok i sv o g1 g2
      cases sv with
      | un => trivial
      | dat d =>
        obtain ⟨v, rfl, r⟩ := k
        exact ⟨v, rfl, r.up e1⟩
      | box b0 =>
        obtain ⟨l2, vs2, rfl, a1, a2, a3, a4, a5⟩ := k
        have ne : l2 ≠ l := fun z => R.dist i j _ _ (fun q => e q.symm) g1 hj rfl rfl (by rw [g2, ho, z])
        exact ⟨l2, vs2, rfl, by rw [upd_ne ne]; exact a1, a2, a3, a4, a5.up e1⟩
      | own d0 =>
        obtain ⟨l2, vs2, rfl, a1, a2, a3, a4, a5⟩ := k
        have ne : l2 ≠ l := fun z => R.dist i j _ _ (fun q => e q.symm) g1 hj rfl rfl (by rw [g2, ho, z])
        exact ⟨l2, vs2, rfl, by rw [upd_ne ne]; exact a1, a2, a3, a4, a5.up e1⟩
      | par d0 =>
        obtain ⟨l2, vs2, rfl, a1, a2, a4, a5⟩ := k
        have ne : l2 ≠ l := fun z => R.dist i j _ _ (fun q => e q.symm) g1 hj rfl rfl (by rw [g2, ho, z])
        exact ⟨l2, vs2, rfl, by rw [upd_ne ne]; exact a1, a2, a4, a5.up e1⟩
  · have na : ∀ (c : Nat) (sc : SV), (s.set j (.dat (.lst ds)))[c]? = some sc → sc.owns = true → s[c]? = some sc := fun c sc h o => by
      by_cases e : j = c
      · subst e
        rw [List.getElem?_set_self hjl] at h
        cases h
        cases o
      · rw [List.getElem?_set_ne e] at h
        exact h
    exact R.dist a b sa sb hab (na a sa ha oa) (na b sb hb ob) oa ob
  walk_at "zz"
end
end Mi

namespace Mi
open PySem PySem.Spec PyProof.Rows L2 Evl

abbrev ME := Sto → Option (Bv × Sto)
abbrev MT := Sto → Option (Bool × Sto)
abbrev MA := Sto → Option (List Bv × Sto)
abbrev MF := Sto → Option (List D × Sto)
abbrev MI := Sto → Option (List D × Sto)
abbrev MG := D → Sto → Option Sto
inductive Out where
  | nx | rt (d : D) | bk | ct | ex (c : Nat) (n : Int)
abbrev MS := Sto → Option (Out × Sto)
abbrev Mf := List SV → Option (D × Option (List D))

/-- the datum of a Bv as it stands | made to stand still -/
def look (s : Sto) : Bv → Option D
  | .dat d => some d
  | .slot j => match s[j]? with
    | some (.dat d) => some d
    | some (.own ds) => some (.lst ds)
    | some (.par ds) => some (.lst ds)
    | _ => none
def frz (s : Sto) : Bv → Option (D × Sto)
  | .dat d => some (d, s)
  | .slot j => match s[j]? with
    | some (.dat d) => some (d, s)
    | some (.own ds) => some (.lst ds, s.set j (.dat (.lst ds)))
    | _ => none
def frzs : Sto → List Bv → Option (List D × Sto)
  | s, [] => some ([], s)
  | s, b :: bs => (frz s b).bind fun r => (frzs r.2 bs).bind fun q => some (r.1 :: q.1, q.2)
def looks (s : Sto) : List Bv → Option (List D)
  | [] => some []
  | b :: bs => (look s b).bind fun d => (looks s bs).bind fun ds => some (d :: ds)
def D.scal : D → Bool
  | .non => true | .bl _ => true | .int _ => true | .str _ => true | _ => false
def D.seqL : D → Option (List D)
  | .lst ds => some ds | .fro ds => some ds | _ => none
def D.seqT : D → Option (List D)
  | .tup ds => some ds | _ => none

section
variable (K : PySem.W.Frag)
/-- the value of a datum that is just looked at: it stands still, or it is the list of a slot -/
def RepC (H Hb : Hp) (v : V) (d : D) : Prop := Rep K Hb v d ∨ ∃ l vs ds, v = .ref l ∧ d = .lst ds ∧ H l = some (.lst vs) ∧ RepL K Hb vs ds
def RepBs (σ : L2.St) (Hb : Hp) : List V → List Bv → Prop
  | [], [] => True
  | v :: vs, b :: bs => RepB K σ Hb v b ∧ RepBs σ Hb vs bs
  | _, _ => False
def RepCs (H Hb : Hp) : List V → List D → Prop
  | [], [] => True
  | v :: vs, d :: ds => RepC K H Hb v d ∧ RepCs H Hb vs ds
  | _, _ => False
def SndE (te : TE) (m : ME) : Prop := ∀ f σ H s Hb b s', Rw K f σ H s Hb → m s = some (b, s') → ∀ Q : VK, (∀ v H' Hb', Ex Hb Hb' → Rw K f σ H' s' Hb' → RepB K σ Hb' v b → Q v H') → te σ H Q
def SndT (tt : TT) (m : MT) : Prop := ∀ f σ H s Hb b s', Rw K f σ H s Hb → m s = some (b, s') → ∀ Q : Bool → Hp → Prop, (∀ H' Hb', Ex Hb Hb' → Rw K f σ H' s' Hb' → Q b H') → tt σ H Q
def SndA (ta : TA) (m : MA) : Prop := ∀ f σ H s Hb b s', Rw K f σ H s Hb → m s = some (b, s') → ∀ Q : List V → Hp → Prop, (∀ v H' Hb', Ex Hb Hb' → Rw K f σ H' s' Hb' → RepBs K σ Hb' v b → Q v H') → ta σ H Q
/-- a list that is new -/
structure NewL (f : Fr) (σ : L2.St) (H : Hp) (s : Sto) (Hb : Hp) (p : Addr) (ds : List D) : Prop where
  h0 : Hb p = none
  h1 : f.P p = none
  h2 : f.os ≠ some p
  h3 : ∃ vs, H p = some (.lst vs) ∧ RepL K Hb vs ds
  h5 : ∀ (j : Nat) (sv : SV), s[j]? = some sv → sv.owns = true → σ[j]? ≠ some (some (.ref p))
def SndF (te : TE) (m : MF) : Prop := ∀ f σ H s Hb b s', Rw K f σ H s Hb → m s = some (b, s') → ∀ Q : VK, (∀ p H' Hb', Ex Hb Hb' → Rw K f σ H' s' Hb' → NewL K f σ H' s' Hb' p b → Q (.ref p) H') → te σ H Q
def SndO (to : TO) (m : Sto → Option (Option Int × Sto)) : Prop := ∀ f σ H s Hb b s', Rw K f σ H s Hb → m s = some (b, s') → ∀ Q : Option Int → Hp → Prop, (∀ H' Hb', Ex Hb Hb' → Rw K f σ H' s' Hb' → Q b H') → to σ H Q
/-- an operation by values: r's answer is g's -/
def SndR (r : R2) (g : D → D → Option D) : Prop := ∀ H Hb v w x y z, Ex Hb H → RepC K H Hb v x → RepC K H Hb w y → g x y = some z → ∀ Q : VK, (∀ v', Rep K Hb v' z → Q v' H) → (∀ p o, H p = none → Rep K (upd Hb p o) (.ref p) z → Q (.ref p) (upd H p o)) → r v w H Q
def SndU (r : V → Hp → VK → Prop) (g : D → Option D) : Prop := ∀ H Hb v x z, Ex Hb H → RepC K H Hb v x → g x = some z → ∀ Q : VK, (∀ v', Rep K Hb v' z → Q v' H) → (∀ p o, H p = none → Rep K (upd Hb p o) (.ref p) z → Q (.ref p) (upd H p o)) → r v H Q
def SndC (r : List V → Hp → VK → Prop) (g : List D → Option D) : Prop := ∀ H Hb vs xs z, Ex Hb H → RepCs K H Hb vs xs → g xs = some z → ∀ Q : VK, (∀ v', Rep K Hb v' z → Q v' H) → (∀ p o, H p = none → Rep K (upd Hb p o) (.ref p) z → Q (.ref p) (upd H p o)) → r vs H Q
/-- .. whose answer is a new list -/
def SndRF (r : R2) (g : D → D → Option (List D)) : Prop := ∀ H Hb v w x y z, Ex Hb H → RepC K H Hb v x → RepC K H Hb w y → g x y = some z → ∀ Q : VK, (∀ p vs, H p = none → RepL K Hb vs z → Q (.ref p) (upd H p (.lst vs))) → r v w H Q
def SndCF (r : List V → Hp → VK → Prop) (g : List D → Option (List D)) : Prop := ∀ H Hb vs xs z, Ex Hb H → RepCs K H Hb vs xs → g xs = some z → ∀ Q : VK, (∀ p vs, H p = none → RepL K Hb vs z → Q (.ref p) (upd H p (.lst vs))) → r vs H Q
def SndSl (r : V → Option Int → Option Int → Hp → VK → Prop) (g : D → Option Int → Option Int → Option D) : Prop := ∀ H Hb v x lo hi z, Ex Hb H → RepC K H Hb v x → g x lo hi = some z → ∀ Q : VK, (∀ v', Rep K Hb v' z → Q v' H) → (∀ p o, H p = none → Rep K (upd Hb p o) (.ref p) z → Q (.ref p) (upd H p o)) → r v lo hi H Q
def SndSlF (r : V → Option Int → Option Int → Hp → VK → Prop) (g : D → Option Int → Option Int → Option (List D)) : Prop := ∀ H Hb v x lo hi z, Ex Hb H → RepC K H Hb v x → g x lo hi = some z → ∀ Q : VK, (∀ p vs, H p = none → RepL K Hb vs z → Q (.ref p) (upd H p (.lst vs))) → r v lo hi H Q
end
/-- a piece of the text, its reading, what it makes -/
structure PX (X : Cx) (e : Expr) (te : TE) (m : ME) : Prop where
  pe : PE X e te
  sn : SndE X.K te m
structure PXT (X : Cx) (e : Expr) (te : TT) (m : MT) : Prop where
  pe : PT X e te
  sn : SndT X.K te m
structure PXW (X : Cx) (e : Expr) (te : TT) (m : MT) : Prop where
  pe : PW X e te
  sn : SndT X.K te m
structure PXA (X : Cx) (es : List Expr) (ta : TA) (m : MA) : Prop where
  pe : PA X es ta
  sn : SndA X.K ta m
structure PXF (X : Cx) (e : Expr) (te : TE) (m : MF) : Prop where
  pe : PE X e te
  sn : SndF X.K te m
structure PXO (X : Cx) (e : Option Expr) (to : TO) (m : Sto → Option (Option Int × Sto)) : Prop where
  pe : PO X e to
  sn : SndO X.K to m

section
variable {K : PySem.W.Frag} {f : Fr} {σ : L2.St} {H H' Hb Hb' : Hp} {s s' : Sto}
theorem bnd {α β : Type} {o : Option α} {g : α → Option β} {z : β} (h : o.bind g = some z) : ∃ x, o = some x ∧ g x = some z := by
  refine keepG ?_ ?_
  cases o with
  | none => cases h
  | some x => exact ⟨x, rfl, h⟩
  walk_at "zz"
theorem Rep.sc {v : V} {d : D} (h : Rep K H v d) (hs : d.scal = true) (H2 : Hp) : Rep K H2 v d := by
  refine keepG ?_ ?_
  cases h with
  | non => exact .non
  | bl b => exact .bl b
  | int i => exact .int i
  | str x => exact .str x
  | tup _ _ => cases hs
  | lst _ _ => cases hs
  | fro _ _ => cases hs
  | ins _ _ _ _ => cases hs
  walk_at "zz"
theorem RepL.sc : ∀ {vs : List V} {ds : List D}, RepL K H vs ds → ds.all D.scal = true → ∀ H2 : Hp, RepL K H2 vs ds
  | _, _, .nil, _, _ => .nil
  | _, _, .cons a t, h, H2 => by
    rw [List.all_cons, Bool.and_eq_true] at h
    exact .cons (a.sc h.1 H2) (RepL.sc t h.2 H2)
theorem RepB.up {v : V} {b : Bv} (h : RepB K σ Hb v b) (e : Ex Hb Hb') : RepB K σ Hb' v b := by
  refine keepG ?_ ?_
  cases b with
  | dat d => exact Rep.up h e
  | slot j => exact h
  walk_at "zz"
theorem RepBs.up : ∀ {vs : List V} {bs : List Bv}, RepBs K σ Hb vs bs → Ex Hb Hb' → RepBs K σ Hb' vs bs
  | [], [], _, _ => trivial
  | _ :: _, _ :: _, h, e => ⟨h.1.up e, RepBs.up h.2 e⟩
  | [], _ :: _, h, _ => h.elim
  | _ :: _, [], h, _ => h.elim
theorem RepC.rep {v : V} {d : D} (h : RepC K H Hb v d) (e : Ex Hb H) : Rep K H v d := by
  refine keepG ?_ ?_
  rcases h with h | ⟨l, vs, ds, rfl, rfl, h1, h2⟩
  · exact h.up e
  · exact .lst h1 (h2.up e)
  walk_at "zz"
theorem look_ok (R : Rw K f σ H s Hb) {v : V} {b : Bv} {d : D} (h : RepB K σ Hb v b) (hl : look s b = some d) : RepC K H Hb v d := by
  refine keepG ?_ ?_
  cases b with
  | dat d0 =>
    cases hl
    exact .inl h
  | slot j =>
    have h : σ[j]? = some (some v) := h
    unfold look at hl
    cases q : s[j]? with
    | none => simp [q] at hl
    | some sv =>
      have k := R.ok j sv _ q h
      cases sv with
      | un => simp [q] at hl
      | dat d0 =>
        simp [q] at hl
        subst hl
        obtain ⟨v', e, r⟩ := k
        cases e
        exact .inl r
      | box b0 => simp [q] at hl
      | own ds =>
        simp [q] at hl
        subst hl
        obtain ⟨l, vs, e, _, _, _, h4, h5⟩ := k
        cases e
        exact .inr ⟨l, vs, ds, rfl, rfl, h4, h5⟩
      | par ds =>
        simp [q] at hl
        subst hl
        obtain ⟨l, vs, e, _, _, h4, h5⟩ := k
        cases e
        exact .inr ⟨l, vs, ds, rfl, rfl, h4, h5⟩
  walk_at "zz"
theorem looks_ok (R : Rw K f σ H s Hb) : ∀ {vs : List V} {bs : List Bv} {ds : List D}, RepBs K σ Hb vs bs → looks s bs = some ds → RepCs K H Hb vs ds
  | [], [], _, _, h => by cases h; trivial
  | v :: vs, b :: bs, ds, r, h => by
    obtain ⟨d, h1, h⟩ := bnd h
    obtain ⟨es, h2, h⟩ := bnd h
    cases h
    exact ⟨look_ok R r.1 h1, looks_ok R r.2 h2⟩
  | [], _ :: _, _, h, _ => h.elim
  | _ :: _, [], _, h, _ => h.elim
theorem frz_ok (R : Rw K f σ H s Hb) {v : V} {b : Bv} {d : D} (h : RepB K σ Hb v b) (hl : frz s b = some (d, s')) : ∃ Hb', Ex Hb Hb' ∧ Rw K f σ H s' Hb' ∧ Rep K Hb' v d := by
  refine keepG ?_ ?_
  cases b with
  | dat d0 =>
    cases hl
    exact ⟨Hb, Ex.refl _, R, h⟩
  | slot j =>
    have h : σ[j]? = some (some v) := h
    unfold frz at hl
    cases q : s[j]? with
    | none => simp [q] at hl
    | some sv =>
      cases sv with
      | un => simp [q] at hl
      | par ds => simp [q] at hl
      | dat d0 =>
        simp [q] at hl
        obtain ⟨rfl, rfl⟩ := hl
        obtain ⟨v', e, r⟩ := R.ok j _ _ q h
        cases e
        exact ⟨Hb, Ex.refl _, R, r⟩
      | box b0 => simp [q] at hl
      | own ds =>
        simp [q] at hl
        obtain ⟨rfl, rfl⟩ := hl
        obtain ⟨l, vs, h1, h2, e1, rp, R'⟩ := R.freeze q
        rw [h] at h1
        cases h1
        exact ⟨_, e1, R', rp⟩
  walk_at "zz"
theorem frzs_ok : ∀ {s : Sto} {Hb : Hp} {vs : List V} {bs : List Bv} {ds : List D} {s' : Sto}, Rw K f σ H s Hb → RepBs K σ Hb vs bs → frzs s bs = some (ds, s') → ∃ Hb', Ex Hb Hb' ∧ Rw K f σ H s' Hb' ∧ RepL K Hb' vs ds
  | s, Hb, [], [], _, _, R, _, h => by
    cases h
    exact ⟨Hb, Ex.refl _, R, .nil⟩
  | s, Hb, v :: vs, b :: bs, ds, s', R, r, h => by
    obtain ⟨x, h1, h⟩ := bnd h
    obtain ⟨y, h2, h⟩ := bnd h
    cases h
    obtain ⟨Hb1, e1, R1, r1⟩ := frz_ok R r.1 h1
    obtain ⟨Hb2, e2, R2, r2⟩ := frzs_ok R1 (r.2.up e1) h2
    exact ⟨Hb2, e1.trans e2, R2, .cons (r1.up e2) r2⟩
  | _, _, [], _ :: _, _, _, _, h, _ => h.elim
  | _, _, _ :: _, [], _, _, _, h, _ => h.elim
/-- a new list, not yet of any slot -/
theorem Rw.alloc (R : Rw K f σ H s Hb) {p : Addr} {vs : List V} {ds : List D} (h : H p = none) (r : RepL K Hb vs ds) : Rw K f σ (upd H p (.lst vs)) s Hb ∧ NewL K f σ (upd H p (.lst vs)) s Hb p ds := by
  refine keepG ?_ ?_
  obtain ⟨a, b, c⟩ := R.fresh h
  refine ⟨R.step (Ex.refl _) (R.hb.trans (Ex.new h)) (fun _ _ _ => rfl) (Ex.new h), a, b, c, ⟨vs, upd_same, r⟩, fun j sv g o e => ?_⟩
  obtain ⟨l, ws, q1, _, _, q4⟩ := R.owned g o
  rw [q1] at e
  cases e
  rw [h] at q4
  cases q4
  walk_at "zz"
/-- .. stands still from here on -/
theorem Rw.still (R : Rw K f σ H s Hb) {p : Addr} {ds : List D} (N : NewL K f σ H s Hb p ds) : ∃ Hb', Ex Hb Hb' ∧ Rw K f σ H s Hb' ∧ Rep K Hb' (.ref p) (.lst ds) := by
  refine keepG ?_ ?_
  obtain ⟨h0, h1, h2, ⟨vs, h3, h4⟩, h5⟩ := N
  have e1 : Ex Hb (upd Hb p (.lst vs)) := Ex.new h0
  refine ⟨upd Hb p (.lst vs), e1, ⟨fun a u e => ?_, R.up.trans e1, fun a ha hx => ?_, R.kp, fun k hk => ?_, R.len, fun i sv o g1 g2 => ?_, R.dist⟩, .lst upd_same (h4.up e1)⟩
  · by_cases q : a = p
    · subst q
      rw [upd_same] at e
      cases e
      exact h3
    · rw [upd_ne q] at e
      exact R.hb a u e
  · rw [upd_ne (fun z => ha (by rw [z]; exact h1))]
    exact R.ag a ha hx
  · obtain ⟨k1, k2, k3⟩ := R.os k hk
    exact ⟨by rw [upd_ne (fun z => h2 (by rw [hk, z]))]; exact k1, k2, k3⟩
  · have k := R.ok i sv o g1 g2
    cases sv with
    | un => trivial
    | dat d =>
      obtain ⟨v, rfl, r⟩ := k
      exact ⟨v, rfl, r.up e1⟩
    | box b0 =>
      obtain ⟨l2, vs2, rfl, a1, a2, a3, a4, a5⟩ := k
      have ne : l2 ≠ p := fun z => h5 i _ g1 rfl (by rw [g2, z])
      exact ⟨l2, vs2, rfl, by rw [upd_ne ne]; exact a1, a2, a3, a4, a5.up e1⟩
    | own d0 =>
      obtain ⟨l2, vs2, rfl, a1, a2, a3, a4, a5⟩ := k
      have ne : l2 ≠ p := fun z => h5 i _ g1 rfl (by rw [g2, z])
      exact ⟨l2, vs2, rfl, by rw [upd_ne ne]; exact a1, a2, a3, a4, a5.up e1⟩
    | par d0 =>
      obtain ⟨l2, vs2, rfl, a1, a2, a4, a5⟩ := k
      have ne : l2 ≠ p := fun z => h5 i _ g1 rfl (by rw [g2, z])
      exact ⟨l2, vs2, rfl, by rw [upd_ne ne]; exact a1, a2, a4, a5.up e1⟩
  walk_at "zz"
theorem RepC.seqL {v : V} {d : D} {ds : List D} (h : RepC K H Hb v d) (e : Ex Hb H) (hd : d.seqL = some ds) : ∃ l vs, v = .ref l ∧ SqL K H l vs ∧ RepL K Hb vs ds := by
  refine keepG ?_ ?_
  rcases h with h | ⟨l, vs, es, rfl, rfl, h1, h2⟩
  · cases h with
    | lst a b => cases hd; exact ⟨_, _, rfl, ex_l e (sq_of a), b⟩
    | fro a b => cases hd; exact ⟨_, _, rfl, ex_l e a, b⟩
    | _ => cases hd
  · cases hd
    exact ⟨l, vs, rfl, sq_of h1, h2⟩
  walk_at "zz"
theorem RepC.lst {v : V} {ds : List D} (h : RepC K H Hb v (.lst ds)) (e : Ex Hb H) : ∃ l vs, v = .ref l ∧ H l = some (.lst vs) ∧ RepL K Hb vs ds := by
  refine keepG ?_ ?_
  rcases h with h | ⟨l, vs, es, rfl, q, h1, h2⟩
  · cases h with
    | lst a b => exact ⟨_, _, rfl, e _ _ a, b⟩
  · cases q
    exact ⟨l, vs, rfl, h1, h2⟩
  walk_at "zz"
theorem RepC.tup {v : V} {ds : List D} (h : RepC K H Hb v (.tup ds)) (e : Ex Hb H) : ∃ l vs, v = .ref l ∧ SqT K H l vs ∧ RepL K Hb vs ds := by
  refine keepG ?_ ?_
  rcases h with h | ⟨l, vs, es, rfl, q, h1, h2⟩
  · cases h with
    | tup a b => exact ⟨_, _, rfl, ex_t e a.t, b⟩
  · cases q
  walk_at "zz"
theorem RepC.int {v : V} {i : Int} (h : RepC K H Hb v (.int i)) : v = .int i := by
  refine keepG ?_ ?_
  rcases h with h | ⟨l, vs, es, rfl, q, h1, h2⟩
  · cases h; rfl
  · cases q
  walk_at "zz"
theorem RepC.bl {v : V} {i : Bool} (h : RepC K H Hb v (.bl i)) : v = .bl i := by
  refine keepG ?_ ?_
  rcases h with h | ⟨l, vs, es, rfl, q, h1, h2⟩
  · cases h; rfl
  · cases q
  walk_at "zz"
end
end Mi

namespace Mi
open PySem PySem.Spec PyProof.Rows L2 Evl

/-! ### what the pieces make of a store -/
def mVar (i : Nat) : ME := fun s => match s[i]? with
  | some (.dat d) => some (.dat d, s)
  | some (.own _) => some (.slot i, s)
  | some (.par _) => some (.slot i, s)
  | _ => none
def mC (d : D) : ME := fun s => some (.dat d, s)
def mBin (g : D → D → Option D) (ma mb : ME) : ME := fun s =>
  (ma s).bind fun a => (mb a.2).bind fun b => (look b.2 a.1).bind fun x => (look b.2 b.1).bind fun y => (g x y).bind fun z => some (.dat z, b.2)
def mUn (g : D → Option D) (ma : ME) : ME := fun s => (ma s).bind fun a => (look a.2 a.1).bind fun x => (g x).bind fun z => some (.dat z, a.2)
def mBinF (g : D → D → Option (List D)) (ma mb : ME) : MF := fun s =>
  (ma s).bind fun a => (mb a.2).bind fun b => (look b.2 a.1).bind fun x => (look b.2 b.1).bind fun y => (g x y).bind fun z => some (z, b.2)
def aNil : MA := fun s => some ([], s)
def aCons (ma : ME) (mr : MA) : MA := fun s => (ma s).bind fun a => (mr a.2).bind fun r => some (a.1 :: r.1, r.2)
def mBi (g : List D → Option D) (ma : MA) : ME := fun s => (ma s).bind fun a => (looks a.2 a.1).bind fun xs => (g xs).bind fun z => some (.dat z, a.2)
def mBiF (g : List D → Option (List D)) (ma : MA) : MF := fun s => (ma s).bind fun a => (looks a.2 a.1).bind fun xs => (g xs).bind fun z => some (z, a.2)
def mTup (ma : MA) : ME := fun s => (ma s).bind fun a => (frzs a.2 a.1).bind fun q => if q.1.length ≤ 16000000 then some (.dat (.tup q.1), q.2) else none
def mLst (ma : MA) : MF := fun s => (ma s).bind fun a => (frzs a.2 a.1).bind fun q => if q.1.length ≤ 16000000 then some (q.1, q.2) else none
/-- a new list, as a datum -/
def mF (mf : MF) : ME := fun s => (mf s).bind fun q => some (.dat (.lst q.1), q.2)
def mIfE (mt : MT) (ma mb : ME) : ME := fun s => (mt s).bind fun c => if c.1 = true then ma c.2 else mb c.2
def mTest (ma : ME) : MT := fun s => (ma s).bind fun a => match a.1 with
  | .dat (.bl b) => some (b, a.2)
  | _ => none
def truD : D → Bool
  | .non => false | .bl b => b | .int i => i != 0 | .tup ds => !ds.isEmpty | .lst ds => !ds.isEmpty | .fro ds => !ds.isEmpty | _ => true
def D.hasTru : D → Bool
  | .non => true | .bl _ => true | .int _ => true | .tup _ => true | .lst _ => true | .fro _ => true | _ => false
def mTru (ma : ME) : MT := fun s => (ma s).bind fun a => (look a.2 a.1).bind fun d => if d.hasTru = true then some (truD d, a.2) else none
def mAnd (ma mb : MT) : MT := fun s => (ma s).bind fun a => if a.1 = true then mb a.2 else some (false, a.2)
def mOr (ma mb : MT) : MT := fun s => (ma s).bind fun a => if a.1 = true then some (true, a.2) else mb a.2
def mNot (ma : MT) : MT := fun s => (ma s).bind fun a => some (!a.1, a.2)
def mAndV (ma mb : ME) : ME := fun s => (mTest ma s).bind fun a => if a.1 = true then mb a.2 else some (.dat (.bl false), a.2)
def mOrV (ma mb : ME) : ME := fun s => (mTest ma s).bind fun a => if a.1 = true then some (.dat (.bl true), a.2) else mb a.2
def mNotV (ma : ME) : ME := fun s => (mTest ma s).bind fun a => some (.dat (.bl (!a.1)), a.2)
def oNone : Sto → Option (Option Int × Sto) := fun s => some (none, s)
def oSome (ma : ME) : Sto → Option (Option Int × Sto) := fun s => (ma s).bind fun a => match a.1 with
  | .dat (.int i) => some (some i, a.2)
  | _ => none
def mSl (g : D → Option Int → Option Int → Option D) (ma : ME) (ml mh : Sto → Option (Option Int × Sto)) : ME := fun s =>
  (ma s).bind fun a => (ml a.2).bind fun l => (mh l.2).bind fun h => (look h.2 a.1).bind fun x => (g x l.1 h.1).bind fun z => some (.dat z, h.2)
def mSlF (g : D → Option Int → Option Int → Option (List D)) (ma : ME) (ml mh : Sto → Option (Option Int × Sto)) : MF := fun s =>
  (ma s).bind fun a => (ml a.2).bind fun l => (mh l.2).bind fun h => (look h.2 a.1).bind fun x => (g x l.1 h.1).bind fun z => some (z, h.2)

/-! ### they are what the readings say -/
section
variable {K : PySem.W.Frag} {ta tb te : TE} {ma mb : ME} {r : R2} {t u : TT} {mt mu : MT} {tas : TA} {mas : MA}
theorem snd_var (i : Nat) : SndE K (tVar i) (mVar i) := by
  refine keepG ?_ ?_
  intro f σ H s Hb b s' R h Q q
  unfold mVar at h
  cases e : s[i]? with
  | none => simp [e] at h
  | some sv =>
    obtain ⟨o, ho, k⟩ := R.slot e
    cases sv with
    | un => simp [e] at h
    | dat d =>
      simp [e] at h
      obtain ⟨rfl, rfl⟩ := h
      obtain ⟨v, rfl, r⟩ := k
      exact ⟨v, ho, q v H Hb (Ex.refl _) R r⟩
    | box b0 => simp [e] at h
    | own ds =>
      simp [e] at h
      obtain ⟨rfl, rfl⟩ := h
      obtain ⟨l, vs, rfl, _⟩ := k
      exact ⟨_, ho, q _ H Hb (Ex.refl _) R ho⟩
    | par ds =>
      simp [e] at h
      obtain ⟨rfl, rfl⟩ := h
      obtain ⟨l, vs, rfl, _⟩ := k
      exact ⟨_, ho, q _ H Hb (Ex.refl _) R ho⟩
  walk_at "zz"
theorem snd_c {v : V} {d : D} (hr : ∀ Hb : Hp, Rep K Hb v d) : SndE K (tC v) (mC d) := by
  refine keepG ?_ ?_
  intro f σ H s Hb b s' R h Q q
  cases h
  exact q v H Hb (Ex.refl _) R (hr Hb)
  walk_at "zz"
theorem snd_bin {g : D → D → Option D} (hr : SndR K r g) (ha : SndE K ta ma) (hb : SndE K tb mb) : SndE K (tOp r ta tb) (mBin g ma mb) := by
  refine keepG ?_ ?_
  intro f σ H s Hb b s' R h Q q
  obtain ⟨a, h1, h⟩ := bnd h
  obtain ⟨b, h2, h⟩ := bnd h
  obtain ⟨x, h3, h⟩ := bnd h
  obtain ⟨y, h4, h⟩ := bnd h
  obtain ⟨z, h5, h⟩ := bnd h
  cases h
  refine ha f σ H s Hb _ _ R h1 _ fun v H1 Hb1 e1 R1 r1 => hb f σ H1 _ Hb1 _ _ R1 h2 _ fun w H2 Hb2 e2 R2 r2 => ?_
  exact hr H2 Hb2 v w x y _ R2.hb (look_ok R2 (r1.up e2) h3) (look_ok R2 r2 h4) h5 _ (fun v' rv => q v' H2 Hb2 (e1.trans e2) R2 rv)
    fun p o hp rp => q _ _ _ ((e1.trans e2).trans (R2.new o hp).1) (R2.new o hp).2 rp
  walk_at "zz"
theorem snd_un {r : V → Hp → VK → Prop} {g : D → Option D} (hr : SndU K r g) (ha : SndE K ta ma) : SndE K (tUn r ta) (mUn g ma) := by
  refine keepG ?_ ?_
  intro f σ H s Hb b s' R h Q q
  obtain ⟨a, h1, h⟩ := bnd h
  obtain ⟨x, h3, h⟩ := bnd h
  obtain ⟨z, h5, h⟩ := bnd h
  cases h
  refine ha f σ H s Hb _ _ R h1 _ fun v H1 Hb1 e1 R1 r1 => ?_
  exact hr H1 Hb1 v x _ R1.hb (look_ok R1 r1 h3) h5 _ (fun v' rv => q v' H1 Hb1 e1 R1 rv) fun p o hp rp => q _ _ _ (e1.trans (R1.new o hp).1) (R1.new o hp).2 rp
  walk_at "zz"
theorem snd_nil : SndA K tNil aNil := by
  refine keepG ?_ ?_
  intro f σ H s Hb b s' R h Q q
  cases h
  exact q [] H Hb (Ex.refl _) R trivial
  walk_at "zz"
theorem snd_cons (ha : SndE K ta ma) (hr : SndA K tas mas) : SndA K (tCons ta tas) (aCons ma mas) := by
  refine keepG ?_ ?_
  intro f σ H s Hb b s' R h Q q
  obtain ⟨a, h1, h⟩ := bnd h
  obtain ⟨b, h2, h⟩ := bnd h
  cases h
  refine ha f σ H s Hb _ _ R h1 _ fun v H1 Hb1 e1 R1 r1 => hr f σ H1 _ Hb1 _ _ R1 h2 _ fun vs H2 Hb2 e2 R2 r2 => ?_
  exact q _ H2 Hb2 (e1.trans e2) R2 ⟨r1.up e2, r2⟩
  walk_at "zz"
theorem snd_bi {r : List V → Hp → VK → Prop} {g : List D → Option D} (hr : SndC K r g) (ha : SndA K tas mas) : SndE K (tCB r tas) (mBi g mas) := by
  refine keepG ?_ ?_
  intro f σ H s Hb b s' R h Q q
  obtain ⟨a, h1, h⟩ := bnd h
  obtain ⟨x, h3, h⟩ := bnd h
  obtain ⟨z, h5, h⟩ := bnd h
  cases h
  refine ha f σ H s Hb _ _ R h1 _ fun v H1 Hb1 e1 R1 r1 => ?_
  exact hr H1 Hb1 v x _ R1.hb (looks_ok R1 r1 h3) h5 _ (fun v' rv => q v' H1 Hb1 e1 R1 rv) fun p o hp rp => q _ _ _ (e1.trans (R1.new o hp).1) (R1.new o hp).2 rp
  walk_at "zz"
theorem snd_biF {r : List V → Hp → VK → Prop} {g : List D → Option (List D)} (hr : SndCF K r g) (ha : SndA K tas mas) : SndF K (tCB r tas) (mBiF g mas) := by
  refine keepG ?_ ?_
  intro f σ H s Hb b s' R h Q q
  obtain ⟨a, h1, h⟩ := bnd h
  obtain ⟨x, h3, h⟩ := bnd h
  obtain ⟨z, h5, h⟩ := bnd h
  cases h
  refine ha f σ H s Hb _ _ R h1 _ fun v H1 Hb1 e1 R1 r1 => ?_
  exact hr H1 Hb1 v x _ R1.hb (looks_ok R1 r1 h3) h5 _ fun p vs hp rp => q _ _ _ e1 (R1.alloc hp rp).1 (R1.alloc hp rp).2
  walk_at "zz"
theorem lim_le {n : Nat} (h : n ≤ 16000000) : n ≤ sizeLine := by rw [sizeLine_eq]; omega
theorem lim_lt {n : Nat} (h : n < 16000000) : n < sizeLine := by rw [sizeLine_eq]; omega
theorem snd_tup (ha : SndA K tas mas) : SndE K (tTup tas) (mTup mas) := by
  refine keepG ?_ ?_
  intro f σ H s Hb b s' R h Q q
  obtain ⟨a, h1, h⟩ := bnd h
  obtain ⟨x, h3, h⟩ := bnd h
  split at h
  · next hl =>
    cases h
    refine ha f σ H s Hb _ _ R h1 _ fun v H1 Hb1 e1 R1 r1 => ?_
    obtain ⟨Hb2, e2, R2, r2⟩ := frzs_ok R1 r1 h3
    refine ⟨lim_le (by rw [r2.len]; exact hl), fun p hp => ?_⟩
    have n := R2.new (.tup v) hp
    exact q _ _ _ ((e1.trans e2).trans n.1) n.2 (.tup (.inl upd_same) (r2.up n.1))
  · cases h
  walk_at "zz"
theorem snd_lst (ha : SndA K tas mas) : SndF K (tLst tas) (mLst mas) := by
  refine keepG ?_ ?_
  intro f σ H s Hb b s' R h Q q
  obtain ⟨a, h1, h⟩ := bnd h
  obtain ⟨x, h3, h⟩ := bnd h
  split at h
  · next hl =>
    cases h
    refine ha f σ H s Hb _ _ R h1 _ fun v H1 Hb1 e1 R1 r1 => ?_
    obtain ⟨Hb2, e2, R2, r2⟩ := frzs_ok R1 r1 h3
    refine ⟨lim_le (by rw [r2.len]; exact hl), fun p hp => ?_⟩
    exact q _ _ _ (e1.trans e2) (R2.alloc hp r2).1 (R2.alloc hp r2).2
  · cases h
  walk_at "zz"
theorem snd_F {mf : MF} (h : SndF K te mf) : SndE K te (mF mf) := by
  refine keepG ?_ ?_
  intro f σ H s Hb b s' R hm Q q
  obtain ⟨x, h1, hm⟩ := bnd hm
  cases hm
  refine h f σ H s Hb _ _ R h1 _ fun p H1 Hb1 e1 R1 n => ?_
  obtain ⟨Hb2, e2, R2, r2⟩ := R1.still n
  exact q _ _ _ (e1.trans e2) R2 r2
  walk_at "zz"
theorem snd_ifE (ht : SndT K t mt) (ha : SndE K ta ma) (hb : SndE K tb mb) : SndE K (tIf t ta tb) (mIfE mt ma mb) := by
  refine keepG ?_ ?_
  intro f σ H s Hb b s' R h Q q
  obtain ⟨c, h1, h⟩ := bnd h
  refine ht f σ H s Hb _ _ R h1 _ fun H1 Hb1 e1 R1 => ?_
  by_cases hc : c.1 = true
  · rw [if_pos hc] at h ⊢
    exact ha f σ H1 _ Hb1 _ _ R1 h _ fun v H2 Hb2 e2 R2 r2 => q v H2 Hb2 (e1.trans e2) R2 r2
  · rw [if_neg hc] at h ⊢
    exact hb f σ H1 _ Hb1 _ _ R1 h _ fun v H2 Hb2 e2 R2 r2 => q v H2 Hb2 (e1.trans e2) R2 r2
  walk_at "zz"
theorem mTest_of {s : Sto} {b : Bool} {s' : Sto} (h : mTest ma s = some (b, s')) : ma s = some (.dat (.bl b), s') := by
  refine keepG ?_ ?_
  obtain ⟨a, h1, h⟩ := bnd h
  obtain ⟨a1, a2⟩ := a
  cases a1 with
  | slot j => cases h
  | dat d =>
    cases d with
    | bl c => cases h; exact h1
    | _ => cases h
  walk_at "zz"
theorem snd_test (ha : SndE K ta ma) : SndT K (tTest ta) (mTest ma) := by
  refine keepG ?_ ?_
  intro f σ H s Hb b s' R h Q q
  refine ha f σ H s Hb _ _ R (mTest_of h) _ fun v H1 Hb1 e1 R1 r1 => ?_
  cases r1
  exact ⟨b, rfl, q H1 Hb1 e1 R1⟩
  walk_at "zz"
theorem RepL.emp {H : Hp} {vs : List V} {ds : List D} (r : RepL K H vs ds) : vs.isEmpty = ds.isEmpty := by cases r <;> rfl
theorem tru_of {H Hb : Hp} {v : V} {d : D} (e : Ex Hb H) (r : RepC K H Hb v d) (h : d.hasTru = true) : TruV K v H (truD d) := by
  refine keepG ?_ ?_
  cases d with
  | non =>
    rcases r with r | ⟨_, _, _, _, z, _⟩
    · cases r; rfl
    · cases z
  | bl b => rw [r.bl]; rfl
  | int i => rw [r.int]; rfl
  | tup ds =>
    obtain ⟨l, vs, rfl, h1, h2⟩ := r.tup e
    exact .inr (.inl ⟨vs, h1, by rw [h2.emp]; rfl⟩)
  | lst ds =>
    obtain ⟨l, vs, rfl, h1, h2⟩ := r.seqL e rfl
    exact .inl ⟨vs, h1, by rw [h2.emp]; rfl⟩
  | fro ds =>
    obtain ⟨l, vs, rfl, h1, h2⟩ := r.seqL e rfl
    exact .inl ⟨vs, h1, by rw [h2.emp]; rfl⟩
  | str x => cases h
  | ins _ _ => cases h
  walk_at "zz"
theorem snd_tru (ha : SndE K ta ma) : SndT K (fun σ H Q => ta σ H fun x H' => ∃ k, TruV K x H' k ∧ Q k H') (mTru ma) := by
  refine keepG ?_ ?_
  intro f σ H s Hb b s' R h Q q
  obtain ⟨a, h1, h⟩ := bnd h
  obtain ⟨d, h2, h⟩ := bnd h
  split at h
  · next hd =>
    cases h
    refine ha f σ H s Hb _ _ R h1 _ fun v H1 Hb1 e1 R1 r1 => ?_
    exact ⟨_, tru_of R1.hb (look_ok R1 r1 h2) hd, q H1 Hb1 e1 R1⟩
  · cases h
  walk_at "zz"
theorem snd_and (ha : SndT K t mt) (hb : SndT K u mu) : SndT K (tAnd t u) (mAnd mt mu) := by
  refine keepG ?_ ?_
  intro f σ H s Hb b s' R h Q q
  obtain ⟨c, h1, h⟩ := bnd h
  refine ha f σ H s Hb _ _ R h1 _ fun H1 Hb1 e1 R1 => ?_
  by_cases hc : c.1 = true
  · rw [if_pos hc] at h ⊢
    exact hb f σ H1 _ Hb1 _ _ R1 h _ fun H2 Hb2 e2 R2 => q H2 Hb2 (e1.trans e2) R2
  · rw [if_neg hc] at h ⊢
    cases h
    exact q _ _ e1 R1
  walk_at "zz"
theorem snd_or (ha : SndT K t mt) (hb : SndT K u mu) : SndT K (tOr t u) (mOr mt mu) := by
  refine keepG ?_ ?_
  intro f σ H s Hb b s' R h Q q
  obtain ⟨c, h1, h⟩ := bnd h
  refine ha f σ H s Hb _ _ R h1 _ fun H1 Hb1 e1 R1 => ?_
  by_cases hc : c.1 = true
  · rw [if_pos hc] at h ⊢
    cases h
    exact q _ _ e1 R1
  · rw [if_neg hc] at h ⊢
    exact hb f σ H1 _ Hb1 _ _ R1 h _ fun H2 Hb2 e2 R2 => q H2 Hb2 (e1.trans e2) R2
  walk_at "zz"
theorem snd_not (ha : SndT K t mt) : SndT K (tNot t) (mNot mt) := by
  refine keepG ?_ ?_
  intro f σ H s Hb b s' R h Q q
  obtain ⟨c, h1, h⟩ := bnd h
  cases h
  exact ha f σ H s Hb _ _ R h1 _ fun H1 Hb1 e1 R1 => q _ _ e1 R1
  walk_at "zz"
theorem snd_andV (ha : SndE K ta ma) (hb : SndE K tb mb) : SndE K (tAndV ta tb) (mAndV ma mb) := by
  refine keepG ?_ ?_
  intro f σ H s Hb b s' R h Q q
  obtain ⟨c, h1, h⟩ := bnd h
  refine ha f σ H s Hb _ _ R (mTest_of h1) _ fun v H1 Hb1 e1 R1 r1 => ?_
  cases r1
  refine ⟨c.1, rfl, ?_⟩
  by_cases hc : c.1 = true
  · rw [if_pos hc] at h ⊢
    exact hb f σ H1 _ Hb1 _ _ R1 h _ fun v H2 Hb2 e2 R2 r2 => q v H2 Hb2 (e1.trans e2) R2 r2
  · rw [if_neg hc] at h ⊢
    cases h
    exact q _ _ _ e1 R1 (.bl false)
  walk_at "zz"
theorem snd_orV (ha : SndE K ta ma) (hb : SndE K tb mb) : SndE K (tOrV ta tb) (mOrV ma mb) := by
  refine keepG ?_ ?_
  intro f σ H s Hb b s' R h Q q
  obtain ⟨c, h1, h⟩ := bnd h
  refine ha f σ H s Hb _ _ R (mTest_of h1) _ fun v H1 Hb1 e1 R1 r1 => ?_
  cases r1
  refine ⟨c.1, rfl, ?_⟩
  by_cases hc : c.1 = true
  · rw [if_pos hc] at h ⊢
    cases h
    exact q _ _ _ e1 R1 (.bl true)
  · rw [if_neg hc] at h ⊢
    exact hb f σ H1 _ Hb1 _ _ R1 h _ fun v H2 Hb2 e2 R2 r2 => q v H2 Hb2 (e1.trans e2) R2 r2
  walk_at "zz"
theorem snd_notV (ha : SndE K ta ma) : SndE K (tNotV ta) (mNotV ma) := by
  refine keepG ?_ ?_
  intro f σ H s Hb b s' R h Q q
  obtain ⟨c, h1, h⟩ := bnd h
  cases h
  refine ha f σ H s Hb _ _ R (mTest_of h1) _ fun v H1 Hb1 e1 R1 r1 => ?_
  cases r1
  exact ⟨c.1, rfl, q _ _ _ e1 R1 (.bl _)⟩
  walk_at "zz"
theorem snd_oNone : SndO K tNoPart oNone := by
  refine keepG ?_ ?_
  intro f σ H s Hb b s' R h Q q
  cases h
  exact q H Hb (Ex.refl _) R
  walk_at "zz"
theorem snd_oSome (ha : SndE K ta ma) : SndO K (tPart ta) (oSome ma) := by
  refine keepG ?_ ?_
  intro f σ H s Hb b s' R h Q q
  obtain ⟨a, h1, h⟩ := bnd h
  obtain ⟨a1, a2⟩ := a
  cases a1 with
  | slot j => cases h
  | dat d =>
    cases d with
    | int i =>
      cases h
      refine ha f σ H s Hb _ _ R h1 _ fun v H1 Hb1 e1 R1 r1 => ?_
      cases r1
      exact ⟨i, rfl, q _ _ e1 R1⟩
    | _ => cases h
  walk_at "zz"
theorem snd_sl {r : V → Option Int → Option Int → Hp → VK → Prop} {g : D → Option Int → Option Int → Option D} {tl th : TO} {ml mh : Sto → Option (Option Int × Sto)} (hr : SndSl K r g) (ha : SndE K ta ma) (hl : SndO K tl ml) (hh : SndO K th mh) : SndE K (tSl r ta tl th) (mSl g ma ml mh) := by
  refine keepG ?_ ?_
  intro f σ H s Hb b s' R h Q q
  obtain ⟨a, h1, h⟩ := bnd h
  obtain ⟨b, h2, h⟩ := bnd h
  obtain ⟨c, h3, h⟩ := bnd h
  obtain ⟨x, h4, h⟩ := bnd h
  obtain ⟨z, h5, h⟩ := bnd h
  cases h
  refine ha f σ H s Hb _ _ R h1 _ fun v H1 Hb1 e1 R1 r1 => hl f σ H1 _ Hb1 _ _ R1 h2 _ fun H2 Hb2 e2 R2 => hh f σ H2 _ Hb2 _ _ R2 h3 _ fun H3 Hb3 e3 R3 => ?_
  exact hr H3 Hb3 v x _ _ _ R3.hb (look_ok R3 (r1.up (e2.trans e3)) h4) h5 _ (fun v' rv => q v' H3 Hb3 ((e1.trans e2).trans e3) R3 rv)
    fun p o hp rp => q _ _ _ (((e1.trans e2).trans e3).trans (R3.new o hp).1) (R3.new o hp).2 rp
  walk_at "zz"
end
end Mi

namespace Mi
open PySem PySem.Spec PyProof.Rows L2 Evl

/-! ### operations by data -/
def addD : D → D → Option D
  | .int i, .int j => some (.int (i + j))
  | .lst a, .lst b => if a.length + b.length ≤ 16000000 then some (.lst (a ++ b)) else none
  | .tup a, .tup b => if a.length + b.length ≤ 16000000 then some (.tup (a ++ b)) else none
  | _, _ => none
def catF : D → D → Option (List D)
  | .lst a, .lst b => if a.length + b.length ≤ 16000000 then some (a ++ b) else none
  | _, _ => none
def intOp (g : Int → Int → Option Int) : D → D → Option D
  | .int i, .int j => (g i j).bind fun k => some (.int k)
  | _, _ => none
def subI : Int → Int → Option Int := fun i j => some (i - j)
def fdivI : Int → Int → Option Int := fun i j => if 0 < j ∧ j < 1152921504606846976 then some (i / j) else none
def modI : Int → Int → Option Int := fun i j => if 0 < j then some (i % j) else none
def powI : Int → Int → Option Int := fun i j => if 0 ≤ j ∧ j ≤ 1000000 ∧ i.natAbs < 18446744073709551616 then some (i ^ j.toNat) else none
def shlI : Int → Int → Option Int := fun i j => if 0 ≤ j ∧ j ≤ 1000000 ∧ i.natAbs < 18446744073709551616 then some (i * 2 ^ j.toNat) else none
def shrI : Int → Int → Option Int := fun i j => if 0 ≤ j then some (i / 2 ^ j.toNat) else none
def andI : Int → Int → Option Int := fun i j => some (Builtin.bitAnd i j)
def orI : Int → Int → Option Int := fun i j => some (Builtin.bitOr i j)
def xorI : Int → Int → Option Int := fun i j => some (Builtin.bitXor i j)
def mulD : D → D → Option D
  | .int i, .int j => if (-18446744073709551616 < i ∧ i < 18446744073709551616) ∨ (-18446744073709551616 < j ∧ j < 18446744073709551616) then some (.int (i * j)) else none
  | .lst a, .int k => if -9223372036854775808 ≤ k ∧ k < 9223372036854775808 ∧ a.length * k.toNat ≤ 16000000 then some (.lst (List.replicate k.toNat a).flatten) else none
  | .tup a, .int k => if a ≠ [] ∧ 2 ≤ k ∧ k ≤ 1000 ∧ a.length ≤ 1000 then some (.tup (List.replicate k.toNat a).flatten) else none
  | _, _ => none
def repF : D → D → Option (List D)
  | .lst a, .int k => if -9223372036854775808 ≤ k ∧ k < 9223372036854775808 ∧ a.length * k.toNat ≤ 16000000 then some (List.replicate k.toNat a).flatten else none
  | _, _ => none
def cmpI (g : Int → Int → Bool) : D → D → Option D
  | .int i, .int j => some (.bl (g i j))
  | _, _ => none
def ltI : Int → Int → Bool := fun i j => decide (i < j)
def leI : Int → Int → Bool := fun i j => decide (i ≤ j)
def gtI : Int → Int → Bool := fun i j => decide (j < i)
def geI : Int → Int → Bool := fun i j => decide (j ≤ i)
mutual
def D.py : D → PyData
  | .non => .none | .bl b => .bool b | .int i => .int i | .str x => .str x | .tup ds => .tuple (D.pys ds) | .lst ds => .list (D.pys ds) | .fro ds => .list (D.pys ds) | .ins _ _ => .dict []
def D.pys : List D → List PyData
  | [] => []
  | d :: ds => d.py :: D.pys ds
end
mutual
theorem dp_of {K : PySem.W.Frag} {H : Hp} : ∀ (d : D) (v : V), Rep K H v d → d.py.canLay0 = true → Dp K H v d.py
  | .non, _, h, _ => by cases h; exact .non
  | .bl b, _, h, _ => by cases h; exact .bl b
  | .int i, _, h, _ => by cases h; exact .int i
  | .str x, _, h, _ => by cases h; exact .str x
  | .tup ds, _, h, c => by cases h with | tup a b => exact .tup a.t (dps_of ds _ b (by simpa [D.py, PyData.canLay0] using c))
  | .lst ds, _, h, c => by cases h with | lst a b => exact .lst (sq_of a) (dps_of ds _ b (by simpa [D.py, PyData.canLay0] using c))
  | .fro ds, _, h, c => by cases h with | fro a b => exact .lst a (dps_of ds _ b (by simpa [D.py, PyData.canLay0] using c))
  | .ins k ds, _, h, c => by simp [D.py, PyData.canLay0] at c
theorem dps_of {K : PySem.W.Frag} {H : Hp} : ∀ (ds : List D) (vs : List V), RepL K H vs ds → PyData.canLayAll0 (D.pys ds) = true → DpAll K H vs (D.pys ds)
  | [], _, h, _ => by cases h; exact .nil
  | d :: ds, _, h, c => by
    cases h with
    | cons a b =>
      have c' : d.py.canLay0 = true ∧ PyData.canLayAll0 (D.pys ds) = true := by simpa [D.pys, PyData.canLayAll0] using c
      exact .cons (dp_of d _ a c'.1) (dps_of ds _ b c'.2)
end
def eqD (x y : D) : Option D := if SeqAt.shaped x.py = true ∧ SeqAt.shaped y.py = true then some (.bl (PyData.eqv x.py y.py)) else none
def neD (x y : D) : Option D := if SeqAt.shaped x.py = true ∧ SeqAt.shaped y.py = true then some (.bl (!PyData.eqv x.py y.py)) else none
def D.isN : D → Bool
  | .non => true | _ => false
def isD (x y : D) : Option D := match y with
  | .non => some (.bl x.isN)
  | _ => none
def isnD (x y : D) : Option D := match y with
  | .non => some (.bl (!x.isN))
  | _ => none
def D.seq : D → Option (List D)
  | .lst ds => some ds | .fro ds => some ds | .tup ds => some ds | _ => none
def ixD (x y : D) : Option D := match y with
  | .int i => x.seq.bind fun ds => atI ds i
  | _ => none
def cutG {α : Type} (xs : List α) (lo hi : Option Int) : List α := (xs.drop (HT.sIx xs.length 0 lo)).take (HT.sIx xs.length xs.length hi - HT.sIx xs.length 0 lo)
def slD (x : D) (lo hi : Option Int) : Option D := match x with
  | .tup ds => some (.tup (cutG ds lo hi))
  | .lst ds => some (.lst (cutG ds lo hi))
  | .fro ds => some (.lst (cutG ds lo hi))
  | _ => none
def slF (x : D) (lo hi : Option Int) : Option (List D) := match x with
  | .lst ds => some (cutG ds lo hi)
  | .fro ds => some (cutG ds lo hi)
  | _ => none
def negD : D → Option D
  | .int i => some (.int (-i)) | _ => none
def lenD : List D → Option D
  | [x] => x.seq.bind fun ds => some (.int (ds.length : Int))
  | _ => none
def absD : List D → Option D
  | [.int i] => some (.int (if i < 0 then -i else i)) | _ => none
def maxD : List D → Option D
  | [.int i, .int j] => some (.int (if j > i then j else i)) | _ => none
def minD : List D → Option D
  | [.int i, .int j] => some (.int (if j < i then j else i)) | _ => none
def intD : List D → Option D
  | [.int i] => some (.int i) | [.bl k] => some (.int (if k then 1 else 0)) | _ => none
def boolD : List D → Option D
  | [.int i] => some (.bl (i != 0)) | [.bl k] => some (.bl k) | _ => none
def listF : List D → Option (List D)
  | [x] => x.seq
  | _ => none
def tupleD : List D → Option D
  | [x] => x.seq.bind fun ds => some (.tup ds)
  | _ => none
def asI : List D → Option (List Int)
  | [] => some []
  | .int i :: ds => (asI ds).bind fun ns => some (i :: ns)
  | _ :: _ => none
def sumD : List D → Option D
  | [x] => x.seqL.bind fun ds => (asI ds).bind fun ns => some (.int ns.sum)
  | _ => none
def flatD : D → Bool
  | .non => true | .bl _ => true | .int _ => true | .str _ => true | _ => false
def eqS : D → D → Bool
  | .non, .non => true
  | .bl a, .bl b => a == b
  | .bl a, .int j => (if a then 1 else 0) == j
  | .int i, .bl b => i == (if b then 1 else 0)
  | .int i, .int j => i == j
  | .str x, .str y => x == y
  | _, _ => false

theorem ite_some {α : Type} {c : Prop} [Decidable c] {a z : α} (h : (if c then some a else none) = some z) : c ∧ a = z := by
  refine keepG ?_ ?_
  by_cases hc : c
  · rw [if_pos hc] at h
    exact ⟨hc, Option.some.inj h⟩
  · rw [if_neg hc] at h
    cases h
  walk_at "zz"
theorem asI_of : ∀ {ds : List D} {ns : List Int}, asI ds = some ns → ds = iL ns
  | [], ns, h => by cases h; rfl
  | .int i :: ds, ns, h => by
    obtain ⟨ms, h1, h⟩ := bnd h
    cases h
    rw [asI_of h1]
    rfl
  | .non :: _, _, h => by cases h
  | .bl _ :: _, _, h => by cases h
  | .str _ :: _, _, h => by cases h
  | .tup _ :: _, _, h => by cases h
  | .lst _ :: _, _, h => by cases h
  | .fro _ :: _, _, h => by cases h
  | .ins _ _ :: _, _, h => by cases h
section
variable {K : PySem.W.Frag} {H Hb : Hp}
theorem new_rep {p : Addr} {o : HO} {vs : List V} {ds : List D} (e : Ex Hb H) (hp : H p = none) (r : RepL K Hb vs ds) : RepL K (upd Hb p o) vs ds := r.up (Ex.new (fresh_back e hp))
theorem OpR.or {X : Cx} {f : Value → Value → Sem Value} {r r' : R2} (h : OpR X f r) (h' : OpR X f r') : OpR X f (fun x y H Q => r x y H Q ∨ r' x y H Q) := by
  refine keepG ?_ ?_
  intro pins s σ H x y v u Q I rx ry q
  rcases q with q | q
  · exact h pins s σ H x y v u Q I rx ry q
  · exact h' pins s σ H x y v u Q I rx ry q
  walk_at "zz"
theorem SlR.or {X : Cx} {r r' : V → Option Int → Option Int → Hp → VK → Prop} (h : SlR X r) (h' : SlR X r') : SlR X (fun x l u H Q => r x l u H Q ∨ r' x l u H Q) := by
  refine keepG ?_ ?_
  intro pins s σ H x v vl vu lo hi sl Q I rx hs pl pu q
  rcases q with q | q
  · exact h pins s σ H x v vl vu lo hi sl Q I rx hs pl pu q
  · exact h' pins s σ H x v vl vu lo hi sl Q I rx hs pl pu q
  walk_at "zz"
theorem r_I {C : Int → Int → Prop} {g : Int → Int → Int} {m : Int → Int → Option Int} (h : ∀ i j k, m i j = some k → C i j ∧ k = g i j) : SndR K (rI C fun i j => .int (g i j)) (intOp m) := by
  refine keepG ?_ ?_
  intro H Hb v w x y z e rx ry hz Q q1 _
  cases x with
  | int i =>
    cases y with
    | int j =>
      obtain ⟨k, h1, hz⟩ := bnd hz
      cases hz
      obtain ⟨c, rfl⟩ := h i j k h1
      exact ⟨i, j, rx.int, ry.int, c, q1 _ (.int _)⟩
    | _ => cases hz
  | _ => cases hz
  walk_at "zz"
theorem r_I0 {g : Int → Int → Int} {m : Int → Int → Option Int} (h : ∀ i j, m i j = some (g i j)) : SndR K (rI0 fun i j => .int (g i j)) (intOp m) := by
  refine keepG ?_ ?_
  intro H Hb v w x y z e rx ry hz Q q1 _
  cases x with
  | int i =>
    cases y with
    | int j =>
      obtain ⟨k, h1, hz⟩ := bnd hz
      cases hz
      rw [h] at h1
      cases h1
      exact ⟨i, j, rx.int, ry.int, q1 _ (.int _)⟩
    | _ => cases hz
  | _ => cases hz
  walk_at "zz"
theorem r_B0 {g : Int → Int → Bool} : SndR K (rI0 fun i j => .bl (g i j)) (cmpI g) := by
  refine keepG ?_ ?_
  intro H Hb v w x y z e rx ry hz Q q1 _
  cases x with
  | int i =>
    cases y with
    | int j => cases hz; exact ⟨i, j, rx.int, ry.int, q1 _ (.bl _)⟩
    | _ => cases hz
  | _ => cases hz
  walk_at "zz"
def rAddP (K : PySem.W.Frag) : R2 := fun x y H Q => rI0 (fun i j => .int (i + j)) x y H Q ∨ (rCat x y H Q ∨ rCatA K x y H Q)
theorem op_addP {X : Cx} : OpR X (binaryOp .Add) (rAddP X.K) := OpR.or op_add (OpR.or op_cat op_catA)
theorem r_addP : SndR K (rAddP K) addD := by
  refine keepG ?_ ?_
  intro H Hb v w x y z e rx ry hz Q q1 q2
  cases x with
  | int i =>
    cases y with
    | int j => cases hz; exact .inl ⟨i, j, rx.int, ry.int, q1 _ (.int _)⟩
    | _ => cases hz
  | lst a =>
    cases y with
    | lst b =>
      obtain ⟨hl, rfl⟩ := ite_some hz
      obtain ⟨l, vs, rfl, h1, h2⟩ := rx.lst e
      obtain ⟨m, ws, rfl, h3, h4⟩ := ry.lst e
      refine .inr (.inl ⟨l, m, vs, ws, rfl, rfl, h1, h3, lim_le (by rw [h2.len, h4.len]; exact hl), fun p hp => q2 p _ hp ?_⟩)
      exact .lst upd_same (new_rep e hp (h2.app h4))
    | _ => cases hz
  | tup a =>
    cases y with
    | tup b =>
      obtain ⟨hl, rfl⟩ := ite_some hz
      have hx := rx
      have hy := ry
      obtain ⟨l, vs, rfl, h1, h2⟩ := rx.tup e
      obtain ⟨m, ws, rfl, h3, h4⟩ := ry.tup e
      refine .inr (.inr ⟨l, m, vs, ws, rfl, rfl, h1, h3, lim_le (by rw [h2.len, h4.len]; exact hl), fun z => ?_, fun _ z => ?_, fun _ _ p hp => q2 p _ hp (.tup (.inl upd_same) (new_rep e hp (h2.app h4)))⟩)
      · rw [h2.nilv] at z
        subst z
        rcases hy with hy | ⟨_, _, _, _, k, _⟩
        · exact q1 _ hy
        · cases k
      · rw [h4.nilv] at z
        subst z
        rw [List.append_nil] at q1
        rcases hx with hx | ⟨_, _, _, _, k, _⟩
        · exact q1 _ hx
        · cases k
    | _ => cases hz
  | _ => cases hz
  walk_at "zz"
def rMulP (K : PySem.W.Frag) : R2 := fun x y H Q => rI CMul (fun i j => .int (i * j)) x y H Q ∨ (rRep x y H Q ∨ rRepT K x y H Q)
theorem op_mulP {X : Cx} : OpR X (binaryOp .Mult) (rMulP X.K) := OpR.or op_mul (OpR.or op_rep op_repT)
theorem r_mulP : SndR K (rMulP K) mulD := by
  refine keepG ?_ ?_
  intro H Hb v w x y z e rx ry hz Q q1 q2
  cases x with
  | int i =>
    cases y with
    | int j =>
      obtain ⟨hl, rfl⟩ := ite_some hz
      exact .inl ⟨i, j, rx.int, ry.int, hl, q1 _ (.int _)⟩
    | _ => cases hz
  | lst a =>
    cases y with
    | int k =>
      obtain ⟨hl, rfl⟩ := ite_some hz
      obtain ⟨l, vs, rfl, h1, h2⟩ := rx.lst e
      refine .inr (.inl ⟨l, k, vs, rfl, ry.int, h1, hl.1, hl.2.1, lim_le (by rw [h2.len]; exact hl.2.2), fun p hp => q2 p _ hp ?_⟩)
      exact .lst upd_same (new_rep e hp (h2.rep _))
    | _ => cases hz
  | tup a =>
    cases y with
    | int k =>
      obtain ⟨hl, rfl⟩ := ite_some hz
      obtain ⟨l, vs, rfl, h1, h2⟩ := rx.tup e
      refine .inr (.inr ⟨l, k, vs, rfl, ry.int, h1, fun z => hl.1 (h2.nilv.mp z), hl.2.1, hl.2.2.1, by rw [h2.len]; exact hl.2.2.2, fun p hp => q2 p _ hp ?_⟩)
      exact .tup (.inl upd_same) (new_rep e hp (h2.rep _))
    | _ => cases hz
  | _ => cases hz
  walk_at "zz"
theorem canLay_sh {d : PyData} (h : SeqAt.shaped d = true) : d.canLay0 = true := SeqAt.canLay_of_shaped h
theorem r_eq : SndR K (rEqD K) eqD := by
  refine keepG ?_ ?_
  intro H Hb v w x y z e rx ry hz Q q1 q2
  obtain ⟨hs, rfl⟩ := ite_some hz
  exact ⟨x.py, y.py, dp_of x v (rx.rep e) (canLay_sh hs.1), dp_of y w (ry.rep e) (canLay_sh hs.2), hs.1, hs.2, q1 _ (.bl _)⟩
  walk_at "zz"
theorem r_ne : SndR K (rNeD K) neD := by
  refine keepG ?_ ?_
  intro H Hb v w x y z e rx ry hz Q q1 q2
  obtain ⟨hs, rfl⟩ := ite_some hz
  exact ⟨x.py, y.py, dp_of x v (rx.rep e) (canLay_sh hs.1), dp_of y w (ry.rep e) (canLay_sh hs.2), hs.1, hs.2, q1 _ (.bl _)⟩
  walk_at "zz"
def rIsP : R2 := fun x y H Q => y = .non ∧ Q (.bl (decide (x = .non))) H
def rIsnP : R2 := fun x y H Q => y = .non ∧ Q (.bl (!decide (x = .non))) H
theorem RepL.atI {vs : List V} {ds : List D} {i : Int} {d : D} (r : RepL K Hb vs ds) (h : L2.atI ds i = some d) : ∃ v, L2.atI vs i = some v ∧ Rep K Hb v d := by
  refine keepG ?_ ?_
  unfold L2.atI at h ⊢
  rw [r.len]
  cases e : ixN ds.length i with
  | none => rw [e] at h; cases h
  | some j =>
    rw [e] at h
    exact RepL.get r h
  walk_at "zz"
theorem r_ix : SndR K (rIx K) ixD := by
  refine keepG ?_ ?_
  intro H Hb v w x y z e rx ry hz Q q1 q2
  cases y with
  | int i =>
    obtain ⟨ds, h1, h2⟩ := bnd hz
    have hw := ry.int
    subst hw
    cases x with
    | lst a =>
      cases h1
      obtain ⟨l, vs, rfl, g1, g2⟩ := rx.seqL e rfl
      obtain ⟨u, g3, g4⟩ := g2.atI h2
      exact .inl ⟨l, vs, i, u, rfl, rfl, g1, g3, q1 _ g4⟩
    | fro a =>
      cases h1
      obtain ⟨l, vs, rfl, g1, g2⟩ := rx.seqL e rfl
      obtain ⟨u, g3, g4⟩ := g2.atI h2
      exact .inl ⟨l, vs, i, u, rfl, rfl, g1, g3, q1 _ g4⟩
    | tup a =>
      cases h1
      obtain ⟨l, vs, rfl, g1, g2⟩ := rx.tup e
      obtain ⟨u, g3, g4⟩ := g2.atI h2
      exact .inr (.inl ⟨l, vs, i, u, rfl, rfl, g1, g3, q1 _ g4⟩)
    | _ => cases h1
  | _ => cases hz
  walk_at "zz"
theorem cut_rep {vs : List V} {ds : List D} (r : RepL K Hb vs ds) (lo hi : Option Int) : RepL K Hb (cutV vs lo hi) (cutG ds lo hi) := by
  refine keepG ?_ ?_
  unfold cutV cutG
  rw [r.len]
  exact (r.drop _).take _
  walk_at "zz"
def rSlP (K : PySem.W.Frag) : V → Option Int → Option Int → Hp → VK → Prop := fun x l u H Q => rSlL K x l u H Q ∨ rSlA K x l u H Q
theorem sl_P {X : Cx} : SlR X (rSlP X.K) := SlR.or sl_list sl_tupA
theorem cut_whole {α : Type} {xs : List α} {lo hi : Option Int} (h : HT.sIx xs.length 0 lo = 0 ∧ HT.sIx xs.length xs.length hi = xs.length) : cutG xs lo hi = xs := by
  refine keepG ?_ ?_
  unfold cutG
  rw [h.1, h.2]
  simp
  walk_at "zz"
theorem r_sl : SndSl K (rSlP K) slD := by
  refine keepG ?_ ?_
  intro H Hb v x lo hi z e rx hz Q q1 q2
  cases x with
  | lst a =>
    cases hz
    obtain ⟨l, vs, rfl, g1, g2⟩ := rx.seqL e rfl
    exact .inl ⟨l, vs, rfl, g1, fun p hp => q2 p _ hp (.lst upd_same (new_rep e hp (cut_rep g2 lo hi)))⟩
  | fro a =>
    cases hz
    obtain ⟨l, vs, rfl, g1, g2⟩ := rx.seqL e rfl
    exact .inl ⟨l, vs, rfl, g1, fun p hp => q2 p _ hp (.lst upd_same (new_rep e hp (cut_rep g2 lo hi)))⟩
  | tup a =>
    cases hz
    have hx := rx
    obtain ⟨l, vs, rfl, g1, g2⟩ := rx.tup e
    refine .inr ⟨l, vs, rfl, g1, fun z => ?_, fun _ p hp => q2 p _ hp (.tup (.inl upd_same) (new_rep e hp (cut_rep g2 lo hi)))⟩
    rw [g2.len] at z
    rw [cut_whole z] at q1
    rcases hx with hx | ⟨_, _, _, _, k, _⟩
    · exact q1 _ hx
    · cases k
  | _ => cases hz
  walk_at "zz"
theorem r_neg : SndU K (rU fun i => .int (-i)) negD := by
  refine keepG ?_ ?_
  intro H Hb v x z e rx hz Q q1 q2
  cases x with
  | int i => cases hz; exact ⟨i, rx.int, q1 _ (.int _)⟩
  | _ => cases hz
  walk_at "zz"
/-! calls of what is built in -/
theorem reps1 {vs : List V} {x : D} (h : RepCs K H Hb vs [x]) : ∃ v, vs = [v] ∧ RepC K H Hb v x := by
  refine keepG ?_ ?_
  match vs, h with
  | [v], h => exact ⟨v, rfl, h.1⟩
  walk_at "zz"
def rLenP (K : PySem.W.Frag) : List V → Hp → VK → Prop := fun xs H Q => ∃ p ys, xs = [.ref p] ∧ (SqL K H p ys ∨ SqT K H p ys) ∧ Q (.int ys.length) H
theorem call_lenP {X : Cx} : CallR X (.builtin "len") (rLenP X.K) := call_len_seq
theorem RepC.seq {v : V} {x : D} {ds : List D} (h : RepC K H Hb v x) (e : Ex Hb H) (hd : x.seq = some ds) : ∃ l vs, v = .ref l ∧ (SqL K H l vs ∨ SqT K H l vs) ∧ RepL K Hb vs ds := by
  refine keepG ?_ ?_
  cases x with
  | lst a => cases hd; obtain ⟨l, vs, a, b, c⟩ := h.seqL e rfl; exact ⟨l, vs, a, .inl b, c⟩
  | fro a => cases hd; obtain ⟨l, vs, a, b, c⟩ := h.seqL e rfl; exact ⟨l, vs, a, .inl b, c⟩
  | tup a => cases hd; obtain ⟨l, vs, a, b, c⟩ := h.tup e; exact ⟨l, vs, a, .inr b, c⟩
  | _ => cases hd
  walk_at "zz"
theorem c_len : SndC K (rLenP K) lenD := by
  refine keepG ?_ ?_
  intro H Hb vs xs z e rx hz Q q1 q2
  match xs, hz with
  | [x], hz =>
    obtain ⟨ds, h1, h2⟩ := bnd hz
    cases h2
    obtain ⟨v, rfl, r⟩ := reps1 rx
    obtain ⟨l, ws, rfl, h3, h4⟩ := r.seq e h1
    refine ⟨l, ws, rfl, h3, ?_⟩
    rw [h4.len]
    exact q1 _ (.int _)
  walk_at "zz"
def rListP (K : PySem.W.Frag) : List V → Hp → VK → Prop := fun xs H Q => ∃ p ys, xs = [.ref p] ∧ (SqL K H p ys ∨ SqT K H p ys) ∧ ∀ l, H l = none → Q (.ref l) (upd H l (.lst ys))
theorem call_listP {X : Cx} : CallR X (.type "list") (rListP X.K) := call_list_of
theorem c_listF : SndCF K (rListP K) listF := by
  refine keepG ?_ ?_
  intro H Hb vs xs z e rx hz Q q1
  match xs, hz with
  | [x], hz =>
    obtain ⟨v, rfl, r⟩ := reps1 rx
    obtain ⟨l, ws, rfl, h3, h4⟩ := r.seq e hz
    exact ⟨l, ws, rfl, h3, fun p hp => q1 p _ hp h4⟩
  walk_at "zz"
def rTupleP (K : PySem.W.Frag) : List V → Hp → VK → Prop := fun xs H Q => ∃ p ys, xs = [.ref p] ∧ ((SqL K H p ys ∧ ∀ l, H l = none → Q (.ref l) (upd H l (.tup ys))) ∨ (SqT K H p ys ∧ Q (.ref p) H))
theorem call_tupleP {X : Cx} : CallR X (.type "tuple") (rTupleP X.K) := call_tuple_of
theorem c_tuple : SndC K (rTupleP K) tupleD := by
  refine keepG ?_ ?_
  intro H Hb vs xs z e rx hz Q q1 q2
  match xs, hz with
  | [x], hz =>
    obtain ⟨ds, h1, h2⟩ := bnd hz
    cases h2
    obtain ⟨v, rfl, r⟩ := reps1 rx
    cases x with
    | lst a =>
      cases h1
      obtain ⟨l, ws, rfl, g1, g2⟩ := r.seqL e rfl
      exact ⟨l, ws, rfl, .inl ⟨g1, fun p hp => q2 p _ hp (.tup (.inl upd_same) (new_rep e hp g2))⟩⟩
    | fro a =>
      cases h1
      obtain ⟨l, ws, rfl, g1, g2⟩ := r.seqL e rfl
      exact ⟨l, ws, rfl, .inl ⟨g1, fun p hp => q2 p _ hp (.tup (.inl upd_same) (new_rep e hp g2))⟩⟩
    | tup a =>
      cases h1
      have hx := r
      obtain ⟨l, ws, rfl, g1, g2⟩ := r.tup e
      refine ⟨l, ws, rfl, .inr ⟨g1, ?_⟩⟩
      rcases hx with hx | ⟨_, _, _, _, k, _⟩
      · exact q1 _ hx
      · cases k
    | _ => cases h1
  walk_at "zz"
def rAbsP : List V → Hp → VK → Prop := fun xs H Q => ∃ i, xs = [.int i] ∧ Q (.int (if i < 0 then -i else i)) H
def rMaxP : List V → Hp → VK → Prop := fun xs H Q => ∃ i j, xs = [.int i, .int j] ∧ Q (.int (if j > i then j else i)) H
def rMinP : List V → Hp → VK → Prop := fun xs H Q => ∃ i j, xs = [.int i, .int j] ∧ Q (.int (if j < i then j else i)) H
def rIntP : List V → Hp → VK → Prop := fun xs H Q => (∃ i, xs = [.int i] ∧ Q (.int i) H) ∨ ∃ k, xs = [.bl k] ∧ Q (.int (if k then 1 else 0)) H
def rBoolP : List V → Hp → VK → Prop := fun xs H Q => (∃ i, xs = [.int i] ∧ Q (.bl (i != 0)) H) ∨ ∃ k, xs = [.bl k] ∧ Q (.bl k) H
theorem call_intP {X : Cx} : CallR X (.type "int") rIntP := call_int1
theorem c_int : SndC K rIntP intD := by
  refine keepG ?_ ?_
  intro H Hb vs xs z e rx hz Q q1 q2
  match xs, hz with
  | [.int i], hz =>
    cases hz
    obtain ⟨v, rfl, r⟩ := reps1 rx
    exact .inl ⟨i, by rw [r.int], q1 _ (.int _)⟩
  | [.bl i], hz =>
    cases hz
    obtain ⟨v, rfl, r⟩ := reps1 rx
    exact .inr ⟨i, by rw [r.bl], q1 _ (.int _)⟩
  walk_at "zz"
end
end Mi
namespace Mi
open PySem PySem.Spec PyProof.Rows L2 Evl
section
variable {K : PySem.W.Frag}
def plusI : Int → Int → Option Int := fun i j => some (i + j)
def timesI : Int → Int → Option Int := fun i j => if (-18446744073709551616 < i ∧ i < 18446744073709551616) ∨ (-18446744073709551616 < j ∧ j < 18446744073709551616) then some (i * j) else none
theorem r_add : SndR K (rI0 fun i j => .int (i + j)) (intOp plusI) := r_I0 fun _ _ => rfl
theorem r_sub : SndR K (rI0 fun i j => .int (i - j)) (intOp subI) := r_I0 fun _ _ => rfl
theorem r_fdiv : SndR K (rI CDivW fun i j => .int (i / j)) (intOp fdivI) := r_I fun i j k h => by
  obtain ⟨a, b⟩ := ite_some h
  exact ⟨wide_div (b := 60) a.1 (by omega) (by decide) (by decide), b.symm⟩
theorem r_mod : SndR K (rI (fun _ j => 0 < j) fun i j => .int (i % j)) (intOp modI) := r_I fun i j k h => by obtain ⟨a, b⟩ := ite_some h; exact ⟨a, b.symm⟩
theorem r_pow : SndR K (rI CPow fun i j => .int (i ^ j.toNat)) (intOp powI) := r_I fun i j k h => by obtain ⟨a, b⟩ := ite_some h; exact ⟨a, b.symm⟩
end
end Mi

namespace Mi
open PySem PySem.Spec PyProof.Rows L2 Evl

def Fr.grd (f : Fr) (p : Addr) (o : HO) : Fr := { f with P := upd f.P p o }
/-! ### what is walked -/
section
variable (K : PySem.W.Frag)
def ItOk (J : It) (Hb1 : Hp) (items : List D) : Prop := ∀ (f : Fr) (σ : L2.St) (H2 : Hp) (s : Sto) (Hb2 : Hp), Ex Hb1 Hb2 → Rw K f σ H2 s Hb2 → ∀ i : Nat,
  (∀ d, items[i]? = some d → J.go i H2 ∧ ∀ x H', J.yld i H2 x H' → ∃ Hb', Ex Hb2 Hb' ∧ Rw K f σ H' s Hb' ∧ Rep K Hb' x d) ∧ (items.length ≤ i → J.stop i H2)
def SndI (wi : TI) (m : MI) : Prop := ∀ f σ H s Hb items s', Rw K f σ H s Hb → m s = some (items, s') → ∀ R : It → Hp → Prop, (∀ J H' Hb', Ex Hb Hb' → Rw K f σ H' s' Hb' → ItOk K J Hb' items → R J H') → wi σ H R
def SndG (g : TG) (m : MG) (ws : List Nat) : Prop := ∀ f σ H s Hb d v s', Rw K f σ H s Hb → Rep K Hb v d → m d s = some s' → ∀ Q : L2.St → Hp → Prop, (∀ σ' H' Hb', Ex Hb Hb' → Rw K f σ' H' s' Hb' → (∀ vs, (∀ w ∈ ws, w ∈ vs) → wipe σ' vs = wipe σ vs) → Q σ' H') → g v σ H Q
def SndGs (g : TGs) (m : List D → Sto → Option Sto) (ws : List Nat) : Prop := ∀ f σ H s Hb ds vs s', Rw K f σ H s Hb → RepL K Hb vs ds → m ds s = some s' → ∀ Q : L2.St → Hp → Prop, (∀ σ' H' Hb', Ex Hb Hb' → Rw K f σ' H' s' Hb' → (∀ vs, (∀ w ∈ ws, w ∈ vs) → wipe σ' vs = wipe σ vs) → Q σ' H') → g vs σ H Q
/-- what is wanted where something is raised -/
structure Wsh where
  th : Fr → Hp → Sto → Nat → Int → Prop
  up : ∀ {f : Fr} {Hb Hb' : Hp} {s : Sto} {c : Nat} {n : Int}, th f Hb s c n → Ex Hb Hb' → th f Hb' s c n
def Wsh.no : Wsh := ⟨fun _ _ _ _ _ => False, fun h _ => h⟩
/-- what is wanted behind a statement -/
def After (T : Wsh) (f : Fr) (Hb : Hp) (s' : Sto) (E : Ends) : Out → Prop
  | .nx => ∀ σ' H' Hb', Ex Hb Hb' → Rw K f σ' H' s' Hb' → E.nx σ' H'
  | .bk => ∀ σ' H' Hb', Ex Hb Hb' → Rw K f σ' H' s' Hb' → E.bk σ' H'
  | .ct => ∀ σ' H' Hb', Ex Hb Hb' → Rw K f σ' H' s' Hb' → E.ct σ' H'
  | .rt d => ∀ v σ' H' Hb', Ex Hb Hb' → Rw K f σ' H' s' Hb' → Rep K Hb' v d → E.rt v H'
  | .ex c n => T.th f Hb s' c n
def SndS (T : Wsh) (ts : TS) (m : MS) : Prop := ∀ f σ H s Hb o s', Rw K f σ H s Hb → m s = some (o, s') → ∀ E : Ends, After K T f Hb s' E o → ts E σ H
end
structure PXI (X : Cx) (tg iter : Expr) (wi : TI) (m : MI) : Prop where
  pe : PI X tg iter wi
  sn : SndI X.K wi m
structure PXG (X : Cx) (tg : Expr) (g : TG) (m : MG) (ws : List Nat) : Prop where
  pe : PG X tg g
  sn : SndG X.K g m ws
structure PXGs (X : Cx) (tg : List Expr) (g : TGs) (m : List D → Sto → Option Sto) (ws : List Nat) : Prop where
  pe : PGs X tg g
  sn : SndGs X.K g m ws
structure PXS (X : Cx) (T : Wsh) (st : Stmt) (ts : TS) (m : MS) : Prop where
  pe : PS X st ts
  sn : SndS X.K T ts m
structure PXB (X : Cx) (T : Wsh) (st : List Stmt) (ts : TS) (m : MS) : Prop where
  pe : PSs X st ts
  sn : SndS X.K T ts m

/-! ### their meaning -/
def iSeq (ma : ME) : MI := fun s => (ma s).bind fun a => (frz a.2 a.1).bind fun q => (q.1.seq).bind fun ds => some (ds, q.2)
def iRev (ma : ME) : MI := fun s => (ma s).bind fun a => (frz a.2 a.1).bind fun q => (q.1.seq).bind fun ds => some (ds.reverse, q.2)
def rng (lo : Int) (n : Nat) : List D := (List.range n).map fun i => D.int (lo + ((i : Nat) : Int))
def bInt : Bv → Option Int
  | .dat (.int i) => some i
  | _ => none
def iR1 (ma : MA) : MI := fun s => (ma s).bind fun a => match a.1 with
  | [x] => (bInt x).bind fun n => if n < 4611686018427387904 ∧ -4611686018427387904 ≤ n then some (rng 0 n.toNat, a.2) else none
  | _ => none
def iR2 (ma : MA) : MI := fun s => (ma s).bind fun a => match a.1 with
  | [x, y] => (bInt x).bind fun m => (bInt y).bind fun n => if (-4611686018427387904 ≤ m ∧ m < 4611686018427387904) ∧ -4611686018427387904 ≤ n ∧ n < 4611686018427387904 then some (rng m (n - m).toNat, a.2) else none
  | _ => none
def gNm (i : Nat) : MG := fun d s => some (s.set i (.dat d))
def gsNil : List D → Sto → Option Sto := fun ds s => match ds with
  | [] => some s
  | _ => none
def gsCons (g : MG) (gs : List D → Sto → Option Sto) : List D → Sto → Option Sto := fun ds s => match ds with
  | d :: r => (g d s).bind fun s1 => gs r s1
  | [] => none
def gTp (n : Nat) (gs : List D → Sto → Option Sto) : MG := fun d s => match d with
  | .tup ds => if ds.length = n then gs ds s else none
  | _ => none
def mSeq (m1 m2 : MS) : MS := fun s => (m1 s).bind fun r => match r.1 with
  | .nx => m2 r.2
  | o => some (o, r.2)
def mNext : MS := fun s => some (.nx, s)
def mBrk : MS := fun s => some (.bk, s)
def mCnt : MS := fun s => some (.ct, s)
def mNever : MS := fun _ => none
def mIf (mt : MT) (m1 m2 : MS) : MS := fun s => (mt s).bind fun c => if c.1 = true then m1 c.2 else m2 c.2
def mAsg (me : ME) (g : MG) : MS := fun s => (me s).bind fun a => (frz a.2 a.1).bind fun q => (g q.1 q.2).bind fun s' => some (.nx, s')
def mAsgF (mf : MF) (i : Nat) : MS := fun s => (mf s).bind fun a => some (.nx, a.2.set i (.own a.1))
def mExpr (me : ME) : MS := fun s => (me s).bind fun a => some (.nx, a.2)
def mRet (me : ME) : MS := fun s => (me s).bind fun a => (frz a.2 a.1).bind fun q => some (.rt q.1, q.2)
def mRetN : MS := fun s => some (.rt .non, s)
def mPar (i j : Nat) (ma : MA) : MS := fun s => (ma s).bind fun a => (frzs a.2 a.1).bind fun q => match q.1 with
  | [x, y] => some (.nx, (q.2.set i (.dat x)).set j (.dat y))
  | _ => none
def mAug (i : Nat) (g : D → D → Option D) (me : ME) : MS := fun s => match s[i]? with
  | some (.dat x) => (me s).bind fun b => (look b.2 b.1).bind fun y => (g x y).bind fun z => some (.nx, b.2.set i (.dat z))
  | _ => none
def putAt (s : Sto) (j : Nat) (ds : List D) : Option Sto := match s[j]? with
  | some (.own _) => some (s.set j (.own ds))
  | some (.par _) => some (s.set j (.par ds))
  | _ => none
def lsAt (s : Sto) (j : Nat) : Option (List D) := match s[j]? with
  | some (.own ds) => some ds
  | some (.par ds) => some ds
  | _ => none
def mApp (j : Nat) (me : ME) : MS := fun s => (lsAt s j).bind fun _ => (me s).bind fun a => (frz a.2 a.1).bind fun q => (lsAt q.2 j).bind fun ds => if ds.length < 16000000 then (putAt q.2 j (ds ++ [q.1])).bind fun s' => some (.nx, s') else none
def mExt (j : Nat) (me : ME) : MS := fun s => (lsAt s j).bind fun _ => (me s).bind fun a => (look a.2 a.1).bind fun d => match d with
  | .lst es => (lsAt a.2 j).bind fun ds => if ds.length + es.length ≤ 16000000 then (putAt a.2 j (ds ++ es)).bind fun s' => some (.nx, s') else none
  | _ => none
def mSet (j : Nat) (mi me : ME) : MS := fun s => (me s).bind fun a => (lsAt a.2 j).bind fun _ => (mi a.2).bind fun b => (bInt b.1).bind fun i => (frz b.2 a.1).bind fun q => (lsAt q.2 j).bind fun ds => (ixN ds.length i).bind fun k => (putAt q.2 j (ds.set k q.1)).bind fun s' => some (.nx, s')
def forD (g : MG) (mb : MS) : List D → MS
  | [], s => some (.nx, s)
  | d :: ds, s => (g d s).bind fun s1 => (mb s1).bind fun r => match r.1 with
    | .nx => forD g mb ds r.2
    | .ct => forD g mb ds r.2
    | .bk => some (.nx, r.2)
    | .rt x => some (.rt x, r.2)
    | .ex c n => some (.ex c n, r.2)
def mFor (mi : MI) (g : MG) (mb : MS) : MS := fun s => (mi s).bind fun a => forD g mb a.1 a.2
def whD (mt : MT) (mb : MS) : Nat → MS
  | 0, _ => none
  | n + 1, s => (mt s).bind fun c => if c.1 = true then (mb c.2).bind fun r => match r.1 with
      | .nx => whD mt mb n r.2
      | .ct => whD mt mb n r.2
      | .bk => some (.nx, r.2)
      | .rt x => some (.rt x, r.2)
      | .ex c n => some (.ex c n, r.2)
    else some (.nx, c.2)
def mWhile (fuel : Sto → Nat) (mt : MT) (mb : MS) : MS := fun s => whD mt mb (fuel s) s
def wipeS (s : Sto) : List Nat → Sto
  | [] => s
  | j :: js => (wipeS s js).set j .un
def SV.back : SV → SV
  | .dat d => .dat d
  | _ => .un
/-- behind a comprehension: its own names are as they were -/
def backS (s0 : Sto) (s : Sto) : List Nat → Sto
  | [] => s
  | j :: js => (backS s0 s js).set j ((s0[j]?.getD .un).back)
def mYes : MT := fun s => some (true, s)
def compD (vs : List Nat) (g : MG) (mt : MT) (me : ME) : List D → List D → Sto → Option (List D × Sto)
  | [], acc, s => some (acc, s)
  | d :: ds, acc, s => (g d (wipeS s vs)).bind fun s1 => (mt s1).bind fun c => if c.1 = true then
      (me c.2).bind fun r => (frz r.2 r.1).bind fun q => if acc.length < 16000000 then compD vs g mt me ds (acc ++ [q.1]) q.2 else none
    else compD vs g mt me ds acc c.2
def mLc (mi : MI) (g : MG) (mt : MT) (me : ME) (vs : List Nat) : MF := fun s => (mi s).bind fun a => (compD vs g mt me a.1 [] a.2).bind fun q => some (q.1, backS a.2 (wipeS q.2 vs) vs)

section
variable {K : PySem.W.Frag} {f : Fr} {σ : L2.St} {H H' Hb Hb' : Hp} {s s' : Sto}
theorem rng_len (lo : Int) (n : Nat) : (rng lo n).length = n := by unfold rng; rw [List.length_map, List.length_range]
theorem rng_at {lo : Int} {n i : Nat} {d : D} (h : (rng lo n)[i]? = some d) : i < n ∧ d = .int (lo + (i : Nat)) := by
  refine keepG ?_ ?_
  have hi := (List.getElem?_eq_some_iff.mp h).1
  rw [rng_len] at hi
  refine ⟨hi, ?_⟩
  unfold rng at h
  rw [List.getElem?_map, List.getElem?_range hi] at h
  cases h
  rfl
  walk_at "zz"
theorem it_rng (lo : Int) (n : Nat) (Hb1 : Hp) : ItOk K (Itr lo n) Hb1 (rng lo n) := by
  refine keepG ?_ ?_
  intro f σ H2 s Hb2 e R i
  refine ⟨fun d hd => ?_, fun h => by rw [rng_len] at h; exact h⟩
  obtain ⟨hi, rfl⟩ := rng_at hd
  refine ⟨hi, fun x H' y => ?_⟩
  obtain ⟨rfl, rfl⟩ := y
  exact ⟨Hb2, Ex.refl _, R, .int _⟩
  walk_at "zz"
/-- a list or a tuple -/
def iSeqT (K : PySem.W.Frag) (tl : TE) : TI := fun σ H R => iList K tl σ H R ∨ iTup K tl σ H R
theorem it_rev {a : Addr} {vs : List V} {ds : List D} {Hb1 : Hp} (h : SqL K Hb1 a vs) (r : RepL K Hb1 vs ds) : ItOk K (Itv K a vs.length) Hb1 ds.reverse := by
  refine keepG ?_ ?_
  intro f σ H2 s Hb2 e R i
  have h2 : SqL K H2 a vs := ex_l (e.trans R.hb) h
  have hl := r.len
  refine ⟨fun d hd => ?_, fun hi => by rw [List.length_reverse, ← hl] at hi; exact hi⟩
  have hi := (List.getElem?_eq_some_iff.mp hd).1
  rw [List.length_reverse] at hi
  rw [List.getElem?_reverse hi] at hd
  obtain ⟨v, hv, rv⟩ := r.get hd
  rw [← hl] at hv
  refine ⟨⟨by omega, vs, v, h2, hv⟩, fun x H' y => ?_⟩
  obtain ⟨rfl, y⟩ := y
  have := (y vs h2).symm.trans hv
  cases this
  exact ⟨Hb2, Ex.refl _, R, rv.up e⟩
  walk_at "zz"
theorem it_revT {a : Addr} {vs : List V} {ds : List D} {Hb1 : Hp} (h : SqT K Hb1 a vs) (r : RepL K Hb1 vs ds) : ItOk K (RT.ItvT K a vs.length) Hb1 ds.reverse := by
  refine keepG ?_ ?_
  intro f σ H2 s Hb2 e R i
  have h2 : SqT K H2 a vs := ex_t (e.trans R.hb) h
  have hl := r.len
  refine ⟨fun d hd => ?_, fun hi => by rw [List.length_reverse, ← hl] at hi; exact hi⟩
  have hi := (List.getElem?_eq_some_iff.mp hd).1
  rw [List.length_reverse] at hi
  rw [List.getElem?_reverse hi] at hd
  obtain ⟨v, hv, rv⟩ := r.get hd
  rw [← hl] at hv
  refine ⟨⟨by omega, vs, v, h2, hv⟩, fun x H' y => ?_⟩
  obtain ⟨rfl, y⟩ := y
  have := (y vs h2).symm.trans hv
  cases this
  exact ⟨Hb2, Ex.refl _, R, rv.up e⟩
  walk_at "zz"
theorem snd_iRev {te : TE} {me : ME} (he : SndE K te me) : SndI K (RT.iRevA K te) (iRev me) := by
  refine keepG ?_ ?_
  intro f σ H s Hb items s' R h Rk q
  obtain ⟨a, h1, h⟩ := bnd h
  obtain ⟨b, h2, h⟩ := bnd h
  obtain ⟨ds, h3, h⟩ := bnd h
  cases h
  obtain ⟨d, s2⟩ := b
  refine he f σ H s Hb _ _ R h1 _ fun v H1 Hb1 e1 R1 r1 => ?_
  obtain ⟨Hb2, e2, R2, r2⟩ := frz_ok R1 r1 h2
  cases d with
  | tup es =>
    cases h3
    cases r2 with
    | tup x y => exact ⟨_, _, rfl, .inr ⟨ex_t R2.hb x.t, q _ _ _ (e1.trans e2) R2 (it_revT x.t y)⟩⟩
  | lst es =>
    cases h3
    cases r2 with
    | lst x y => exact ⟨_, _, rfl, .inl ⟨ex_l R2.hb (sq_of x), q _ _ _ (e1.trans e2) R2 (it_rev (sq_of x) y)⟩⟩
  | fro es =>
    cases h3
    cases r2 with
    | fro x y => exact ⟨_, _, rfl, .inl ⟨ex_l R2.hb x, q _ _ _ (e1.trans e2) R2 (it_rev x y)⟩⟩
  | _ => cases h3
  walk_at "zz"
theorem bInt_of {b : Bv} {i : Int} (h : bInt b = some i) : b = .dat (.int i) := by
  refine keepG ?_ ?_
  cases b with
  | slot j => cases h
  | dat d => cases d <;> first | (cases h; rfl) | cases h
  walk_at "zz"
theorem snd_iR1 {ta : TA} {ma : MA} (ha : SndA K ta ma) : SndI K (iRng1 ta) (iR1 ma) := by
  refine keepG ?_ ?_
  intro f σ H s Hb items s' R h Rk q
  obtain ⟨a, h1, h⟩ := bnd h
  obtain ⟨as, s1⟩ := a
  match as, h with
  | [x], h =>
    obtain ⟨n, h2, h⟩ := bnd h
    obtain ⟨h3, h4⟩ := ite_some h
    cases h4
    rw [bInt_of h2] at h1
    refine ha f σ H s Hb _ _ R h1 _ fun vs H1 Hb1 e1 R1 r1 => ?_
    match vs, r1 with
    | [v], r1 =>
      cases r1.1
      exact ⟨n, rfl, by omega, by omega, q _ _ _ e1 R1 (it_rng _ _ _)⟩
  walk_at "zz"
/-! targets -/
theorem wipe_get (vs : List Nat) (σ : L2.St) (j : Nat) (h : j ∉ vs) : (wipe σ vs)[j]? = σ[j]? := wipe_out h
theorem wipe_len (vs : List Nat) (σ : L2.St) : (wipe σ vs).length = σ.length := wipe_length σ vs
theorem wipe_at : ∀ (vs : List Nat) (σ : L2.St) (j : Nat), j ∈ vs → j < σ.length → (wipe σ vs)[j]? = some none
  | v :: vs, σ, j, h, hl => by
    show ((wipe σ vs).set v none)[j]? = _
    by_cases h1 : v = j
    · subst h1
      rw [List.getElem?_set_self (by rw [wipe_len]; exact hl)]
    · rw [List.getElem?_set_ne h1]
      rcases List.mem_cons.mp h with z | z
      · exact absurd z.symm h1
      · exact wipe_at vs σ j z hl
theorem wipe_ext {σ σ' : L2.St} {vs : List Nat} (hl : σ.length = σ'.length) (h : ∀ j, j ∉ vs → σ[j]? = σ'[j]?) : wipe σ vs = wipe σ' vs := by
  refine keepG ?_ ?_
  apply List.ext_getElem?
  intro j
  by_cases hj : j ∈ vs
  · by_cases hz : j < σ.length
    · rw [wipe_at vs σ j hj hz, wipe_at vs σ' j hj (by rw [← hl]; exact hz)]
    · rw [List.getElem?_eq_none (by rw [wipe_len]; omega), List.getElem?_eq_none (by rw [wipe_len]; omega)]
  · rw [wipe_get vs σ j hj, wipe_get vs σ' j hj, h j hj]
  walk_at "zz"
theorem wipe_set {σ : L2.St} {vs : List Nat} {i : Nat} {o : Option V} (h : i ∈ vs) : wipe (σ.set i o) vs = wipe σ vs :=
  wipe_ext (by rw [List.length_set]) fun j hj => List.getElem?_set_ne (fun z => hj (by rw [← z]; exact h))
theorem wipe_wipe (σ : L2.St) (vs : List Nat) : wipe (wipe σ vs) vs = wipe σ vs := wipe_ext (wipe_len vs σ) fun j hj => wipe_get vs σ j hj
theorem snd_gNm (i : Nat) : SndG K (gName i) (gNm i) [i] := by
  refine keepG ?_ ?_
  intro f σ H s Hb d v s' R r h Q q
  cases h
  exact q _ H Hb (Ex.refl _) (R.set i r) fun vs hw => wipe_set (hw i List.mem_cons_self)
  walk_at "zz"
theorem snd_gsNil : SndGs K gNil gsNil [] := by
  refine keepG ?_ ?_
  intro f σ H s Hb ds vs s' R r h Q q
  match ds, h with
  | [], h =>
    cases h
    cases r
    exact ⟨rfl, q _ H Hb (Ex.refl _) R fun _ _ => rfl⟩
  walk_at "zz"
theorem snd_gsCons {g : TG} {gs : TGs} {mg : MG} {ms : List D → Sto → Option Sto} {w1 w2 : List Nat} (h1 : SndG K g mg w1) (h2 : SndGs K gs ms w2) : SndGs K (gCons g gs) (gsCons mg ms) (w1 ++ w2) := by
  refine keepG ?_ ?_
  intro f σ H s Hb ds vs s' R r h Q q
  match ds, h with
  | d :: ds, h =>
    obtain ⟨s1, g1, h⟩ := bnd h
    cases r with
    | cons a t =>
      refine ⟨_, _, rfl, h1 f σ H s Hb _ _ _ R a g1 _ fun σ1 H1 Hb1 e1 R1 k1 => h2 f σ1 H1 _ Hb1 _ _ _ R1 (t.up e1) h _ fun σ2 H2 Hb2 e2 R2 k2 => ?_⟩
      exact q _ _ _ (e1.trans e2) R2 fun vs hw => (k2 vs fun w hm => hw w (List.mem_append_right _ hm)).trans (k1 vs fun w hm => hw w (List.mem_append_left _ hm))
  walk_at "zz"
theorem snd_gTp {gs : TGs} {ms : List D → Sto → Option Sto} {n : Nat} {ws : List Nat} (h : SndGs K gs ms ws) : SndG K (gTup K n gs) (gTp n ms) ws := by
  refine keepG ?_ ?_
  intro f σ H s Hb d v s' R r hm Q q
  cases d with
  | tup ds =>
    have hm : (if ds.length = n then ms ds s else none) = some s' := hm
    by_cases hn : ds.length = n
    · rw [if_pos hn] at hm
      cases r with
      | tup a b => exact ⟨_, _, rfl, ex_t R.hb a.t, by rw [b.len]; exact hn, h f σ H s Hb _ _ _ R b hm _ q⟩
    · rw [if_neg hn] at hm
      cases hm
  | _ => cases hm
  walk_at "zz"

/-! ### statements -/
section
variable {T : Wsh} {ta tb te : TE} {ma mb me : ME} {t : TT} {mt : MT} {t1 t2 : TS} {m1 m2 : MS} {tas : TA} {mas : MA} {g : TG} {mg : MG} {ws : List Nat}
theorem After.mono {f : Fr} {Hb Hb' : Hp} {s' : Sto} {E : Ends} {o : Out} (h : After K T f Hb s' E o) (e : Ex Hb Hb') : After K T f Hb' s' E o := by
  refine keepG ?_ ?_
  cases o with
  | nx => exact fun σ H Hb2 e2 R => h σ H Hb2 (e.trans e2) R
  | bk => exact fun σ H Hb2 e2 R => h σ H Hb2 (e.trans e2) R
  | ct => exact fun σ H Hb2 e2 R => h σ H Hb2 (e.trans e2) R
  | rt d => exact fun v σ H Hb2 e2 R r => h v σ H Hb2 (e.trans e2) R r
  | ex c n => exact T.up h e
  walk_at "zz"
theorem snd_next : SndS K T tNext mNext := by
  refine keepG ?_ ?_
  intro f σ H s Hb o s' R h E q
  cases h
  exact q σ H Hb (Ex.refl _) R
  walk_at "zz"
theorem snd_seq (h1 : SndS K T t1 m1) (h2 : SndS K T t2 m2) : SndS K T (tSeq t1 t2) (mSeq m1 m2) := by
  refine keepG ?_ ?_
  intro f σ H s Hb o s' R h E q
  obtain ⟨r, g1, h⟩ := bnd h
  obtain ⟨ro, rs⟩ := r
  refine h1 f σ H s Hb _ _ R g1 _ ?_
  cases ro with
  | nx => exact fun σ' H' Hb' e R' => h2 f σ' H' _ Hb' _ _ R' h _ (q.mono e)
  | bk => cases h; exact q
  | ct => cases h; exact q
  | rt d => cases h; exact q
  | ex c n => cases h; exact q
  walk_at "zz"
theorem snd_if (ht : SndT K t mt) (h1 : SndS K T t1 m1) (h2 : SndS K T t2 m2) : SndS K T (tIfS t t1 t2) (mIf mt m1 m2) := by
  refine keepG ?_ ?_
  intro f σ H s Hb o s' R h E q
  obtain ⟨c, g1, h⟩ := bnd h
  refine ht f σ H s Hb _ _ R g1 _ fun H1 Hb1 e1 R1 => ?_
  by_cases hc : c.1 = true
  · rw [if_pos hc] at h ⊢
    exact h1 f σ H1 _ Hb1 _ _ R1 h _ (q.mono e1)
  · rw [if_neg hc] at h ⊢
    exact h2 f σ H1 _ Hb1 _ _ R1 h _ (q.mono e1)
  walk_at "zz"
theorem snd_asg (he : SndE K te me) (hg : SndG K g mg ws) : SndS K T (tAsg te g) (mAsg me mg) := by
  refine keepG ?_ ?_
  intro f σ H s Hb o s' R h E q
  obtain ⟨a, g1, h⟩ := bnd h
  obtain ⟨b, g2, h⟩ := bnd h
  obtain ⟨c, g3, h⟩ := bnd h
  cases h
  refine he f σ H s Hb _ _ R g1 _ fun v H1 Hb1 e1 R1 r1 => ?_
  obtain ⟨Hb2, e2, R2, r2⟩ := frz_ok R1 r1 g2
  exact hg f σ H1 _ Hb2 _ _ _ R2 r2 g3 _ fun σ' H' Hb' e' R' _ => q _ _ _ ((e1.trans e2).trans e') R'
  walk_at "zz"
theorem snd_asgF {mf : MF} (i : Nat) (he : SndF K te mf) : SndS K T (tAsg te (gName i)) (mAsgF mf i) := by
  refine keepG ?_ ?_
  intro f σ H s Hb o s' R h E q
  obtain ⟨a, g1, h⟩ := bnd h
  cases h
  refine he f σ H s Hb _ _ R g1 _ fun p H1 Hb1 e1 R1 n => ?_
  obtain ⟨n0, n1, n2, ⟨vs, n3, n4⟩, n5⟩ := n
  exact q _ _ _ e1 (R1.setOwn i n0 n1 n2 n3 n4 n5)
  walk_at "zz"
theorem snd_ret (he : SndE K te me) : SndS K T (tRet te) (mRet me) := by
  refine keepG ?_ ?_
  intro f σ H s Hb o s' R h E q
  obtain ⟨a, g1, h⟩ := bnd h
  obtain ⟨b, g2, h⟩ := bnd h
  cases h
  refine he f σ H s Hb _ _ R g1 _ fun v H1 Hb1 e1 R1 r1 => ?_
  obtain ⟨Hb2, e2, R2, r2⟩ := frz_ok R1 r1 g2
  exact q _ _ _ _ (e1.trans e2) R2 r2
  walk_at "zz"
theorem snd_aug {r : R2} {gg : D → D → Option D} (i : Nat) (hr : SndR K r gg) (he : SndE K te me) : SndS K T (tAug i te r) (mAug i gg me) := by
  refine keepG ?_ ?_
  intro f σ H s Hb o s' R h E q
  unfold mAug at h
  cases e : s[i]? with
  | none => simp [e] at h
  | some sv =>
    obtain ⟨ov, ho, k⟩ := R.slot e
    cases sv with
    | dat x =>
      simp only [e] at h
      obtain ⟨b, g2, h⟩ := bnd h
      obtain ⟨y, g3, h⟩ := bnd h
      obtain ⟨z, g4, h⟩ := bnd h
      cases h
      obtain ⟨v, rfl, rv⟩ := k
      refine ⟨v, ho, he f σ H s Hb _ _ R g2 _ fun w H1 Hb1 e1 R1 r1 => ?_⟩
      exact hr H1 Hb1 v w x y _ R1.hb (.inl (rv.up e1)) (look_ok R1 r1 g3) g4 _ (fun v' rv' => q _ _ _ e1 (R1.set i rv'))
        fun p o hp rp => q _ _ _ (e1.trans (R1.new o hp).1) ((R1.new o hp).2.set i rp)
    | _ => simp [e] at h
  walk_at "zz"
/-! lists that change -/
theorem lsAt_of {j : Nat} {ds : List D} (h : lsAt s j = some ds) : ∃ sv, s[j]? = some sv ∧ sv.ls = some ds ∧ ∀ es, putAt s j es = some (s.set j (sv.put es)) := by
  refine keepG ?_ ?_
  unfold lsAt at h
  cases e : s[j]? with
  | none => simp [e] at h
  | some sv =>
    cases sv with
    | un => simp [e] at h
    | dat d => simp [e] at h
    | box b0 => simp [e] at h
    | own d => simp [e] at h; subst h; exact ⟨_, rfl, rfl, fun es => by unfold putAt; rw [e]; rfl⟩
    | par d => simp [e] at h; subst h; exact ⟨_, rfl, rfl, fun es => by unfold putAt; rw [e]; rfl⟩
  walk_at "zz"
/-- the list at the slot j is changed where it stands -/
theorem Rw.write (R : Rw K f σ H s Hb) {j : Nat} {ds es : List D} {ws : List V} {s' : Sto} (h1 : lsAt s j = some ds) (h2 : putAt s j es = some s') {l : Addr} (hl : σ[j]? = some (some (.ref l))) (r : RepL K Hb ws es) : Rw K f σ (upd H l (.lst ws)) s' Hb := by
  refine keepG ?_ ?_
  obtain ⟨sv, g1, g2, g3⟩ := lsAt_of h1
  rw [g3] at h2
  cases h2
  obtain ⟨l', vs, k1, k2, k3, k4, k5⟩ := R.list g1 g2
  rw [hl] at k1
  cases k1
  exact R.stepAt g1 g2 hl (Ex.refl _) (Ex.mut R.hb k2) (fun _ _ _ => rfl) (fun a o ha h => by rw [upd_ne ha]; exact h) upd_same r
  walk_at "zz"
theorem Rw.lst (R : Rw K f σ H s Hb) {j : Nat} {ds : List D} (h : lsAt s j = some ds) : ∃ l vs, σ[j]? = some (some (.ref l)) ∧ H l = some (.lst vs) ∧ RepL K Hb vs ds := by
  refine keepG ?_ ?_
  obtain ⟨sv, g1, g2, _⟩ := lsAt_of h
  obtain ⟨l', vs, k1, k2, k3, k4, k5⟩ := R.list g1 g2
  exact ⟨l', vs, k1, k4, k5⟩
  walk_at "zz"
theorem snd_app (j : Nat) (he : SndE K te me) : SndS K T (tDrop (tBM K "list" rAppend (tVar j) (tCons te tNil))) (mApp j me) := by
  refine keepG ?_ ?_
  intro f σ H s Hb o s' R h E q
  obtain ⟨d0, g0, h⟩ := bnd h
  obtain ⟨a, g1, h⟩ := bnd h
  obtain ⟨b, g2, h⟩ := bnd h
  obtain ⟨ds, g3, h⟩ := bnd h
  by_cases hl : ds.length < 16000000
  · rw [if_pos hl] at h
    obtain ⟨s2, g4, h⟩ := bnd h
    cases h
    obtain ⟨l, vs, k1, k2, k3⟩ := R.lst g0
    refine ⟨_, k1, .inl ⟨rfl, vs, sq_of k2⟩, ?_⟩
    refine he f σ H s Hb _ _ R g1 _ fun v H1 Hb1 e1 R1 r1 => ?_
    obtain ⟨Hb2, e2, R2, r2⟩ := frz_ok R1 r1 g2
    obtain ⟨l', ws, n1, n2, n3⟩ := R2.lst g3
    rw [k1] at n1
    cases n1
    exact ⟨l, ws, v, rfl, rfl, n2, lim_lt (by rw [n3.len]; exact hl), q _ _ _ (e1.trans e2) (R2.write g3 g4 k1 (n3.app (.cons r2 .nil)))⟩
  · rw [if_neg hl] at h
    cases h
  walk_at "zz"
theorem snd_ext (j : Nat) (he : SndE K te me) : SndS K T (tDrop (tBM K "list" rExtend (tVar j) (tCons te tNil))) (mExt j me) := by
  refine keepG ?_ ?_
  intro f σ H s Hb o s' R h E q
  obtain ⟨d0, g0, h⟩ := bnd h
  obtain ⟨a, g1, h⟩ := bnd h
  obtain ⟨d, g2, h⟩ := bnd h
  cases d with
  | lst es =>
    obtain ⟨ds, g3, h⟩ := bnd h
    by_cases hl : ds.length + es.length ≤ 16000000
    · rw [if_pos hl] at h
      obtain ⟨s2, g4, h⟩ := bnd h
      cases h
      obtain ⟨l, vs, k1, k2, k3⟩ := R.lst g0
      refine ⟨_, k1, .inl ⟨rfl, vs, sq_of k2⟩, ?_⟩
      refine he f σ H s Hb _ _ R g1 _ fun v H1 Hb1 e1 R1 r1 => ?_
      obtain ⟨m, us, rfl, x1, x2⟩ := (look_ok R1 r1 g2).lst R1.hb
      obtain ⟨l', ws, n1, n2, n3⟩ := R1.lst g3
      rw [k1] at n1
      cases n1
      exact ⟨l, m, ws, us, rfl, rfl, n2, x1, lim_le (by rw [n3.len, x2.len]; exact hl), q _ _ _ e1 (R1.write g3 g4 k1 (n3.app x2))⟩
    · rw [if_neg hl] at h
      cases h
  | _ => cases h
  walk_at "zz"
theorem snd_set {ti : TE} {mi : ME} (j : Nat) (hi : SndE K ti mi) (he : SndE K te me) : SndS K T (tAsg te (gSub (tVar j) ti rSetL)) (mSet j mi me) := by
  refine keepG ?_ ?_
  intro f σ H s Hb o s' R h E q
  obtain ⟨a, g1, h⟩ := bnd h
  obtain ⟨d0, g0, h⟩ := bnd h
  obtain ⟨b, g2, h⟩ := bnd h
  obtain ⟨i, g3, h⟩ := bnd h
  obtain ⟨c, g4, h⟩ := bnd h
  obtain ⟨ds, g5, h⟩ := bnd h
  obtain ⟨k, g6, h⟩ := bnd h
  obtain ⟨s2, g7, h⟩ := bnd h
  cases h
  refine he f σ H s Hb _ _ R g1 _ fun v H1 Hb1 e1 R1 r1 => ?_
  obtain ⟨l, _, k1, _, _⟩ := R1.lst g0
  refine ⟨_, k1, hi f σ H1 _ Hb1 _ _ R1 g2 _ fun w H2 Hb2 e2 R2 r2 => ?_⟩
  rw [bInt_of g3] at r2
  cases r2
  obtain ⟨Hb3, e3, R3, r3⟩ := frz_ok R2 (r1.up e2) g4
  obtain ⟨l', ws, n1, n2, n3⟩ := R3.lst g5
  rw [k1] at n1
  cases n1
  exact ⟨l, ws, i, k, rfl, rfl, n2, by rw [n3.len]; exact g6, q _ _ _ ((e1.trans e2).trans e3) (R3.write g5 g7 k1 (n3.set r3 k))⟩
  walk_at "zz"
theorem snd_for {wi : TI} {mi : MI} {tb : TS} {mb : MS} (hi : SndI K wi mi) (hg : SndG K g mg ws) (hb : SndS K T tb mb) : SndS K T (tFor wi g tb) (mFor mi mg mb) := by
  refine keepG ?_ ?_
  intro f σ H s Hb o s' R h E q
  obtain ⟨a, g1, h⟩ := bnd h
  obtain ⟨items, s1⟩ := a
  refine hi f σ H s Hb _ _ R g1 _ fun J H1 Hb1 e1 R1 it => ?_
  refine ⟨fun i m σ H => ∃ (t : Sto) (Hb2 : Hp), Ex Hb1 Hb2 ∧ Rw K f σ H t Hb2 ∧ forD mg mb (items.drop i) t = some (o, s') ∧ m = items.length - i, ⟨items.length, s1, Hb1, Ex.refl _, R1, h, rfl⟩, ?_⟩
  rintro i m σ2 H2 ⟨t, Hb2, e2, R2, h2, rfl⟩
  obtain ⟨k1, k2⟩ := it f σ2 H2 t Hb2 e2 R2 i
  by_cases hi : i < items.length
  · rw [List.drop_eq_getElem_cons hi] at h2
    obtain ⟨t1, h3, h2⟩ := bnd h2
    obtain ⟨r, h4, h2⟩ := bnd h2
    obtain ⟨go, yl⟩ := k1 _ (List.getElem?_eq_getElem hi)
    refine .inr ⟨go, fun σ' H' => ∃ (t : Sto) (Hb2 : Hp), Ex Hb1 Hb2 ∧ Rw K f σ' H' t Hb2 ∧ forD mg mb (items.drop (i + 1)) t = some (o, s'), fun σ' H' ⟨t', Hb', x1, x2, x3⟩ => ⟨items.length - (i + 1), by omega, t', Hb', x1, x2, x3, rfl⟩, fun x H' y => ?_⟩
    obtain ⟨Hb3, e3, R3, r3⟩ := yl x H' y
    refine hg f σ2 H' t Hb3 _ _ _ R3 r3 h3 _ fun σ4 H4 Hb4 e4 R4 _ => ?_
    refine hb f σ4 H4 _ Hb4 _ _ R4 h4 _ ?_
    have e14 : Ex Hb1 Hb4 := (e2.trans e3).trans e4
    obtain ⟨ro, rs⟩ := r
    cases ro with
    | nx => exact fun σ' H' Hb' e' R' => ⟨rs, Hb', e14.trans e', R', h2⟩
    | ct => exact fun σ' H' Hb' e' R' => ⟨rs, Hb', e14.trans e', R', h2⟩
    | bk =>
      cases h2
      exact fun σ' H' Hb' e' R' => q σ' H' Hb' (e1.trans (e14.trans e')) R'
    | rt d =>
      cases h2
      exact fun v σ' H' Hb' e' R' r' => q v σ' H' Hb' (e1.trans (e14.trans e')) R' r'
    | ex c n =>
      cases h2
      exact T.up q (e1.trans e14)
  · rw [List.drop_eq_nil_of_le (by omega)] at h2
    cases h2
    exact .inl ⟨k2 (by omega), q σ2 H2 Hb2 (e1.trans e2) R2⟩
  walk_at "zz"
theorem snd_while {tb : TS} {mb : MS} (fuel : Sto → Nat) (ht : SndT K t mt) (hb : SndS K T tb mb) : SndS K T (tWhile t tb) (mWhile fuel mt mb) := by
  refine keepG ?_ ?_
  intro f σ H s Hb o s' R h E q
  refine ⟨fun m σ H => ∃ (t : Sto) (Hb2 : Hp), Ex Hb Hb2 ∧ Rw K f σ H t Hb2 ∧ whD mt mb m t = some (o, s'), ⟨fuel s, s, Hb, Ex.refl _, R, h⟩, ?_⟩
  rintro m σ2 H2 ⟨t2, Hb2, e2, R2, h2⟩
  cases m with
  | zero => cases h2
  | succ m =>
    obtain ⟨c, h3, h2⟩ := bnd h2
    refine ht f σ2 H2 t2 Hb2 _ _ R2 h3 _ fun H3 Hb3 e3 R3 => ?_
    by_cases hc : c.1 = true
    · rw [if_pos hc] at h2 ⊢
      obtain ⟨r, h4, h2⟩ := bnd h2
      refine ⟨fun σ' H' => ∃ (t : Sto) (Hb2 : Hp), Ex Hb Hb2 ∧ Rw K f σ' H' t Hb2 ∧ whD mt mb m t = some (o, s'), fun σ' H' x => ⟨m, Nat.lt_succ_self m, x⟩, ?_⟩
      refine hb f σ2 H3 _ Hb3 _ _ R3 h4 _ ?_
      obtain ⟨ro, rs⟩ := r
      cases ro with
      | nx => exact fun σ' H' Hb' e' R' => ⟨rs, Hb', (e2.trans e3).trans e', R', h2⟩
      | ct => exact fun σ' H' Hb' e' R' => ⟨rs, Hb', (e2.trans e3).trans e', R', h2⟩
      | bk =>
        cases h2
        exact fun σ' H' Hb' e' R' => q σ' H' Hb' ((e2.trans e3).trans e') R'
      | rt d =>
        cases h2
        exact fun v σ' H' Hb' e' R' r' => q v σ' H' Hb' ((e2.trans e3).trans e') R' r'
      | ex c n =>
        cases h2
        exact T.up q (e2.trans e3)
    · rw [if_neg hc] at h2 ⊢
      cases h2
      exact q σ2 H3 Hb3 (e2.trans e3) R3
  walk_at "zz"

/-! ### comprehensions -/
theorem wipeS_get : ∀ (vs : List Nat) (s : Sto) (j : Nat), j ∉ vs → (wipeS s vs)[j]? = s[j]?
  | [], s, j, _ => rfl
  | v :: vs, s, j, h => by
    show ((wipeS s vs).set v .un)[j]? = _
    rw [List.getElem?_set_ne (fun z => h (by rw [z]; exact List.mem_cons_self)), wipeS_get vs s j fun z => h (List.mem_cons_of_mem _ z)]
theorem wipeS_len : ∀ (vs : List Nat) (s : Sto), (wipeS s vs).length = s.length
  | [], _ => rfl
  | v :: vs, s => by
    show ((wipeS s vs).set v .un).length = _
    rw [List.length_set, wipeS_len vs]
theorem wipeS_at : ∀ (vs : List Nat) (s : Sto) (j : Nat), j ∈ vs → j < s.length → (wipeS s vs)[j]? = some .un
  | v :: vs, s, j, h, hl => by
    show ((wipeS s vs).set v .un)[j]? = _
    by_cases h1 : v = j
    · subst h1
      rw [List.getElem?_set_self (by rw [wipeS_len]; exact hl)]
    · rw [List.getElem?_set_ne h1]
      rcases List.mem_cons.mp h with z | z
      · exact absurd z.symm h1
      · exact wipeS_at vs s j z hl
theorem backS_get : ∀ (vs : List Nat) (s0 s : Sto) (j : Nat), j ∉ vs → (backS s0 s vs)[j]? = s[j]?
  | [], s0, s, j, _ => rfl
  | v :: vs, s0, s, j, h => by
    show ((backS s0 s vs).set v ((s0[v]?.getD .un).back))[j]? = _
    rw [List.getElem?_set_ne (fun z => h (by rw [z]; exact List.mem_cons_self)), backS_get vs s0 s j fun z => h (List.mem_cons_of_mem _ z)]
theorem backS_len : ∀ (vs : List Nat) (s0 s : Sto), (backS s0 s vs).length = s.length
  | [], _, _ => rfl
  | v :: vs, s0, s => by
    show ((backS s0 s vs).set v _).length = _
    rw [List.length_set, backS_len vs]
theorem backS_at : ∀ (vs : List Nat) (s0 s : Sto) (j : Nat), j ∈ vs → j < s.length → (backS s0 s vs)[j]? = some ((s0[j]?.getD .un).back)
  | v :: vs, s0, s, j, h, hl => by
    show ((backS s0 s vs).set v ((s0[v]?.getD .un).back))[j]? = _
    by_cases h1 : v = j
    · subst h1
      rw [List.getElem?_set_self (by rw [backS_len]; exact hl)]
    · rw [List.getElem?_set_ne h1]
      rcases List.mem_cons.mp h with z | z
      · exact absurd z.symm h1
      · exact backS_at vs s0 s j z hl
theorem Rw.wipe (R : Rw K f σ H s Hb) (vs : List Nat) : Rw K f (L2.wipe σ vs) H (wipeS s vs) Hb where
  hb := R.hb
  up := R.up
  ag := R.ag
  kp := R.kp
  os := R.os
  len := by rw [wipeS_len, wipe_len]; exact R.len
  ok := fun i sv o h1 h2 => by
    by_cases hi : i ∈ vs
    · have hl : i < s.length := by
        have := (List.getElem?_eq_some_iff.mp h1).1
        rw [wipeS_len] at this
        exact this
      rw [wipeS_at vs s i hi hl] at h1
      cases h1
      trivial
    · rw [wipeS_get vs s i hi] at h1
      rw [wipe_get vs σ i hi] at h2
      exact R.ok i sv o h1 h2
  dist := fun a b sa sb hab ha hb oa ob => by
    have nv : ∀ (c : Nat) (sc : SV), (wipeS s vs)[c]? = some sc → sc.owns = true → c ∉ vs := fun c sc h o hc => by
      have hl : c < s.length := by
        have := (List.getElem?_eq_some_iff.mp h).1
        rw [wipeS_len] at this
        exact this
      rw [wipeS_at vs s c hc hl] at h
      cases h
      cases o
    have na := nv a sa ha oa
    have nb := nv b sb hb ob
    rw [wipeS_get vs s a na] at ha
    rw [wipeS_get vs s b nb] at hb
    rw [wipe_get vs σ a na, wipe_get vs σ b nb]
    exact R.dist a b sa sb hab ha hb oa ob
theorem Rw.back {s1 t : Sto} {Hb1 Hb2 : Hp} {H1 H2 : Hp} {vs : List Nat} (R1 : Rw K f σ H1 s1 Hb1) (R2 : Rw K f (L2.wipe σ vs) H2 (wipeS t vs) Hb2) (e : Ex Hb1 Hb2) : Rw K f σ H2 (backS s1 (wipeS t vs) vs) Hb2 where
  hb := R2.hb
  up := R2.up
  ag := R2.ag
  kp := R2.kp
  os := R2.os
  len := by
    have := R2.len
    rw [wipe_len] at this
    rw [backS_len]
    exact this
  ok := fun i sv o h1 h2 => by
    by_cases hi : i ∈ vs
    · have hl : i < (wipeS t vs).length := by
        have := (List.getElem?_eq_some_iff.mp h1).1
        rw [backS_len] at this
        exact this
      rw [backS_at vs s1 _ i hi hl] at h1
      cases h1
      cases e1 : s1[i]? with
      | none => trivial
      | some sx =>
        have k := R1.ok i sx o e1 h2
        cases sx with
        | dat d =>
          obtain ⟨v, rfl, r⟩ := k
          exact ⟨v, rfl, r.up e⟩
        | _ => trivial
    · rw [backS_get vs s1 _ i hi] at h1
      rw [← wipe_get vs σ i hi] at h2
      exact R2.ok i sv o h1 h2
  dist := fun a b sa sb hab ha hb oa ob => by
    have nv : ∀ (c : Nat) (sc : SV), (backS s1 (wipeS t vs) vs)[c]? = some sc → sc.owns = true → c ∉ vs := fun c sc h o hc => by
      have hl : c < (wipeS t vs).length := by
        have := (List.getElem?_eq_some_iff.mp h).1
        rw [backS_len] at this
        exact this
      rw [backS_at vs s1 _ c hc hl] at h
      cases h
      cases e1 : s1[c]? with
      | none => rw [e1] at o; cases o
      | some sx =>
        rw [e1] at o
        cases sx <;> cases o
    have na := nv a sa ha oa
    have nb := nv b sb hb ob
    rw [backS_get vs s1 _ a na] at ha
    rw [backS_get vs s1 _ b nb] at hb
    rw [← wipe_get vs σ a na, ← wipe_get vs σ b nb]
    exact R2.dist a b sa sb hab ha hb oa ob
theorem Rw.guard (R : Rw K f σ H s Hb) {p : Addr} {o : HO} (h0 : Hb p = none) (h1 : f.P p = none) (h2 : f.os ≠ some p) (h3 : H p = some o) (h5 : ∀ (j : Nat) (sv : SV), s[j]? = some sv → sv.owns = true → σ[j]? ≠ some (some (.ref p))) : Rw K (f.grd p o) σ H s Hb where
  hb := R.hb
  up := R.up
  ag := fun a ha hx => by
    by_cases e : a = p
    · subst e
      rw [h0]
      exact (fresh_back R.up h0).symm
    · refine R.ag a (fun z => ha ?_) (fun xs z => hx xs ?_)
      · show upd f.P p o a = none
        rw [upd_ne e]
        exact z
      · show upd f.P p o a = _
        rw [upd_ne e]
        exact z
  kp := fun a u h => by
    have h : upd f.P p o a = some u := h
    by_cases e : a = p
    · subst e
      rw [upd_same] at h
      cases h
      exact h3
    · rw [upd_ne e] at h
      exact R.kp a u h
  os := fun l h => by
    obtain ⟨k1, k2, k3⟩ := R.os l h
    refine ⟨k1, ?_, k3⟩
    show upd f.P p o l = none
    have h : f.os = some l := h
    rw [upd_ne (fun z => h2 (by rw [h, z]))]
    exact k2
  len := R.len
  ok := fun i sv ov g1 g2 => by
    have k := R.ok i sv ov g1 g2
    cases sv with
    | un => trivial
    | dat d => exact k
    | box b0 =>
      obtain ⟨l, vs, rfl, a1, a2, a3, a4, a5⟩ := k
      refine ⟨l, vs, rfl, a1, ?_, a3, a4, a5⟩
      show upd f.P p o l = none
      rw [upd_ne (fun z => h5 i _ g1 rfl (by rw [g2, z]))]
      exact a2
    | own ds =>
      obtain ⟨l, vs, rfl, a1, a2, a3, a4, a5⟩ := k
      refine ⟨l, vs, rfl, a1, ?_, a3, a4, a5⟩
      show upd f.P p o l = none
      rw [upd_ne (fun z => h5 i _ g1 rfl (by rw [g2, z]))]
      exact a2
    | par ds =>
      obtain ⟨l, vs, rfl, a1, a2, a4, a5⟩ := k
      exact ⟨l, vs, rfl, a1, a2, a4, a5⟩
  dist := R.dist
theorem Rw.unguard {p : Addr} {o : HO} (R : Rw K (f.grd p o) σ H s Hb) (h1 : f.P p = none) (hB : f.B p = none) (ho : ∀ xs, o ≠ .tup xs := by intro xs z; cases z) : Rw K f σ H s Hb ∧ Hb p = none ∧ H p = some o ∧ ∀ (j : Nat) (sv : SV), s[j]? = some sv → sv.owns = true → σ[j]? ≠ some (some (.ref p)) := by
  refine keepG ?_ ?_
  have hp : (f.grd p o).P p = some o := upd_same
  have hbp : Hb p = none := by
    have := R.ag p (by rw [hp]; simp) (by rw [hp]; exact fun xs z => ho xs (Option.some.inj z))
    rw [this]
    exact hB
  refine ⟨⟨R.hb, R.up, fun a ha hx => R.ag a (fun z => ?_) (fun xs z => ?_), fun a u h => R.kp a u ?_, fun l h => ?_, R.len, fun i sv ov g1 g2 => ?_, R.dist⟩, hbp, R.kp p o hp, fun j sv g ow e => ?_⟩
  · have z : upd f.P p o a = none := z
    by_cases e : a = p
    · subst e; rw [upd_same] at z; cases z
    · rw [upd_ne e] at z; exact ha z
  · have z : upd f.P p o a = some (.tup xs) := z
    by_cases e : a = p
    · subst e; exact ha h1
    · rw [upd_ne e] at z; exact hx xs z
  · show upd f.P p o a = some u
    rw [upd_ne (fun z => by rw [z, h1] at h; cases h)]
    exact h
  · obtain ⟨k1, k2, k3⟩ := R.os l h
    refine ⟨k1, ?_, k3⟩
    have k2 : upd f.P p o l = none := k2
    by_cases e : l = p
    · subst e; exact h1
    · rw [upd_ne e] at k2; exact k2
  · have k := R.ok i sv ov g1 g2
    cases sv with
    | un => trivial
    | dat d => exact k
    | box b0 =>
      obtain ⟨l, vs, rfl, a1, a2, a3, a4, a5⟩ := k
      refine ⟨l, vs, rfl, a1, ?_, a3, a4, a5⟩
      have a2 : upd f.P p o l = none := a2
      by_cases e : l = p
      · subst e; exact h1
      · rw [upd_ne e] at a2; exact a2
    | own ds =>
      obtain ⟨l, vs, rfl, a1, a2, a3, a4, a5⟩ := k
      refine ⟨l, vs, rfl, a1, ?_, a3, a4, a5⟩
      have a2 : upd f.P p o l = none := a2
      by_cases e : l = p
      · subst e; exact h1
      · rw [upd_ne e] at a2; exact a2
    | par ds =>
      obtain ⟨l, vs, rfl, a1, a2, a4, a5⟩ := k
      exact ⟨l, vs, rfl, a1, a2, a4, a5⟩
  · obtain ⟨l, ws, q1, _, q3, _⟩ := R.owned g ow
    rw [e] at q1
    cases q1
    rw [hp] at q3
    cases q3
  walk_at "zz"
/-- the new list grows -/
theorem Rw.bump (R : Rw K f σ H s Hb) {p : Addr} {ws : List V} (h0 : Hb p = none) (h1 : f.P p = none) (h2 : f.os ≠ some p) (h5 : ∀ (j : Nat) (sv : SV), s[j]? = some sv → sv.owns = true → σ[j]? ≠ some (some (.ref p))) : Rw K f σ (upd H p (.lst ws)) s Hb where
  hb := Ex.mut R.hb h0
  up := R.up
  ag := R.ag
  kp := fun a o h => by
    rw [upd_ne (fun z => by rw [z, h1] at h; cases h)]
    exact R.kp a o h
  os := fun l h => by
    obtain ⟨k1, k2, vs, k3⟩ := R.os l h
    exact ⟨k1, k2, vs, by rw [upd_ne (fun z => h2 (by rw [h, z]))]; exact k3⟩
  len := R.len
  ok := fun i sv ov g1 g2 => by
    have k := R.ok i sv ov g1 g2
    cases sv with
    | un => trivial
    | dat d => exact k
    | box b0 =>
      obtain ⟨l, vs, rfl, a1, a2, a3, a4, a5⟩ := k
      exact ⟨l, vs, rfl, a1, a2, a3, by rw [upd_ne (fun z => h5 i _ g1 rfl (by rw [g2, z]))]; exact a4, a5⟩
    | own ds =>
      obtain ⟨l, vs, rfl, a1, a2, a3, a4, a5⟩ := k
      exact ⟨l, vs, rfl, a1, a2, a3, by rw [upd_ne (fun z => h5 i _ g1 rfl (by rw [g2, z]))]; exact a4, a5⟩
    | par ds =>
      obtain ⟨l, vs, rfl, a1, a2, a4, a5⟩ := k
      exact ⟨l, vs, rfl, a1, a2, by rw [upd_ne (fun z => h5 i _ g1 rfl (by rw [g2, z]))]; exact a4, a5⟩
  dist := R.dist
theorem snd_yes : SndT K tYes mYes := by
  refine keepG ?_ ?_
  intro f σ H s Hb b s' R h Q q
  cases h
  exact q H Hb (Ex.refl _) R
  walk_at "zz"
theorem owns_wipe {vs : List Nat} {t : Sto} {p : Addr} (h : ∀ (j : Nat) (sv : SV), t[j]? = some sv → sv.owns = true → σ[j]? ≠ some (some (.ref p))) : ∀ (j : Nat) (sv : SV), (wipeS t vs)[j]? = some sv → sv.owns = true → (L2.wipe σ vs)[j]? ≠ some (some (.ref p)) := fun j sv g o => by
  have nj : j ∉ vs := fun hc => by
    have hl : j < t.length := by
      have := (List.getElem?_eq_some_iff.mp g).1
      rw [wipeS_len] at this
      exact this
    rw [wipeS_at vs t j hc hl] at g
    cases g
    cases o
  rw [wipeS_get vs t j nj] at g
  rw [wipe_get vs σ j nj]
  exact h j sv g o
theorem snd_lc {wi : TI} {mi : MI} {vs : List Nat} (hi : SndI K wi mi) (hg : SndG K g mg ws) (ht : SndT K t mt) (he : SndE K te me) (hw : ∀ w ∈ ws, w ∈ vs) : SndF K (tLc wi g t te vs) (mLc mi mg mt me vs) := by
  refine keepG ?_ ?_
  intro f σ H s Hb ds s' R h Q q
  obtain ⟨a, g1, h⟩ := bnd h
  obtain ⟨items, s1⟩ := a
  obtain ⟨b, g2, h⟩ := bnd h
  obtain ⟨ds', s2⟩ := b
  obtain ⟨rfl, rfl⟩ : ds' = ds ∧ backS s1 (wipeS s2 vs) vs = s' := by
    cases h
    exact ⟨rfl, rfl⟩
  refine hi f σ H s Hb _ _ R g1 _ fun J H1 Hb1 e1 R1 it Dl hD => ?_
  obtain ⟨z0, z1, z2⟩ := R1.fresh hD
  have A1 := R1.alloc (vs := []) (ds := []) hD .nil
  refine ⟨fun i m H => ∃ (t : Sto) (Hb2 : Hp) (acc : List D) (va : List V), Ex Hb1 Hb2 ∧ Rw K f (L2.wipe σ vs) H (wipeS t vs) Hb2 ∧ Hb2 Dl = none ∧ H Dl = some (.lst va) ∧ RepL K Hb2 va acc ∧
    (∀ (j : Nat) (sv : SV), (wipeS t vs)[j]? = some sv → sv.owns = true → (L2.wipe σ vs)[j]? ≠ some (some (.ref Dl))) ∧ compD vs mg mt me (items.drop i) acc t = some (ds', s2) ∧ m = items.length - i,
    ⟨items.length, s1, Hb1, [], [], Ex.refl _, A1.1.wipe vs, z0, upd_same, .nil, owns_wipe A1.2.h5, g2, rfl⟩, ?_⟩
  rintro i m H2 ⟨t2, Hb2, acc, va, e2, R2, n0, n3, n4, n5, h2, rfl⟩
  obtain ⟨k1, k2⟩ := it f _ H2 _ Hb2 e2 R2 i
  by_cases hi : i < items.length
  · rw [List.drop_eq_getElem_cons hi] at h2
    obtain ⟨t3, h3, h2⟩ := bnd h2
    obtain ⟨c, h4, h2⟩ := bnd h2
    obtain ⟨go, _⟩ := k1 _ (List.getElem?_eq_getElem hi)
    have G2 := R2.guard n0 z1 z2 n3 n5
    have hB : f.B Dl = none := fresh_back R2.up n0
    obtain ⟨kg1, _⟩ := it (f.grd Dl (.lst va)) _ H2 _ Hb2 e2 G2 i
    obtain ⟨_, yl⟩ := kg1 _ (List.getElem?_eq_getElem hi)
    refine .inr ⟨go, fun H' => ∃ (t : Sto) (Hb2 : Hp) (acc : List D) (va : List V), Ex Hb1 Hb2 ∧ Rw K f (L2.wipe σ vs) H' (wipeS t vs) Hb2 ∧ Hb2 Dl = none ∧ H' Dl = some (.lst va) ∧ RepL K Hb2 va acc ∧
      (∀ (j : Nat) (sv : SV), (wipeS t vs)[j]? = some sv → sv.owns = true → (L2.wipe σ vs)[j]? ≠ some (some (.ref Dl))) ∧ compD vs mg mt me (items.drop (i + 1)) acc t = some (ds', s2),
      fun H' ⟨t', Hb', acc', va', x1, x2, x3, x4, x5, x6, x7⟩ => ⟨items.length - (i + 1), by omega, t', Hb', acc', va', x1, x2, x3, x4, x5, x6, x7, rfl⟩, fun x H' y => ?_⟩
    obtain ⟨Hb3, e3, G3, r3⟩ := yl x H' y
    refine hg _ _ H' _ Hb3 _ _ _ G3 r3 h3 _ fun σ4 H4 Hb4 e4 G4 hw4 => ?_
    have ew : L2.wipe σ4 vs = L2.wipe σ vs := (hw4 vs hw).trans (wipe_wipe σ vs)
    refine ⟨ew, ?_⟩
    refine ht _ σ4 H4 _ Hb4 _ _ G4 h4 _ fun H5 Hb5 e5 G5 => ?_
    have e15 : Ex Hb1 Hb5 := ((e2.trans e3).trans e4).trans e5
    by_cases hc : c.1 = true
    · rw [if_pos hc] at h2 ⊢
      obtain ⟨r, h6, h2⟩ := bnd h2
      obtain ⟨b, h7, h2⟩ := bnd h2
      by_cases hl : acc.length < 16000000
      · rw [if_pos hl] at h2
        refine he _ σ4 H5 _ Hb5 _ _ G5 h6 _ fun v H6 Hb6 e6 G6 r6 => ?_
        obtain ⟨Hb7, e7, G7, r7⟩ := frz_ok G6 r6 h7
        obtain ⟨R7, m0, m3, m5⟩ := G7.unguard z1 hB
        have e27 : Ex Hb2 Hb7 := ((((e3.trans e4).trans e5).trans e6).trans e7)
        refine ⟨va, m3, lim_lt (by rw [n4.len]; exact hl), b.2, Hb7, acc ++ [b.1], va ++ [v], e2.trans e27, ?_, m0, upd_same, (n4.up e27).app (.cons r7 .nil), ?_, h2⟩
        · have := (R7.bump (ws := va ++ [v]) m0 z1 z2 m5).wipe vs
          rw [ew] at this
          exact this
        · have := owns_wipe (vs := vs) m5
          rw [ew] at this
          exact this
      · rw [if_neg hl] at h2
        cases h2
    · rw [if_neg hc] at h2 ⊢
      obtain ⟨R5, m0, m3, m5⟩ := G5.unguard z1 hB
      refine ⟨c.2, Hb5, acc, va, e15, ?_, m0, m3, n4.up ((e3.trans e4).trans e5), ?_, h2⟩
      · have := R5.wipe vs
        rw [ew] at this
        exact this
      · have := owns_wipe (vs := vs) m5
        rw [ew] at this
        exact this
  · rw [List.drop_eq_nil_of_le (by omega)] at h2
    cases h2
    refine .inl ⟨k2 (by omega), q Dl H2 Hb2 (e1.trans e2) (R1.back R2 e2) ⟨n0, z1, z2, ⟨va, n3, n4⟩, fun j sv g o => ?_⟩⟩
    have nv : j ∉ vs := fun hc => by
      have hl : j < (wipeS s2 vs).length := by
        have := (List.getElem?_eq_some_iff.mp g).1
        rw [backS_len] at this
        exact this
      rw [backS_at vs s1 _ j hc hl] at g
      cases g
      cases e1 : s1[j]? with
      | none => rw [e1] at o; cases o
      | some sx =>
        rw [e1] at o
        cases sx <;> cases o
    rw [backS_get vs s1 _ j nv] at g
    rw [← wipe_get vs σ j nv]
    exact n5 j sv g o
  walk_at "zz"
end
end
end Mi

namespace Mi
open PySem PySem.Spec PyProof.Rows L2 Evl

/-! ### defs: what they promise, their calls -/
structure ArgsOk (K : PySem.W.Frag) (H Hb : Hp) (os : Option Addr) (vs : List V) (ps : List SV) : Prop where
  len : vs.length = ps.length
  ok : ∀ (i : Nat) (sv : SV), ps[i]? = some sv → ∃ v, vs[i]? = some v ∧ ((∃ d, sv = .dat d ∧ Rep K Hb v d) ∨ ∃ ds l ws, sv = .par ds ∧ v = .ref l ∧ os = some l ∧ H l = some (.lst ws) ∧ RepL K Hb ws ds)
  one : ∀ (i j : Nat) (si sj : SV), i ≠ j → ps[i]? = some si → ps[j]? = some sj → si.owns = true → sj.owns = true → False
structure PostM (K : PySem.W.Frag) (H Hb : Hp) (os : Option Addr) (fin : Option (List D)) (H' Hb' : Hp) : Prop where
  e1 : Ex Hb Hb'
  e2 : Ex Hb' H'
  ag : ∀ a, H a ≠ none → (∀ xs, H a ≠ some (.tup xs)) → Hb' a = Hb a
  kp : ∀ a o, os ≠ some a → H a = some o → H' a = some o
  fin : ∀ l, os = some l → ∃ ds ws, fin = some ds ∧ H' l = some (.lst ws) ∧ RepL K Hb' ws ds
def spM (K : PySem.W.Frag) (m : Mf) : Sp := fun vs H Q _ => ∃ (Hb : Hp) (os : Option Addr) (ps : List SV) (d : D) (fin : Option (List D)),
  Ex Hb H ∧ ArgsOk K H Hb os vs ps ∧ (∀ l, os = some l → Hb l = none ∧ (∃ vs, H l = some (.lst vs)) ∧ fin.isSome = true) ∧ m ps = some (d, fin) ∧ ∀ v H' Hb', PostM K H Hb os fin H' Hb' → Rep K Hb' v d → Q v H'
def parOf : Sto → Option (List D)
  | [] => none
  | .par ds :: _ => some ds
  | _ :: s => parOf s
def fnM (N n : Nat) (mb : MS) : Mf := fun ps => if ps.length = n then (mb (ps ++ List.replicate (N - n) .un)).bind fun r => match r.1 with
  | .rt d => some (d, parOf r.2)
  | .nx => some (.non, parOf r.2)
  | _ => none
  else none
theorem parOf_at : ∀ {s : Sto} {ds : List D}, parOf s = some ds → ∃ i : Nat, s[i]? = some (SV.par ds)
  | .par es :: s, ds, h => by cases h; exact ⟨0, rfl⟩
  | .un :: s, ds, h => by obtain ⟨i, hi⟩ := parOf_at (s := s) h; exact ⟨i + 1, by simpa using hi⟩
  | .dat _ :: s, ds, h => by obtain ⟨i, hi⟩ := parOf_at (s := s) h; exact ⟨i + 1, by simpa using hi⟩
  | .own _ :: s, ds, h => by obtain ⟨i, hi⟩ := parOf_at (s := s) h; exact ⟨i + 1, by simpa using hi⟩
  | .box (.dic _) :: s, ds, h => by obtain ⟨i, hi⟩ := parOf_at (s := s) h; exact ⟨i + 1, by simpa using hi⟩
  | .box (.dct _) :: s, ds, h => by obtain ⟨i, hi⟩ := parOf_at (s := s) h; exact ⟨i + 1, by simpa using hi⟩
section
variable {K : PySem.W.Frag} {f : Fr} {σ : L2.St} {H H' Hb Hb' : Hp} {s s' : Sto}
theorem start_at {N : List Str} {vs : List V} {i : Nat} {v : V} (h : vs[i]? = some v) : (L2.start N vs)[i]? = some (some v) := by
  refine keepG ?_ ?_
  have hl := (List.getElem?_eq_some_iff.mp h).1
  unfold L2.start
  rw [List.getElem?_append_left (by rw [List.length_map]; exact hl), List.getElem?_map, h]
  rfl
  walk_at "zz"
theorem start_len {N : List Str} {vs : List V} (h : vs.length ≤ N.length) : (L2.start N vs).length = N.length := by
  refine keepG ?_ ?_
  unfold L2.start
  rw [List.length_append, List.length_map, List.length_replicate]
  omega
  walk_at "zz"
/-- a def's body, from its promise -/
theorem fn_body {N : List Str} {n : Nat} {ts : TS} {mb : MS} (hn : n ≤ N.length) (h : SndS K .no ts mb) {vs : List V} {H : Hp} {Q : VK} {E : XK} (sp : spM K (fnM N.length n mb) vs H Q E) :
    vs.length = n ∧ ts { nx := fun _ H' => Q .non H', rt := Q } (L2.start N vs) H := by
  refine keepG ?_ ?_
  obtain ⟨Hb, os, ps, d, fin, e, A, ho, hm, q⟩ := sp
  unfold fnM at hm
  by_cases hl : ps.length = n
  · rw [if_pos hl] at hm
    have hv : vs.length = n := by rw [A.len]; exact hl
    refine ⟨hv, ?_⟩
    obtain ⟨r, h1, hm⟩ := bnd hm
    obtain ⟨ro, rs⟩ := r
    have R : Rw K ⟨fun a => if os = some a then none else H a, Hb, os⟩ (L2.start N vs) H (ps ++ List.replicate (N.length - n) .un) Hb := by
      refine ⟨e, Ex.refl _, fun _ _ _ => rfl, fun a o h => ?_, fun l hl => ?_, ?_, fun i sv o g1 g2 => ?_, fun i j si sj hij g1 g2 o1 o2 => ?_⟩
      · have h : (if os = some a then none else H a) = some o := h
        by_cases ha : os = some a
        · rw [if_pos ha] at h; cases h
        · rw [if_neg ha] at h; exact h
      · have hl : os = some l := hl
        obtain ⟨h1, h2, _⟩ := ho l hl
        refine ⟨h1, ?_, h2⟩
        show (if os = some l then none else H l) = none
        rw [if_pos hl]
      · rw [start_len (by omega), List.length_append, List.length_replicate, hl]
        omega
      · by_cases hi : i < ps.length
        · rw [List.getElem?_append_left hi] at g1
          obtain ⟨v, hv1, k⟩ := A.ok i sv g1
          rw [start_at hv1] at g2
          cases g2
          rcases k with ⟨d, rfl, r⟩ | ⟨ds, l, ws, rfl, rfl, h2, h3, h4⟩
          · exact ⟨v, rfl, r⟩
          · exact ⟨l, ws, rfl, (ho l h2).1, h2, h3, h4⟩
        · rw [List.getElem?_append_right (by omega)] at g1
          have : sv = .un := by
            have := List.mem_of_getElem? g1
            exact (List.mem_replicate.mp this).2
          subst this
          trivial
      · have lt : ∀ (i : Nat) (si : SV), (ps ++ List.replicate (N.length - n) SV.un)[i]? = some si → si.owns = true → ps[i]? = some si := fun i si g o => by
          by_cases hi : i < ps.length
          · rw [List.getElem?_append_left hi] at g
            exact g
          · rw [List.getElem?_append_right (by omega)] at g
            have := (List.mem_replicate.mp (List.mem_of_getElem? g)).2
            subst this
            cases o
        exact absurd (A.one i j si sj hij (lt i si g1 o1) (lt j sj g2 o2) o1 o2) (fun z => z)
    have post : ∀ σ' H' Hb', Rw K ⟨fun a => if os = some a then none else H a, Hb, os⟩ σ' H' rs Hb' → fin = parOf rs → PostM K H Hb os fin H' Hb' := fun σ' H' Hb' R' hf => by
      refine ⟨R'.up, R'.hb, fun a ha hx => ?_, fun a o h1 h2 => R'.kp a o ?_, fun l h1 => ?_⟩
      · by_cases ho' : os = some a
        · rw [(R'.os a ho').1, (ho a ho').1]
        · refine R'.ag a ?_ ?_
          · show (if os = some a then none else H a) ≠ none
            rw [if_neg ho']
            exact ha
          · show ∀ xs, (if os = some a then none else H a) ≠ _
            rw [if_neg ho']
            exact hx
      · show (if os = some a then none else H a) = some o
        rw [if_neg h1]
        exact h2
      · obtain ⟨_, _, h3⟩ := ho l h1
        rw [hf] at h3
        cases hp : parOf rs with
        | none => rw [hp] at h3; cases h3
        | some ds =>
          obtain ⟨i, hi⟩ := parOf_at hp
          obtain ⟨o, ho2, l', ws, rfl, k1, k2, k3, k4⟩ := R'.slot hi
          have k2 : os = some l' := k2
          rw [h1] at k2
          cases k2
          exact ⟨ds, ws, by rw [hf, hp], k3, k4⟩
    refine h _ _ _ _ _ _ _ R h1 _ ?_
    cases ro with
    | nx =>
      cases hm
      exact fun σ' H' Hb' _ R' => q _ H' Hb' (post σ' H' Hb' R' rfl) .non
    | rt d' =>
      cases hm
      exact fun v σ' H' Hb' _ R' r' => q v H' Hb' (post σ' H' Hb' R' rfl) r'
    | bk => cases hm
    | ct => cases hm
    | ex c n => cases hm
  · rw [if_neg hl] at hm
    cases hm
  walk_at "zz"

/-! the call -/
def cArgs (par : Option Nat) : Nat → List Bv → Sto → Option (List SV × Sto)
  | _, [], s => some ([], s)
  | i, b :: bs, s => if par = some i then (match b with
      | .slot j => (lsAt s j).bind fun ds => (cArgs par (i + 1) bs s).bind fun q => some (.par ds :: q.1, q.2)
      | .dat _ => none)
    else (frz s b).bind fun r => (cArgs par (i + 1) bs r.2).bind fun q => some (.dat r.1 :: q.1, q.2)
def callEnd (bs : List Bv) (s sf : Sto) (d : D) (fin : Option (List D)) : Option Nat → Option (Bv × Sto)
  | none => some (.dat d, if d.scal = true then s else sf)
  | some k => bs[k]?.bind fun b => match b with
    | .slot j => fin.bind fun es => (lsAt sf j).bind fun _ => (putAt (if d.scal = true ∧ es.all D.scal = true then s else sf) j es).bind fun s' => some (.dat d, s')
    | .dat _ => none
def mCall (m : Mf) (par : Option Nat) (ma : MA) : ME := fun s => (ma s).bind fun a => (cArgs par 0 a.1 a.2).bind fun c => (m c.1).bind fun q => callEnd a.1 a.2 c.2 q.1 q.2 par
theorem cArgs_ok {par : Option Nat} : ∀ {i : Nat} {s : Sto} {Hb : Hp} {vs : List V} {bs : List Bv} {ps : List SV} {s' : Sto}, Rw K f σ H s Hb → RepBs K σ Hb vs bs → cArgs par i bs s = some (ps, s') →
    ∃ Hb', Ex Hb Hb' ∧ Rw K f σ H s' Hb' ∧ vs.length = ps.length ∧ ∀ (x : Nat) (sv : SV), ps[x]? = some sv → ∃ v, vs[x]? = some v ∧ ((∃ d, sv = .dat d ∧ Rep K Hb' v d ∧ par ≠ some (i + x)) ∨
      ∃ ds l ws j, sv = .par ds ∧ v = .ref l ∧ par = some (i + x) ∧ bs[x]? = some (.slot j) ∧ σ[j]? = some (some (.ref l)) ∧ H l = some (.lst ws) ∧ RepL K Hb' ws ds)
  | i, s, Hb, [], [], _, _, R, _, h => by
    cases h
    exact ⟨Hb, Ex.refl _, R, rfl, fun x sv e => by simp at e⟩
  | i, s, Hb, v :: vs, b :: bs, ps, s', R, r, h => by
    unfold cArgs at h
    by_cases hp : par = some i
    · rw [if_pos hp] at h
      cases b with
      | dat d => cases h
      | slot j =>
        obtain ⟨ds, h1, h⟩ := bnd h
        obtain ⟨q, h2, h⟩ := bnd h
        cases h
        obtain ⟨l, ws, k1, k2, k3⟩ := R.lst h1
        have hv : σ[j]? = some (some v) := r.1
        rw [k1] at hv
        cases hv
        obtain ⟨Hb', e, R', hl, ok⟩ := cArgs_ok R r.2 h2
        refine ⟨Hb', e, R', by rw [List.length_cons, List.length_cons, hl], fun x sv g => ?_⟩
        cases x with
        | zero =>
          have : SV.par ds = sv := by simpa using g
          subst this
          exact ⟨_, rfl, .inr ⟨ds, l, ws, j, rfl, rfl, hp, rfl, k1, k2, k3.up e⟩⟩
        | succ x =>
          obtain ⟨w, w1, w2⟩ := ok x sv (by simpa using g)
          refine ⟨w, by simpa using w1, ?_⟩
          rw [show i + (x + 1) = i + 1 + x by omega]
          rcases w2 with w2 | ⟨ds', l', ws', j', y1, y2, y3, y4, y5⟩
          · exact .inl w2
          · exact .inr ⟨ds', l', ws', j', y1, y2, y3, by simpa using y4, y5⟩
    · rw [if_neg hp] at h
      obtain ⟨d, h1, h⟩ := bnd h
      obtain ⟨q, h2, h⟩ := bnd h
      cases h
      obtain ⟨Hb1, e1, R1, r1⟩ := frz_ok R r.1 h1
      obtain ⟨Hb', e, R', hl, ok⟩ := cArgs_ok R1 (r.2.up e1) h2
      refine ⟨Hb', e1.trans e, R', by rw [List.length_cons, List.length_cons, hl], fun x sv g => ?_⟩
      cases x with
      | zero =>
        have : SV.dat d.1 = sv := by simpa using g
        subst this
        exact ⟨_, rfl, .inl ⟨d.1, rfl, r1.up e, hp⟩⟩
      | succ x =>
        obtain ⟨w, w1, w2⟩ := ok x sv (by simpa using g)
        refine ⟨w, by simpa using w1, ?_⟩
        rw [show i + (x + 1) = i + 1 + x by omega]
        rcases w2 with w2 | ⟨ds', l', ws', j', y1, y2, y3, y4, y5⟩
        · exact .inl w2
        · exact .inr ⟨ds', l', ws', j', y1, y2, y3, by simpa using y4, y5⟩
  | _, _, _, [], _ :: _, _, _, _, h, _ => h.elim
  | _, _, _, _ :: _, [], _, _, _, h, _ => h.elim
theorem putAt_of {j : Nat} {es : List D} (h : putAt s j es = some s') : ∃ sv ds, s[j]? = some sv ∧ sv.ls = some ds ∧ s' = s.set j (sv.put es) := by
  refine keepG ?_ ?_
  unfold putAt at h
  cases e : s[j]? with
  | none => simp [e] at h
  | some sv =>
    cases sv with
    | un => simp [e] at h
    | dat d => simp [e] at h
    | box b0 => simp [e] at h
    | own d => simp [e] at h; subst h; exact ⟨_, _, rfl, rfl, rfl⟩
    | par d => simp [e] at h; subst h; exact ⟨_, _, rfl, rfl, rfl⟩
  walk_at "zz"
theorem snd_call {ta : TA} {ma : MA} {m : Mf} (par : Option Nat) {E : XK} (ha : SndA K ta ma) : SndE K (tCall (spM K m) [] E ta) (mCall m par ma) := by
  refine keepG ?_ ?_
  intro f σ H s Hb b s' R h Q q
  obtain ⟨a, g1, h⟩ := bnd h
  obtain ⟨c, g2, h⟩ := bnd h
  obtain ⟨r, g3, h⟩ := bnd h
  refine ha f σ H s Hb _ _ R g1 _ fun vs H1 Hb1 e1 R1 r1 => ?_
  obtain ⟨Hb2, e2, R2, hl, ok⟩ := cArgs_ok R1 r1 g2
  show spM K m (vs ++ []) H1 Q E
  rw [List.append_nil]
  obtain ⟨d, fin⟩ := r
  have one : ∀ (i j : Nat) (si sj : SV), i ≠ j → c.1[i]? = some si → c.1[j]? = some sj → si.owns = true → sj.owns = true → False := fun i j si sj hij h1 h2 o1 o2 => by
    obtain ⟨_, _, k1⟩ := ok i si h1
    obtain ⟨_, _, k2⟩ := ok j sj h2
    rcases k1 with ⟨_, rfl, _⟩ | ⟨_, _, _, _, _, _, p1, _⟩
    · cases o1
    · rcases k2 with ⟨_, rfl, _⟩ | ⟨_, _, _, _, _, _, p2, _⟩
      · cases o2
      · rw [p1] at p2
        exact hij (by have := Option.some.inj p2; omega)
  cases par with
  | none =>
    cases h
    refine ⟨Hb2, none, c.1, d, fin, R2.hb, ⟨hl, fun i sv g => ?_, one⟩, (fun l z => by cases z), g3, fun v H' Hb' P rv => ?_⟩
    · obtain ⟨v, h1, k⟩ := ok i sv g
      refine ⟨v, h1, ?_⟩
      rcases k with ⟨d, rfl, k, _⟩ | ⟨_, _, _, _, _, _, p, _⟩
      · exact .inl ⟨d, rfl, k⟩
      · cases p
    · have kp : Ex H1 H' := fun a o h => P.kp a o (by intro z; cases z) h
      by_cases hs : d.scal = true
      · rw [if_pos hs] at q
        exact q v H' Hb1 e1 (R1.step (Ex.refl _) ((e2.trans P.e1).trans P.e2) (fun _ _ _ => rfl) kp) (rv.sc hs Hb1)
      · rw [if_neg hs] at q
        exact q v H' Hb' ((e1.trans e2).trans P.e1) (R2.step P.e1 P.e2 P.ag kp) rv
  | some k =>
    obtain ⟨bk, hk, h⟩ := bnd h
    cases bk with
    | dat x => cases h
    | slot j =>
        cases fin with
        | none => cases h
        | some es =>
          obtain ⟨es0, g40, h⟩ := bnd h
          cases g40
          obtain ⟨ds0, g4, h⟩ := bnd h
          obtain ⟨sv0, x1, x2, _⟩ := lsAt_of g4
          obtain ⟨l, ws, k1, k2, k3, k4, k5⟩ := R2.list x1 x2
          refine ⟨Hb2, some l, c.1, d, some es, R2.hb, ⟨hl, fun i sv g => ?_, one⟩, (fun l' z => by cases z; exact ⟨k2, ⟨ws, k4⟩, rfl⟩), g3, fun v H' Hb' P rv => ?_⟩
          · obtain ⟨v, h1, k⟩ := ok i sv g
            refine ⟨v, h1, ?_⟩
            rcases k with ⟨d, rfl, k, _⟩ | ⟨ds, l', ws', j', y1, y2, y3, y4, y5, y6, y7⟩
            · exact .inl ⟨d, rfl, k⟩
            · rw [Nat.zero_add] at y3
              cases y3
              rw [hk] at y4
              cases y4
              rw [k1] at y5
              cases y5
              exact .inr ⟨ds, l, ws', y1, y2, rfl, y6, y7⟩
          · obtain ⟨es', ws', z1, z2, z3⟩ := P.fin l rfl
            cases z1
            have kp : ∀ a o, a ≠ l → H1 a = some o → H' a = some o := fun a o ha h => P.kp a o (by intro z; cases z; exact ha rfl) h
            obtain ⟨s2, g5, h⟩ := bnd h
            cases h
            by_cases hs : d.scal = true ∧ es.all D.scal = true
            · rw [if_pos hs] at g5
              obtain ⟨sv, dsv, y1, y2, rfl⟩ := putAt_of g5
              exact q v H' Hb1 e1 (R1.stepAt y1 y2 k1 (Ex.refl _) ((e2.trans P.e1).trans P.e2) (fun _ _ _ => rfl) kp z2 (z3.sc hs.2 Hb1)) (rv.sc hs.1 Hb1)
            · rw [if_neg hs] at g5
              obtain ⟨sv, dsv, y1, y2, rfl⟩ := putAt_of g5
              exact q v H' Hb' ((e1.trans e2).trans P.e1) (R2.stepAt y1 y2 k1 P.e1 P.e2 P.ag kp z2 z3) rv
  walk_at "zz"
end
end Mi

namespace Mi
open PySem PySem.Spec PyProof.Rows L2 Evl
/-! ### one row a construct: the text, its reading, its meaning -/
section
variable {X : Cx} {a b c e tg iter : Expr} {es : List Expr} {pos p apos cpos : Pos} {ta tb tc te : TE} {ma mb mc me : ME} {t u : TT} {mt mu : MT} {tas : TA} {mas : MA} {mf : MF} {r : R2}
theorem d_var (i : Nat) {x : Str} (hN : X.N[i]? = some x := by rfl) (hv : Vis X.env.scope x := by first | exact Or.inl rfl | exact Or.inr (Or.inl rfl) | exact Or.inr (Or.inr rfl)) (hd : (x == ("__debug__" : Str)) = false := by decide)
    (hcd : (x == ("__classdict__" : Str)) = false := by decide) : PX X (.Name x pos) (tVar i) (mVar i) := ⟨pe_var hN hv hd hcd, snd_var i⟩
theorem d_int {i j} : PX X (.Constant (.int i) j pos) (tC (.int i)) (mC (.int i)) := ⟨pe_int, snd_c fun _ => .int i⟩
theorem d_bl {i j} : PX X (.Constant (.bool i) j pos) (tC (.bl i)) (mC (.bl i)) := ⟨pe_bl, snd_c fun _ => .bl i⟩
theorem d_str {x j} : PX X (.Constant (.str x) j pos) (tC (.str x)) (mC (.str x)) := ⟨pe_str, snd_c fun _ => .str x⟩
theorem d_glob {x : Str} {v : V} {w : Value} {d : D} (hm : X.mg x = some w) (r : RelV v w) (hr : ∀ Hb : Hp, Rep X.K Hb v d) (hg : Gl X x := by rfl) (hd : (x == ("__debug__" : Str)) = false := by decide) : PX X (.Name x pos) (tC v) (mC d) := ⟨pe_glob hg hm r hd, snd_c hr⟩
theorem d_op {op : Operator} {g : D → D → Option D} (ho : OpR X (binaryOp op) r) (hr : SndR X.K r g) (ha : PX X a ta ma) (hb : PX X b tb mb) : PX X (.BinOp a op b pos) (tOp r ta tb) (mBin g ma mb) := ⟨pe_op ho ha.pe hb.pe, snd_bin hr ha.sn hb.sn⟩
theorem d_cmp {op : CmpOp} {g : D → D → Option D} (ho : OpR X (compareOp op) r) (hr : SndR X.K r g) (hm : behindInMarks op b = false) (ha : PX X a ta ma) (hb : PX X b tb mb) : PX X (.Compare a [op] [b] pos) (tOp r ta tb) (mBin g ma mb) := ⟨pe_cmpR ho ha.pe hb.pe hm, snd_bin hr ha.sn hb.sn⟩
theorem d_cmpT {op : CmpOp} {g : D → D → Option D} (ho : OpR X (compareOp op) r) (hr : SndR X.K r g) (hm : behindInMarks op b = false) (ha : PX X a ta ma) (hb : PX X b tb mb) : PXT X (.Compare a [op] [b] pos) (tTest (tOp r ta tb)) (mTest (mBin g ma mb)) := ⟨pt_cmpR ho ha.pe hb.pe hm, snd_test (snd_bin hr ha.sn hb.sn)⟩
theorem d_un {op : UnaryOp} {r : V → Hp → VK → Prop} {g : D → Option D} (ho : UnR X (unaryOp op) r) (hr : SndU X.K r g) (ha : PX X a ta ma) : PX X (.UnaryOp op a pos) (tUn r ta) (mUn g ma) := ⟨pe_un ho ha.pe, snd_un hr ha.sn⟩
theorem d_nil : PXA X [] tNil aNil := ⟨pa_nil, snd_nil⟩
theorem d_cons (ha : PX X e te me) (hr : PXA X es tas mas) (hs : starEach (e :: es) X.env = (false, eval e X.env) :: starEach es X.env := by rfl) : PXA X (e :: es) (tCons te tas) (aCons me mas) := ⟨pa_cons ha.pe hr.pe hs, snd_cons ha.sn hr.sn⟩
theorem d_tup {x1} (h : PXA X es tas mas) : PX X (.Tuple es x1 pos) (tTup tas) (mTup mas) := ⟨pe_tup h.pe, snd_tup h.sn⟩
theorem d_lst (h : PXA X es tas mas) : PXF X (.List es pos) (tLst tas) (mLst mas) := ⟨pe_lst h.pe, snd_lst h.sn⟩
theorem d_F (h : PXF X e te mf) : PX X e te (mF mf) := ⟨h.pe, snd_F h.sn⟩
theorem d_ix {K : PySem.W.Frag} (ha : PX X a ta ma) (hb : PX X b tb mb) (hs : PlainIx b := by exact fun _ _ => rfl) (hK : X.K = K := by rfl) : PX X (.Subscript a b pos) (tOp (rIx K) ta tb) (mBin ixD ma mb) := by
  refine keepG ?_ ?_
  subst hK
  exact ⟨pe_ix ix_seq ha.pe hb.pe hs, snd_bin r_ix ha.sn hb.sn⟩
  walk_at "zz"
theorem d_oN : PXO X none tNoPart oNone := ⟨po_none, snd_oNone⟩
theorem d_oS (ha : PX X a ta ma) : PXO X (some a) (tPart ta) (oSome ma) := ⟨po_some ha.pe, snd_oSome ha.sn⟩
theorem d_sl {K : PySem.W.Frag} {lo hi : Option Expr} {tl th : TO} {ml mh : Sto → Option (Option Int × Sto)} {p2 : Pos} (ha : PX X a ta ma) (hl : PXO X lo tl ml) (hh : PXO X hi th mh) (hK : X.K = K := by rfl) : PX X (.Subscript a (.Slice lo hi none p2) pos) (tSl (rSlP K) ta tl th) (mSl slD ma ml mh) := by
  refine keepG ?_ ?_
  subst hK
  exact ⟨pe_slice sl_P ha.pe hl.pe hh.pe, snd_sl r_sl ha.sn hl.sn hh.sn⟩
  walk_at "zz"
section
variable {x : Str} {id T : String} {rc : List V → Hp → VK → Prop}
theorem d_biB {g : List D → Option D} (hc : CallR X (.builtin id) rc) (hr : SndC X.K rc g) (hm : X.mg x = none) (hv : bootBuiltins x = some (.builtin id)) (ha : PXA X (e :: es) tas mas) (hg : Gl X x := by rfl) (hn : x ≠ "__name__" := by decide) (hdb : (x == ("__debug__" : Str)) = false := by decide)
    (he : starEach (e :: es) X.env = (false, eval e X.env) :: starEach es X.env := by rfl) (hpl : (backTo pos (starEach es X.env)).any (·.1) = false := by rfl) : PX X (.Call (.Name x p) (e :: es) [] pos) (tCB rc tas) (mBi g mas) := ⟨pe_callB hc hg hm hv ha.pe hn hdb he hpl, snd_bi hr ha.sn⟩
theorem d_biT {g : List D → Option D} (hc : CallR X (.type T) rc) (hr : SndC X.K rc g) (hm : X.mg x = none) (hv : bootBuiltins x = some (.type T)) (ha : PXA X (e :: es) tas mas) (hg : Gl X x := by rfl) (hn : x ≠ "__name__" := by decide) (hdb : (x == ("__debug__" : Str)) = false := by decide)
    (he : starEach (e :: es) X.env = (false, eval e X.env) :: starEach es X.env := by rfl) (hpl : (backTo pos (starEach es X.env)).any (·.1) = false := by rfl) : PX X (.Call (.Name x p) (e :: es) [] pos) (tCB rc tas) (mBi g mas) := ⟨pe_callTy hc hg hm hv ha.pe hn hdb he hpl, snd_bi hr ha.sn⟩
theorem d_biTF {g : List D → Option (List D)} (hc : CallR X (.type T) rc) (hr : SndCF X.K rc g) (hm : X.mg x = none) (hv : bootBuiltins x = some (.type T)) (ha : PXA X (e :: es) tas mas) (hg : Gl X x := by rfl) (hn : x ≠ "__name__" := by decide) (hdb : (x == ("__debug__" : Str)) = false := by decide)
    (he : starEach (e :: es) X.env = (false, eval e X.env) :: starEach es X.env := by rfl) (hpl : (backTo pos (starEach es X.env)).any (·.1) = false := by rfl) : PXF X (.Call (.Name x p) (e :: es) [] pos) (tCB rc tas) (mBiF g mas) := ⟨pe_callTy hc hg hm hv ha.pe hn hdb he hpl, snd_biF hr ha.sn⟩
theorem d_call {CX : CXT} {k : Nat} {f : Addr} {fd : FuncData} {ps : List Str} {m : Mf} {P : Program} {w : World} {K : PySem.W.Frag} {mg : Str → Option Value} {base : Heap} (par : Option Nat) (F : FnOk P w K mg base CX k f fd ps (spM K m)) (hr : Room k X.A) (hm : mg x = some (.ref f)) (hk : PySem.W.keepIn K (.ref f) = true) (hb : Binds K fd ps []) (hx : Passes CX X E0) (ha : PXA X (e :: es) tas mas)
    (e1 : X.prog = P := by rfl) (e2 : X.w = w := by rfl) (e3 : X.K = K := by rfl) (e4 : X.mg = mg := by rfl) (e5 : X.base = base := by rfl)
    (hg : Gl X x := by rfl) (hdb : (x == ("__debug__" : Str)) = false := by decide) (he : starEach (e :: es) X.env = (false, eval e X.env) :: starEach es X.env := by rfl) (hpl : (backTo pos (starEach es X.env)).any (·.1) = false := by rfl) :
    PX X (.Call (.Name x p) (e :: es) [] pos) (tCall (spM K m) [] E0 tas) (mCall m par mas) := by
  refine keepG ?_ ?_
  subst e1 e2 e3 e4 e5
  exact ⟨pe_call F hr hg hm hk hb .nil hx ha.pe hdb he hpl, snd_call par ha.sn⟩
  walk_at "zz"
end
theorem d_if (hc : PXT X c t mt) (ha : PX X a ta ma) (hb : PX X b tb mb) : PX X (.IfExp c a b pos) (tIf t ta tb) (mIfE mt ma mb) := ⟨pe_ifExp hc.pe ha.pe hb.pe, snd_ifE hc.sn ha.sn hb.sn⟩
theorem d_truT {K : PySem.W.Frag} (h : PX X e te me) (he : ∀ whole, isTrue e X.env whole = (do let v ← whole; standAt e.pos; holding [v] (truthy v)) := by intro _; rfl) (hK : X.K = K := by rfl) : PXT X e (fun σ H Q => te σ H fun x H' => ∃ k, TruV K x H' k ∧ Q k H') (mTru me) := by
  refine keepG ?_ ?_
  subst hK
  exact ⟨pt_truth h.pe he, snd_tru h.sn⟩
  walk_at "zz"
theorem d_wT (h : PXW X e t mt) : PXT X e t mt := ⟨h.pe.pt, h.sn⟩
theorem d_notT (h : PXT X a t mt) : PXT X (.UnaryOp .Not a pos) (tNot t) (mNot mt) := ⟨pt_not h.pe, snd_not h.sn⟩
theorem d_and1 (h : PXT X a t mt) : PXW X (.BoolOp .And [a] pos) t mt := ⟨pw_and1 h.pe, h.sn⟩
theorem d_or1 (h : PXT X a t mt) : PXW X (.BoolOp .Or [a] pos) t mt := ⟨pw_or1 h.pe, h.sn⟩
theorem d_andW {rest : List Expr} (h : PXT X a t mt) (h2 : PXW X (.BoolOp .And (b :: rest) pos) u mu) : PXW X (.BoolOp .And (a :: b :: rest) pos) (tAnd t u) (mAnd mt mu) := ⟨pw_and h.pe h2.pe, snd_and h.sn h2.sn⟩
theorem d_orW {rest : List Expr} (h : PXT X a t mt) (h2 : PXW X (.BoolOp .Or (b :: rest) pos) u mu) : PXW X (.BoolOp .Or (a :: b :: rest) pos) (tOr t u) (mOr mt mu) := ⟨pw_or h.pe h2.pe, snd_or h.sn h2.sn⟩
theorem d_one {op} (h : PX X a ta ma) : PX X (.BoolOp op [a] pos) ta ma := ⟨pe_one h.pe, h.sn⟩
theorem d_and {rest : List Expr} (h : PX X a ta ma) (h2 : PX X (.BoolOp .And (b :: rest) pos) tb mb) : PX X (.BoolOp .And (a :: b :: rest) pos) (tAndV ta tb) (mAndV ma mb) := ⟨pe_and h.pe h2.pe, snd_andV h.sn h2.sn⟩
theorem d_or {rest : List Expr} (h : PX X a ta ma) (h2 : PX X (.BoolOp .Or (b :: rest) pos) tb mb) : PX X (.BoolOp .Or (a :: b :: rest) pos) (tOrV ta tb) (mOrV ma mb) := ⟨pe_or h.pe h2.pe, snd_orV h.sn h2.sn⟩
theorem d_not (h : PX X a ta ma) : PX X (.UnaryOp .Not a pos) (tNotV ta) (mNotV ma) := ⟨pe_not h.pe, snd_notV h.sn⟩
/-! walked -/
theorem d_iR1 (hm : X.mg "range" = none) (ha : PXA X [a] tas mas) (hg : Gl X "range" := by rfl) (hs : starEach [a] X.env = [(false, eval a X.env)] := by rfl) : PXI X tg (.Call (.Name "range" p) [a] [] pos) (iRng1 tas) (iR1 mas) := ⟨pi_range1 hg hm ha.pe hs, snd_iR1 ha.sn⟩
theorem d_iRev {K : PySem.W.Frag} (hm : X.mg "reversed" = none) (h : PX X e te me) (hg : Gl X "reversed" := by rfl) (hs : starEach [e] X.env = (false, eval e X.env) :: starEach [] X.env := by rfl) (hK : X.K = K := by rfl) : PXI X tg (.Call (.Name "reversed" p) [e] [] pos) (RT.iRevA K te) (iRev me) := by
  refine keepG ?_ ?_
  subst hK
  exact ⟨RT.pi_revA hg hm h.pe hs, snd_iRev h.sn⟩
  walk_at "zz"
/-! targets -/
theorem d_gN (i : Nat) {x : Str} (hN : X.N.Nodup) (hi : X.N[i]? = some x := by rfl) (hx : Loc X.env.scope x := by first | exact Or.inl rfl | exact Or.inr rfl) (hf : X.fn x = true ∨ X.env.scope.names.lookup x = some .local := by first | exact .inl rfl | exact .inr rfl | assumption) : PXG X (.Name x pos) (gName i) (gNm i) [i] := ⟨pg_name hN hi hx hf, snd_gNm i⟩
theorem d_gs0 : PXGs X [] gNil gsNil [] := ⟨pgs_nil, snd_gsNil⟩
theorem d_gsC {t : TG} {us : TGs} {m : MG} {ms : List D → Sto → Option Sto} {w1 w2 : List Nat} (h1 : PXG X e t m w1) (h2 : PXGs X es us ms w2) (hs : (assignEach (e :: es) X.env).map (·.2) = assign e X.env :: (assignEach es X.env).map (·.2) := by rfl) : PXGs X (e :: es) (gCons t us) (gsCons m ms) (w1 ++ w2) := ⟨pgs_cons h1.pe h2.pe hs, snd_gsCons h1.sn h2.sn⟩
theorem d_gT {K : PySem.W.Frag} {k : Nat} {us : TGs} {ms : List D → Sto → Option Sto} {w : List Nat} {n : Nat} (hc : X.calm = true) (h : PXGs X es us ms w) (hn : (assignEach es X.env).length = n := by rfl) (hst : (assignEach es X.env).findIdx? (·.1) = none := by rfl) (hK : X.K = K := by rfl) : PXG X (.Tuple es k pos) (gTup K n us) (gTp n ms) w := by
  refine keepG ?_ ?_
  subst hK
  exact ⟨pg_tup hc h.pe hn hst, snd_gTp h.sn⟩
  walk_at "zz"
/-! comprehensions -/
structure PXTs (X : Cx) (ifs : List Expr) (t : TT) (m : MT) : Prop where
  pe : PTs X ifs t
  sn : SndT X.K t m
theorem d_ts0 : PXTs X [] tYes mYes := ⟨pts_nil, snd_yes⟩
theorem d_lc {elt : Expr} {ifs : List Expr} {scope : Scope} {own : List (Str × Nat)} {wi : TI} {mi : MI} {g : TG} {mg : MG} {tt : TT} {mtt : MT} {ws vs : List Nat} (hc : X.calm = true) (hN : X.N.Nodup) (ok : BlkOk X.N X.env.scope scope own) (hi : PXI X tg iter wi mi)
    (hg : ∀ (s : Shared) (H : Hp) (C : Addr) (cl : List (Str × Addr)) (fp : List Addr), PXG (X.blk s H scope (compEnvC scope cl C X.env) fp) tg g mg ws) (ht : ∀ (s : Shared) (H : Hp) (C : Addr) (cl : List (Str × Addr)) (fp : List Addr), PXTs (X.blk s H scope (compEnvC scope cl C X.env) fp) ifs tt mtt)
    (he : ∀ (s : Shared) (H : Hp) (C : Addr) (cl : List (Str × Addr)) (fp : List Addr), PX (X.blk s H scope (compEnvC scope cl C X.env) fp) elt te me) (hw : ∀ w ∈ ws, w ∈ vs) (hv : own.map (·.2) = vs) (hs : ∀ x, foldedSetIterable iter X.env x = pure x := by intro _; rfl) :
    PXF X (.ListComp elt [⟨tg, iter, ifs, 0⟩] scope pos) (tLc wi g tt te vs) (mLc mi mg mtt me vs) := by
  refine keepG ?_ ?_
  subst hv
  exact ⟨pe_lc hc hN hi.pe ok (fun s H C cl fp => (hg s H C cl fp).pe) (fun s H C cl fp => (ht s H C cl fp).pe) (fun s H C cl fp => (he s H C cl fp).pe) hs,
    snd_lc hi.sn (hg ⟨X.s_0.heap, X.s_0.gens, X.s_0.drawn, X.s_0.toks, X.s_0.os⟩ X.H_0 0 [] []).sn (ht X.s_0 X.H_0 0 [] []).sn (he X.s_0 X.H_0 0 [] []).sn hw⟩
  walk_at "zz"
/-! statements -/
section
variable {T : Wsh} {st : Stmt} {rest sa sb body : List Stmt} {t1 t2 : TS} {m1 m2 : MS}
theorem d_b0 : PXB X T [] tNext mNext := ⟨pss_nil, snd_next⟩
theorem d_b1 (h : PXS X T st t1 m1) : PXB X T [st] t1 m1 := ⟨pss_one h.pe, h.sn⟩
theorem d_bC (h : PXS X T st t1 m1) (h2 : PXB X T rest t2 m2) : PXB X T (st :: rest) (tSeq t1 t2) (mSeq m1 m2) := ⟨pss_cons h.pe h2.pe, snd_seq h.sn h2.sn⟩
theorem d_ret (h : PX X e te me) : PXS X T (.Return (some e) pos) (tRet te) (mRet me) := ⟨ps_ret h.pe, snd_ret h.sn⟩
theorem d_ifS (hc : PXT X c t mt) (h1 : PXB X T sa t1 m1) (h2 : PXB X T sb t2 m2) : PXS X T (.If c sa sb pos) (tIfS t t1 t2) (mIf mt m1 m2) := ⟨ps_if hc.pe h1.pe h2.pe, snd_if hc.sn h1.sn h2.sn⟩
theorem d_set (i : Nat) {x : Str} {pos' : Pos} (hN : X.N.Nodup) (he : PX X e te me) (hi : X.N[i]? = some x := by rfl) (hx : Loc X.env.scope x := by first | exact Or.inl rfl | exact Or.inr rfl) (hs : swapsWith e (some (.Name x pos')) pos.line X.env = pure false := by rfl)
    (hf : X.fn x = true ∨ X.env.scope.names.lookup x = some .local := by first | exact .inl rfl | exact .inr rfl | assumption) : PXS X T (.Assign [.Name x pos'] e pos) (tAsg te (gName i)) (mAsg me (gNm i)) := ⟨ps_set hN hi hx he.pe hs hf, snd_asg he.sn (snd_gNm i)⟩
theorem d_setF (i : Nat) {x : Str} {pos' : Pos} (hN : X.N.Nodup) (he : PXF X e te mf) (hi : X.N[i]? = some x := by rfl) (hx : Loc X.env.scope x := by first | exact Or.inl rfl | exact Or.inr rfl) (hs : swapsWith e (some (.Name x pos')) pos.line X.env = pure false := by rfl)
    (hf : X.fn x = true ∨ X.env.scope.names.lookup x = some .local := by first | exact .inl rfl | exact .inr rfl | assumption) : PXS X T (.Assign [.Name x pos'] e pos) (tAsg te (gName i)) (mAsgF mf i) := ⟨ps_set hN hi hx he.pe hs hf, snd_asgF i he.sn⟩
theorem d_aug (i : Nat) {x : Str} {op : Operator} {pos' : Pos} {g : D → D → Option D} (hN : X.N.Nodup) (ho : OpR X (inplaceOp op) r) (hr : SndR X.K r g) (he : PX X e te me) (hi : X.N[i]? = some x := by rfl) (hx : Loc X.env.scope x := by first | exact Or.inl rfl | exact Or.inr rfl)
    (hf : X.fn x = true ∨ X.env.scope.names.lookup x = some .local := by first | exact .inl rfl | exact .inr rfl | assumption) : PXS X T (.AugAssign (.Name x pos') op e pos) (tAug i te r) (mAug i g me) := ⟨ps_aug hN hi hx he.pe ho hf, snd_aug i hr he.sn⟩
theorem d_for {wi : TI} {mi : MI} {g : TG} {mg : MG} {ws : List Nat} (hc : X.calm = true) (hp : PassesOwn (model X.prog X.w) X.A X.env X.xe) (hi : PXI X tg iter wi mi) (hg : PXG X tg g mg ws) (hb : PXB X T body t1 m1) (hs : ∀ x, foldedSetIterable iter X.env x = pure x := by intro _; rfl) :
    PXS X T (.For tg iter body [] pos) (tFor wi g t1) (mFor mi mg m1) := ⟨ps_for hp hc hi.pe hg.pe hb.pe hs, snd_for hi.sn hg.sn hb.sn⟩
theorem d_while (fuel : Sto → Nat) (hp : PassesOwn (model X.prog X.w) X.A X.env X.xe) (hc : PXT X c t mt) (hb : PXB X T body t1 m1) : PXS X T (.While c body [] pos) (tWhile t t1) (mWhile fuel mt m1) := ⟨ps_while hp hc.pe hb.pe, snd_while fuel hc.sn hb.sn⟩
theorem d_app {K : PySem.W.Frag} (j : Nat) {x : Str} (he : PX X e te me) (hN : X.N[j]? = some x := by rfl) (hv : Vis X.env.scope x := by first | exact Or.inl rfl | exact Or.inr (Or.inl rfl) | exact Or.inr (Or.inr rfl)) (hd : (x == ("__debug__" : Str)) = false := by decide)
    (hcd : (x == ("__classdict__" : Str)) = false := by decide) {px : Pos} (hbase : attributeBase (.Name x px) "append" X.env (eval (.Name x px) X.env) = eval (.Name x px) X.env := by rfl)
    (hfew : ((backTo cpos (starEach (e :: []) X.env)).all (fun x => !x.1) && (backToKw cpos (keywordEach [] X.env)).all (fun x => x.1.isSome) && decide ((e :: ([] : List Expr)).length + ([] : List Keyword).length + (if ([] : List Keyword).isEmpty then 0 else 1) < 30)) = true := by rfl)
    (hline : (apos.endLine == cpos.line) = true := by rfl) (hs : starEach (e :: []) X.env = (false, eval e X.env) :: starEach [] X.env := by rfl) (hplain : (backTo cpos (starEach [] X.env)).any (·.1) = false := by rfl)
    (hsw : swapsWith (.Call (.Attribute (.Name x px) "append" apos) [e] [] cpos) none pos.line X.env = pure false := by rfl) (hK : X.K = K := by rfl) :
    PXS X T (.Expr (.Call (.Attribute (.Name x px) "append" apos) [e] [] cpos) pos) (tDrop (tBM K "list" rAppend (tVar j) (tCons te tNil))) (mApp j me) := by
  refine keepG ?_ ?_
  subst hK
  exact ⟨ps_expr (pe_bm PySem.F.plainAttrs_list PySem.F.slot_list_append PySem.F.type_list_append mt_append (pe_var hN hv hd hcd) (pa_cons he.pe pa_nil hs) hbase hfew hline hs hplain) hsw, snd_app j he.sn⟩
  walk_at "zz"
theorem d_ext {K : PySem.W.Frag} (j : Nat) {x : Str} (he : PX X e te me) (hN : X.N[j]? = some x := by rfl) (hv : Vis X.env.scope x := by first | exact Or.inl rfl | exact Or.inr (Or.inl rfl) | exact Or.inr (Or.inr rfl)) (hd : (x == ("__debug__" : Str)) = false := by decide)
    (hcd : (x == ("__classdict__" : Str)) = false := by decide) {px : Pos} (hbase : attributeBase (.Name x px) "extend" X.env (eval (.Name x px) X.env) = eval (.Name x px) X.env := by rfl)
    (hfew : ((backTo cpos (starEach (e :: []) X.env)).all (fun x => !x.1) && (backToKw cpos (keywordEach [] X.env)).all (fun x => x.1.isSome) && decide ((e :: ([] : List Expr)).length + ([] : List Keyword).length + (if ([] : List Keyword).isEmpty then 0 else 1) < 30)) = true := by rfl)
    (hline : (apos.endLine == cpos.line) = true := by rfl) (hs : starEach (e :: []) X.env = (false, eval e X.env) :: starEach [] X.env := by rfl) (hplain : (backTo cpos (starEach [] X.env)).any (·.1) = false := by rfl)
    (hsw : swapsWith (.Call (.Attribute (.Name x px) "extend" apos) [e] [] cpos) none pos.line X.env = pure false := by rfl) (hK : X.K = K := by rfl) :
    PXS X T (.Expr (.Call (.Attribute (.Name x px) "extend" apos) [e] [] cpos) pos) (tDrop (tBM K "list" rExtend (tVar j) (tCons te tNil))) (mExt j me) := by
  refine keepG ?_ ?_
  subst hK
  exact ⟨ps_expr (pe_bm PySem.F.plainAttrs_list PySem.F.slot_list_extend PySem.F.type_list_extend mt_extend (pe_var hN hv hd hcd) (pa_cons he.pe pa_nil hs) hbase hfew hline hs hplain) hsw, snd_ext j he.sn⟩
  walk_at "zz"
theorem d_setIx (j : Nat) {x : Str} {i : Expr} {ti : TE} {mi : ME} {px sp : Pos} (he : PX X e te me) (hi : PX X i ti mi) (hN : X.N[j]? = some x := by rfl) (hv : Vis X.env.scope x := by first | exact Or.inl rfl | exact Or.inr (Or.inl rfl) | exact Or.inr (Or.inr rfl)) (hd : (x == ("__debug__" : Str)) = false := by decide)
    (hcd : (x == ("__classdict__" : Str)) = false := by decide)
    (ha : ∀ v, assign (.Subscript (.Name x px) i sp) X.env v = (do
      let ov ← holding [v] (eval (.Name x px) X.env)
      let iv ← holding [v, ov] (eval i X.env)
      standAt sp
      holding [v, ov, iv] (setItem ov iv v)
      release [v, ov, iv] []) := by intro _; rfl)
    (hs : swapsWithSole [.Subscript (.Name x px) i sp] e pos.line X.env = pure false := by rfl) (hw : swappedStores [.Subscript (.Name x px) i sp] e X.env = pure none := by rfl)
    (h1 : (assignEach [.Subscript (.Name x px) i sp] X.env).map (·.2) = [assign (.Subscript (.Name x px) i sp) X.env] := by rfl) :
    PXS X T (.Assign [.Subscript (.Name x px) i sp] e pos) (tAsg te (gSub (tVar j) ti rSetL)) (mSet j mi me) :=
  ⟨ps_asg he.pe (pg_sub (pe_var hN hv hd hcd) hi.pe set_list ha) hs hw h1, snd_set j hi.sn he.sn⟩
end
end
/-! ### a def, the law -/
section
variable {P : Program} {w : World} {K : PySem.W.Frag} {mg : Str → Option Value} {base : Heap}
theorem fn_okM {x qual : Str} {st : Stmt} {f : Addr} {fd : FuncData} {N ps : List Str} {k : Nat} {m : Mf} {mb : MS} (F : Fun K x qual st f fd) (S : FnScope N ps (defScope st)) (hn : ps.length ≤ N.length) (hm : m = fnM N.length ps.length mb)
    (h : ∀ (cdv : Value) (A : Around) (outer : List Env) (s : Shared) (H : Hp) (E : XK), Room k (A.deeper (envOfC qual (defScope st) s.heap.objs.size f cdv)) → ∃ ts, PXB (cxOf CX0 P w K mg base N qual (defScope st) f cdv A outer s H E).nox .no (defBody st) ts mb) : FnOk P w K mg base CX0 (k + 1) f fd ps (spM K m) := by
  refine keepG ?_ ?_
  subst hm
  refine F.ok S (fun vs H Q E h => ?_) (fun cdv A outer s H vs Q E hr hs => ?_)
  · obtain ⟨Hb, os, ps', d, fin, e, A, ho, hm, q⟩ := h
    unfold fnM at hm
    by_cases hl : ps'.length = ps.length
    · rw [A.len]; exact hl
    · rw [if_neg hl] at hm; cases hm
  · obtain ⟨ts, hb⟩ := h cdv A outer s H E hr
    exact ⟨ts, hb.pe, (fn_body hn hb.sn hs).2⟩
  walk_at "zz"
/-- the law's promise -/
theorem sp_law {m : Mf} {a : Addr} {ns : List Int} {H : Hp} {fin : Option (List D)} (hS : SqL K H a (ns.map V.int)) (hm : m [.dat (.fro (iL ns))] = some (.bl true, fin)) : spM K m [.ref a] H (fun v _ => v = .bl true) fun _ _ _ => False := by
  refine keepG ?_ ?_
  refine ⟨H, none, [.dat (.fro (iL ns))], .bl true, fin, Ex.refl _, ⟨rfl, fun i sv g => ?_, fun i j si sj hij g1 g2 o1 o2 => ?_⟩, (fun l z => by cases z), hm, fun v H' Hb' _ r => ?_⟩
  · cases i with
    | zero =>
      cases g
      exact ⟨_, rfl, .inl ⟨_, rfl, .fro hS (RepL.of_ints ns)⟩⟩
    | succ i => simp at g
  · cases i with
    | zero => cases g1; cases o1
    | succ i => simp at g1
  · cases r
    rfl
  walk_at "zz"
end
end Mi

/-! Meanings reckoned: rows for simp, loops. -/
namespace Mi
open PySem PySem.Spec PyProof.Rows L2 Evl
theorem eqD_int (i j : Int) : eqD (.int i) (.int j) = some (.bl (decide (i = j))) := by
  refine keepG ?_ ?_
  unfold eqD
  rw [if_pos ⟨rfl, rfl⟩]
  rfl
  walk_at "zz"
theorem at_0 {α : Type} (a : α) (l : List α) : atI (a :: l) 0 = some a := by
  refine keepG ?_ ?_
  have : ixN (a :: l).length 0 = some 0 := by
    unfold ixN
    rw [if_pos (by omega), if_pos (by rw [List.length_cons]; omega)]
    rfl
  unfold atI
  rw [this]
  rfl
  walk_at "zz"
theorem at_1 {α : Type} (a b : α) (l : List α) : atI (a :: b :: l) 1 = some b := by
  refine keepG ?_ ?_
  have : ixN (a :: b :: l).length 1 = some 1 := by
    unfold ixN
    rw [if_pos (by omega), if_pos (by rw [List.length_cons, List.length_cons]; omega)]
    rfl
  unfold atI
  rw [this]
  rfl
  walk_at "zz"
theorem iL_len (ns : List Int) : (iL ns).length = ns.length := List.length_map ..
theorem iL_get (ns : List Int) (i : Nat) : (iL ns)[i]? = (ns[i]?).map D.int := by unfold iL; rw [List.getElem?_map]
/-- an index from 0 on, in a list of ints -/
theorem at_iL {ns : List Int} {i : Int} (h0 : 0 ≤ i) (h : i < (ns.length : Int)) : atI (iL ns) i = some (.int (ns.getD i.toNat 0)) := by
  refine keepG ?_ ?_
  have h1 : i.toNat < ns.length := by omega
  have : ixN (iL ns).length i = some i.toNat := by
    unfold ixN
    rw [if_pos h0, iL_len, if_pos (by omega)]
  unfold atI
  rw [this]
  show (iL ns)[i.toNat]? = _
  rw [iL_get, List.getElem?_eq_getElem h1, List.getD_eq_getElem?_getD, List.getElem?_eq_getElem h1]
  rfl
  walk_at "zz"
/-! == of lists of ints -/
/-- plain data of a depth -/
def D.Pl (n : Nat) (d : D) : Prop := d.py.canLay0 = true ∧ d.py.depth ≤ n
def PlL (n : Nat) (ds : List D) : Prop := PyData.canLayAll0 (D.pys ds) = true ∧ PyData.depthAll (D.pys ds) ≤ n
theorem pl_int {n : Nat} (i : Int) : (D.int i).Pl n := ⟨rfl, Nat.zero_le _⟩
theorem pl_bl {n : Nat} (i : Bool) : (D.bl i).Pl n := ⟨rfl, Nat.zero_le _⟩
theorem pl_nil {n : Nat} : PlL n [] := ⟨rfl, Nat.zero_le _⟩
theorem pl_cons {n : Nat} {d : D} {ds : List D} (h : d.Pl n) (t : PlL n ds) : PlL n (d :: ds) := by
  refine keepG ?_ ?_
  refine ⟨?_, ?_⟩
  · show (d.py.canLay0 && PyData.canLayAll0 (D.pys ds)) = true
    rw [h.1, t.1]
    rfl
  · have h2 := h.2
    have t2 := t.2
    show max d.py.depth (PyData.depthAll (D.pys ds)) ≤ n
    omega
  walk_at "zz"
theorem pl_all {n : Nat} : ∀ {ds : List D}, (∀ d ∈ ds, d.Pl n) → PlL n ds
  | [], _ => pl_nil
  | d :: ds, h => pl_cons (h d List.mem_cons_self) (pl_all fun x hx => h x (List.mem_cons_of_mem _ hx))
theorem pl_lst {n : Nat} {ds : List D} (h : PlL n ds) : (D.lst ds).Pl (n + 1) := ⟨h.1, by show PyData.depthAll (D.pys ds) + 1 ≤ n + 1; have := h.2; omega⟩
theorem pl_tup {n : Nat} {ds : List D} (h : PlL n ds) : (D.tup ds).Pl (n + 1) := ⟨h.1, by show PyData.depthAll (D.pys ds) + 1 ≤ n + 1; have := h.2; omega⟩
theorem pl_iL {n : Nat} (ns : List Int) : PlL n (iL ns) := pl_all fun d hd => by
  obtain ⟨i, _, rfl⟩ := List.mem_map.mp hd
  exact pl_int i
theorem D.Pl.up {n m : Nat} {d : D} (h : d.Pl n) (l : n ≤ m) : d.Pl m := ⟨h.1, Nat.le_trans h.2 l⟩
theorem sh_of {d : D} {n : Nat} (h : d.Pl n) (hn : n ≤ 64) : SeqAt.shaped d.py = true := by
  refine keepG ?_ ?_
  unfold SeqAt.shaped
  rw [h.1, decide_eq_true (Nat.le_trans h.2 hn)]
  rfl
  walk_at "zz"
theorem eqD_pl {x y : D} (hx : x.Pl 64) (hy : y.Pl 64) : eqD x y = some (.bl (PyData.eqv x.py y.py)) := by
  refine keepG ?_ ?_
  unfold eqD
  rw [if_pos ⟨sh_of hx (Nat.le_refl _), sh_of hy (Nat.le_refl _)⟩]
  walk_at "zz"
theorem neD_pl {x y : D} (hx : x.Pl 64) (hy : y.Pl 64) : neD x y = some (.bl (!PyData.eqv x.py y.py)) := by
  refine keepG ?_ ?_
  unfold neD
  rw [if_pos ⟨sh_of hx (Nat.le_refl _), sh_of hy (Nat.le_refl _)⟩]
  walk_at "zz"
mutual
theorem eqv_rf : ∀ d : D, d.py.canLay0 = true → PyData.eqv d.py d.py = true
  | .non, _ => rfl
  | .bl b, _ => by simp [D.py, PyData.eqv]
  | .int i, _ => by simp [D.py, PyData.eqv]
  | .str x, _ => by simp [D.py, PyData.eqv]
  | .tup ds, h => by
    have := eqvs_rf ds (by simpa [D.py, PyData.canLay0] using h)
    simpa [D.py, PyData.eqv] using this
  | .lst ds, h => by
    have := eqvs_rf ds (by simpa [D.py, PyData.canLay0] using h)
    simpa [D.py, PyData.eqv] using this
  | .fro ds, h => by
    have := eqvs_rf ds (by simpa [D.py, PyData.canLay0] using h)
    simpa [D.py, PyData.eqv] using this
  | .ins _ _, h => by simp [D.py, PyData.canLay0] at h
theorem eqvs_rf : ∀ ds : List D, PyData.canLayAll0 (D.pys ds) = true → PyData.eqvAll (D.pys ds) (D.pys ds) = true
  | [], _ => rfl
  | d :: ds, h => by
    have h' : d.py.canLay0 = true ∧ PyData.canLayAll0 (D.pys ds) = true := by simpa [D.pys, PyData.canLayAll0] using h
    simp [D.pys, PyData.eqvAll, eqv_rf d h'.1, eqvs_rf ds h'.2]
end
theorem neD_rf {x : D} (hx : x.Pl 64) : neD x x = some (.bl false) := by rw [neD_pl hx hx, eqv_rf x hx.1]; rfl
/-! statements one by one -/
theorem seq_nx {m1 m2 : MS} {s s1 : Sto} (h : m1 s = some (.nx, s1)) : mSeq m1 m2 s = m2 s1 := by
  refine keepG ?_ ?_
  unfold mSeq
  rw [h]
  rfl
  walk_at "zz"
theorem seq_rt {m1 m2 : MS} {s s1 : Sto} {d : D} (h : m1 s = some (.rt d, s1)) : mSeq m1 m2 s = some (.rt d, s1) := by
  refine keepG ?_ ?_
  unfold mSeq
  rw [h]
  rfl
  walk_at "zz"
theorem for_it {mi : MI} {g : MG} {mb : MS} {s s1 : Sto} {xs : List D} (h : mi s = some (xs, s1)) : mFor mi g mb s = forD g mb xs s1 := by
  refine keepG ?_ ?_
  unfold mFor
  rw [h]
  rfl
  walk_at "zz"
theorem lc_of {mi : MI} {g : MG} {mt : MT} {me : ME} {vs : List Nat} {s s1 t' : Sto} {xs acc : List D} (h : mi s = some (xs, s1)) (h2 : compD vs g mt me xs [] s1 = some (acc, t')) : mLc mi g mt me vs s = some (acc, backS s1 (wipeS t' vs) vs) := by
  refine keepG ?_ ?_
  unfold mLc
  rw [h]
  show (compD vs g mt me xs [] s1).bind _ = _
  rw [h2]
  rfl
  walk_at "zz"
theorem if_t {mt : MT} {m1 m2 : MS} {s s1 : Sto} (h : mt s = some (true, s1)) : mIf mt m1 m2 s = m1 s1 := by
  refine keepG ?_ ?_
  unfold mIf
  rw [h]
  rfl
  walk_at "zz"
theorem if_f {mt : MT} {m1 m2 : MS} {s s1 : Sto} (h : mt s = some (false, s1)) : mIf mt m1 m2 s = m2 s1 := by
  refine keepG ?_ ?_
  unfold mIf
  rw [h]
  rfl
  walk_at "zz"
theorem cut_init {α : Type} (xs : List α) : cutG xs none (some (-1)) = xs.dropLast := by
  refine keepG ?_ ?_
  have h1 : HT.sIx xs.length xs.length (some (-1)) = xs.length - 1 := by
    show (if (-1 : Int) < 0 then ((-1 : Int) + (xs.length : Int)).toNat else min (-1 : Int).toNat xs.length) = _
    rw [if_pos (by decide)]
    omega
  unfold cutG
  rw [h1, HT.sIx_none, List.drop_zero, Nat.sub_zero, List.dropLast_eq_take]
  walk_at "zz"
def SV.tame : SV → Bool
  | .un => true
  | .dat _ => true
  | _ => false
end Mi
namespace Mi
open PySem PySem.Spec PyProof.Rows L2 Evl
/-! enumerate of a list; a tuple of ints that stands at the top -/
def enF : Nat → List D → List D
  | _, [] => []
  | k, d :: ds => .tup [.int (k : Int), d] :: enF (k + 1) ds
def iEn (ma : ME) : MI := fun s => (ma s).bind fun a => (frz a.2 a.1).bind fun q => (q.1.seqL).bind fun ds => some (enF 0 ds, q.2)
section
variable {K : PySem.W.Frag}
def allInt : List Value → List Int → Bool
  | [], [] => true
  | .int i _ :: us, n :: ns => decide (i = n) && allInt us ns
  | _, _ => false
def tupI (o : Obj) (ns : List Int) : Bool := (match o.cls with
  | .type n => decide (n = "tuple")
  | _ => false) && match o.data with
  | .seq its _ => decide (its.size ≤ 1000) && allInt its.toList ns
  | _ => false
end
end Mi
namespace Mi
theorem and_t {ma mb : MT} {s s1 : Sto} (h : ma s = some (true, s1)) : mAnd ma mb s = mb s1 := by
  refine keepG ?_ ?_
  unfold mAnd
  rw [h]
  rfl
  walk_at "zz"
theorem and_f {ma mb : MT} {s s1 : Sto} (h : ma s = some (false, s1)) : mAnd ma mb s = some (false, s1) := by
  refine keepG ?_ ?_
  unfold mAnd
  rw [h]
  rfl
  walk_at "zz"
theorem or_t {ma mb : MT} {s s1 : Sto} (h : ma s = some (true, s1)) : mOr ma mb s = some (true, s1) := by
  refine keepG ?_ ?_
  unfold mOr
  rw [h]
  rfl
  walk_at "zz"
theorem or_f {ma mb : MT} {s s1 : Sto} (h : ma s = some (false, s1)) : mOr ma mb s = mb s1 := by
  refine keepG ?_ ?_
  unfold mOr
  rw [h]
  rfl
  walk_at "zz"
end Mi

/-! enumerate and sum of a tuple. -/
namespace Mi
open PySem PySem.Spec PyProof.Rows L2 Evl
section
variable {prog : Program} {w : World} {A : Around} {E : Value → Shared → Prop} {s : Shared}
end
/-- the tuple at a, each item in a new pair -/
def Itet (K : PySem.W.Frag) (a : Addr) : It :=
  ⟨fun i H => ∃ (xs : List V) (x : V), SqT K H a xs ∧ xs[i]? = some x, fun i H v H' => ∃ T x, v = .ref T ∧ H T = none ∧ H' = upd H T (.tup [.int (i : Nat), x]) ∧ ∀ xs, SqT K H a xs → xs[i]? = some x, fun i H => ∃ xs : List V, SqT K H a xs ∧ xs.length ≤ i⟩
/-- enumerate of a list or of a tuple -/
def iEnumS (K : PySem.W.Frag) (ta : TA) : TI := fun σ H R => ta σ H fun vs H1 => ∃ a xs, vs = [.ref a] ∧ ((SqL K H1 a xs ∧ R (Ite K a) H1) ∨ (SqT K H1 a xs ∧ R (Itet K a) H1))
/-- the sum of a list or of a tuple -/
def rSumS (K : PySem.W.Frag) : List V → Hp → VK → Prop := fun vs H Q => ∃ (a : Addr) (ns : List Int), vs = [V.ref a] ∧ (SqL K H a (ns.map V.int) ∨ SqT K H a (ns.map V.int)) ∧ Q (.int ns.sum) H
end Mi
namespace Mi
open PySem PySem.Spec PyProof.Rows L2 Evl
/-- sum of a list or of a tuple, as data -/
def sumS : List D → Option D
  | [x] => x.seq.bind fun ds => (asI ds).bind fun ns => some (.int ns.sum)
  | _ => none
def iES (ma : ME) : MI := fun s => (ma s).bind fun a => (frz a.2 a.1).bind fun q => (q.1.seq).bind fun ds => some (enF 0 ds, q.2)
/-! ### isinstance, one built-in class -/
def tyD : D → Option String
  | .non => some "NoneType" | .bl _ => some "bool" | .int _ => some "int" | .str _ => some "str" | .tup _ => some "tuple" | .lst _ => some "list" | .fro _ => some "list" | .ins _ _ => none
def isiD (T : String) : List D → Option D
  | [x] => (tyD x).bind fun t => (kitB t T).bind fun b => some (.bl b)
  | _ => none
def rIsi1 (T : String) (K : PySem.W.Frag) : List V → Hp → VK → Prop := fun xs H Q => rIsi K (xs ++ [.ty T]) H Q
theorem ty_of {K : PySem.W.Frag} {H Hb : Hp} {v : V} {x : D} {t : String} (e : Ex Hb H) (r : RepC K H Hb v x) (h : tyD x = some t) : TyX K H v (.type t) := by
  refine keepG ?_ ?_
  have lq : ∀ {l : Addr} {vs : List V}, SqL K H l vs → TyX K H (.ref l) (.type "list") := fun {l vs} h => by
    rcases h with (h | ⟨o, h⟩) | ⟨o, its, n, h1, h2, _⟩
    · exact .base (.lst h)
    · exact .base (.frz h)
    · exact .kList h1 h2
  have lt : ∀ {l : Addr} {vs : List V}, SqT K H l vs → TyX K H (.ref l) (.type "tuple") := fun {l vs} h => by
    rcases h with (h | ⟨o, h⟩) | ⟨o, its, n, h1, h2, _⟩
    · exact .base (.tup h)
    · exact .fTuple h
    · exact .kTuple h1 h2
  cases x with
  | lst ds =>
    cases h
    obtain ⟨l, vs, rfl, g, _⟩ := r.seqL e rfl
    exact lq g
  | fro ds =>
    cases h
    obtain ⟨l, vs, rfl, g, _⟩ := r.seqL e rfl
    exact lq g
  | tup ds =>
    cases h
    obtain ⟨l, vs, rfl, g, _⟩ := r.tup e
    exact lt g
  | int i =>
    cases h
    rw [r.int]
    exact .base (.int i)
  | bl b =>
    cases h
    rcases r with r | ⟨_, _, _, _, k, _⟩
    · cases r
      exact .base (.bl b)
    · cases k
  | non =>
    cases h
    rcases r with r | ⟨_, _, _, _, k, _⟩
    · cases r
      exact .base .non
    · cases k
  | str b =>
    cases h
    rcases r with r | ⟨_, _, _, _, k, _⟩
    · cases r
      exact .base (.str b)
    · cases k
  | ins _ _ => cases h
  walk_at "zz"
theorem c_isi {K : PySem.W.Frag} {T : String} : SndC K (rIsi1 T K) (isiD T) := by
  refine keepG ?_ ?_
  intro H Hb vs xs z e rx hz Q q1 q2
  match xs, hz with
  | [x], hz =>
    obtain ⟨t, h1, hz⟩ := bnd hz
    obtain ⟨b, h2, hz⟩ := bnd hz
    cases hz
    obtain ⟨v, rfl, r⟩ := reps1 rx
    exact ⟨v, .ty T, .type t, .type T, b, rfl, .ty T, ty_of e r h1, kit_ty h2, q1 _ (.bl _)⟩
  walk_at "zz"
theorem d_isi {X : Cx} {K : PySem.W.Frag} {e : Expr} {te : TE} {me : ME} {p q pos : Pos} {T : String} {y : Str} (hm : X.mg "isinstance" = none) (hy : X.mg y = none) (h : PX X e te me) (hv : bootBuiltins y = some (.type T)) (hK : X.K = K := by rfl) (hg : Gl X "isinstance" := by rfl) (hgy : Gl X y := by rfl) (hny : y ≠ "__name__" := by decide) (hdy : (y == ("__debug__" : Str)) = false := by decide)
    (hs0 : starEach (e :: [.Name y q]) X.env = (false, eval e X.env) :: starEach [.Name y q] X.env := by rfl) (hs1 : starEach (.Name y q :: []) X.env = (false, eval (.Name y q) X.env) :: starEach [] X.env := by rfl) (hpl : (backTo pos (starEach [.Name y q] X.env)).any (·.1) = false := by rfl) :
    PX X (.Call (.Name "isinstance" p) [e, .Name y q] [] pos) (tCB (rIsi1 T K) (tCons te tNil)) (mBi (isiD T) (aCons me aNil)) := by
  refine keepG ?_ ?_
  subst hK
  refine ⟨?_, snd_bi c_isi (snd_cons h.sn snd_nil)⟩
  have g := pe_callB (p := p) (pos := pos) call_isi hg hm (by rfl) (pa_cons h.pe (pa_cons (pe_bltn (v := .ty T) (pos := q) hgy hy hv rfl hny hdy) pa_nil hs1) hs0) (by decide) (by decide) hs0 hpl
  exact g
  walk_at "zz"
end Mi

/-! Rows that the laws' texts share. -/
namespace Mi
open PySem PySem.Spec PyProof.Rows L2 Evl
theorem ifE_t {mt : MT} {m1 m2 : ME} {s s1 : Sto} {r : Option (Bv × Sto)} (h : mt s = some (true, s1)) (ha : m1 s1 = r) : mIfE mt m1 m2 s = r := by
  refine keepG ?_ ?_
  unfold mIfE
  rw [h]
  exact ha
  walk_at "zz"
theorem ifE_f {mt : MT} {m1 m2 : ME} {s s1 : Sto} {r : Option (Bv × Sto)} (h : mt s = some (false, s1)) (hb : m2 s1 = r) : mIfE mt m1 m2 s = r := by
  refine keepG ?_ ?_
  unfold mIfE
  rw [h]
  exact hb
  walk_at "zz"
theorem andV_t {ma mb : ME} {s s1 : Sto} (h : ma s = some (.dat (.bl true), s1)) : mAndV ma mb s = mb s1 := by
  refine keepG ?_ ?_
  unfold mAndV mTest
  rw [h]
  rfl
  walk_at "zz"
theorem andV_f {ma mb : ME} {s s1 : Sto} (h : ma s = some (.dat (.bl false), s1)) : mAndV ma mb s = some (.dat (.bl false), s1) := by
  refine keepG ?_ ?_
  unfold mAndV mTest
  rw [h]
  rfl
  walk_at "zz"
theorem orV_t {ma mb : ME} {s s1 : Sto} (h : ma s = some (.dat (.bl true), s1)) : mOrV ma mb s = some (.dat (.bl true), s1) := by
  refine keepG ?_ ?_
  unfold mOrV mTest
  rw [h]
  rfl
  walk_at "zz"
theorem orV_f {ma mb : ME} {s s1 : Sto} (h : ma s = some (.dat (.bl false), s1)) : mOrV ma mb s = mb s1 := by
  refine keepG ?_ ?_
  unfold mOrV mTest
  rw [h]
  rfl
  walk_at "zz"
theorem test_of {me : ME} {s s1 : Sto} {b : Bool} (h : me s = some (.dat (.bl b), s1)) : mTest me s = some (b, s1) := by
  refine keepG ?_ ?_
  unfold mTest
  rw [h]
  rfl
  walk_at "zz"
end Mi

/-! Instances that stand still: made by an __init__ that sets each attribute once, their attributes, ==, isinstance. -/
namespace Mi
open PySem PySem.Spec PyProof.Rows L2 Evl
/-! ### an attribute -/
/-- the attribute at the index that the class's row tells -/
def fldD (tab : List (Nat × Nat)) : D → Option D
  | .ins c ds => (tab.lookup c).bind fun i => ds[i]?
  | _ => none
/-- the text's side: the classes of the table have the attribute there -/
structure FldOk (K : PySem.W.Frag) (f : Str) (tab : List (Nat × Nat)) : Prop where
  at_ : ∀ c i, tab.lookup c = some i → (clsFlds c)[i]? = some f ∧ (clsFlds c).Nodup
  cl : ∀ c i, tab.lookup c = some i → ∃ C, PySem.W.nsIn K mainGlobals (clsName c) = some (some (.ref C)) ∧ Cls K C ∧ NoAttr K C f
section
variable {K : PySem.W.Frag}
end
/-! ### __init__ -/
/-- the attributes, one after the other -/
def iniM : List ME → Sto → Option (List D × Sto)
  | [], s => some ([], s)
  | e :: es, s => (e s).bind fun a => (frz a.2 a.1).bind fun q => (iniM es q.2).bind fun r => some (q.1 :: r.1, r.2)
def IniS (K : PySem.W.Frag) (ts : TS) (fl : List Str) (m : Sto → Option (List D × Sto)) : Prop := ∀ (f : Fr) (σ : L2.St) (H : Hp) (s : Sto) (Hb : Hp) (a C dx : Addr) (fs : List (Str × V)) (ds : List D) (s' : Sto), Cls K C → (∀ g ∈ fl, NoAttr K C g) → (fs.map (·.1) ++ fl).Nodup → fs.length + fl.length < 1000 →
  σ[0]? = some (some (.ref a)) → f.P a = none → f.B a = none → f.os ≠ some a → s[0]? = some .un → Rw K (f.grd a (.ins C dx fs)) σ H s Hb → m s = some (ds, s') → ∀ E : Ends,
  (∀ H' Hb' gs, Ex Hb Hb' → gs.map (·.1) = fl → Rw K (f.grd a (.ins C dx (fs ++ gs))) σ H' s' Hb' → RepL K Hb' (gs.map (·.2)) ds → E.nx σ H') → ts E σ H
section
variable {K : PySem.W.Frag} {f : Fr} {σ : L2.St} {H H' Hb Hb' : Hp} {s s' : Sto}
end
structure PXN (X : Cx) (st : List Stmt) (ts : TS) (fl : List Str) (es : List ME) : Prop where
  pe : PSs X st ts
  sn : IniS X.K ts fl (iniM es)
section
variable {X : Cx} {K : PySem.W.Frag} {e : Expr} {te : TE} {me : ME} {g : Str} {pos pos' ps : Pos} {rest : List Stmt} {ts : TS} {fl : List Str} {es : List ME}
end
abbrev MfI := List SV → Option (List D)
/-- what an __init__ promises: N slots, self among them -/
def fnI (N n : Nat) (es : List ME) : MfI := fun ps => if ps.length + 1 = n then (iniM es (.un :: ps ++ List.replicate (N - n) .un)).map (·.1) else none
def spIni (K : PySem.W.Frag) (c : Nat) (m : MfI) : Sp := fun vs H Q _ => ∃ (Hb : Hp) (ps : List SV) (ds : List D) (a C dx : Addr) (ws : List V),
  Ex Hb H ∧ vs = .ref a :: ws ∧ H a = some (.ins C dx []) ∧ Hb a = none ∧ PySem.W.nsIn K mainGlobals (clsName c) = some (some (.ref C)) ∧ ArgsOk K H Hb none ws ps ∧ m ps = some ds ∧
  ∀ H' Hb' fs, Ex Hb Hb' → Ex Hb' H' → Hb' a = none → H' a = some (.ins C dx fs) → fs.map (·.1) = clsFlds c → RepL K Hb' (fs.map (·.2)) ds → (∀ b, H b ≠ none → (∀ xs, H b ≠ some (.tup xs)) → Hb' b = Hb b) → (∀ b o, b ≠ a → H b = some o → H' b = some o) → Q .non H'
structure ClsOk (K : PySem.W.Frag) (c : Nat) : Prop where
  cl : ∃ C, PySem.W.nsIn K mainGlobals (clsName c) = some (some (.ref C)) ∧ Cls K C ∧ ∀ g ∈ clsFlds c, NoAttr K C g
section
variable {K : PySem.W.Frag}
/-- C(..) -/
def mNew (c : Nat) (m : MfI) (ma : MA) : ME := fun s => (ma s).bind fun a => (cArgs none 0 a.1 a.2).bind fun q => (m q.1).bind fun ds => some (.dat (.ins c ds), q.2)
end
section
variable {P : Program} {w : World} {K : PySem.W.Frag} {mg : Str → Option Value} {base : Heap}
end
end Mi

/-! isinstance with an own class, == by an own __eq__, in with ints. -/
namespace Mi
open PySem PySem.Spec PyProof.Rows L2 Evl
def isiC (c : Nat) : List D → Option D
  | [x] => match x with
    | .ins c' _ => if c' = c then some (.bl true) else none
    | d => (tyD d).bind fun _ => some (.bl false)
  | _ => none
structure IsiOk (K : PySem.W.Frag) (c : Nat) (C : Addr) : Prop where
  at_ : PySem.W.nsIn K mainGlobals (clsName c) = some (some (.ref C))
  cl : Cls K C
  ha : PySem.W.findIn K (.ref C) "__class__" = some (some (.builtin "object.__class__"))
  hn : PySem.W.specialIn K (.builtin "object.__class__") "__get__" = some (some (.builtin "getset_descriptor.__get__"))
  ht : PySem.W.takesIn K (.builtin "object.__class__") = some true
  hm : PySem.W.mroIn K C (.type "object") = some true
  k0 : PySem.W.kitOne K (.type "NoneType") (.ref C) = some false
  k1 : PySem.W.kitOne K (.type "bool") (.ref C) = some false
  k2 : PySem.W.kitOne K (.type "int") (.ref C) = some false
  k3 : PySem.W.kitOne K (.type "str") (.ref C) = some false
  k4 : PySem.W.kitOne K (.type "tuple") (.ref C) = some false
  k5 : PySem.W.kitOne K (.type "list") (.ref C) = some false
section
variable {K : PySem.W.Frag}
def rIsiC (C : Addr) (K : PySem.W.Frag) : List V → Hp → VK → Prop := fun xs H Q => rIsi K (xs ++ [.ref C]) H Q
/-! ### == by an own __eq__ -/
def rEqO (C : Addr) (sp : Sp) : R2 := fun x y H Q => ∃ a dx fs t, x = .ref a ∧ H a = some (.ins C dx fs) ∧ TyX K H y t ∧ PySem.W.notFirst K C t = true ∧ sp [x, y] H (fun v H' => ∃ b, v = .bl b ∧ Q v H') E0
structure EqOk (K : PySem.W.Frag) (c : Nat) (C f : Addr) : Prop where
  isi : IsiOk K c C
  at_ : PySem.W.findIn K (.ref C) "__eq__" = some (some (.ref f))
  fn : PySem.W.isFn K (.ref f) = true
  n0 : PySem.W.notFirst K C (.type "NoneType") = true
  n1 : PySem.W.notFirst K C (.type "bool") = true
  n2 : PySem.W.notFirst K C (.type "int") = true
  n3 : PySem.W.notFirst K C (.type "str") = true
  n4 : PySem.W.notFirst K C (.type "tuple") = true
  n5 : PySem.W.notFirst K C (.type "list") = true
/-- what may stand to the right -/
def okEq (c : Nat) : D → Bool
  | .ins k _ => decide (k = c)
  | d => (tyD d).isSome
def mEqO (c : Nat) (m : Mf) (ma mb : ME) : ME := fun s => (ma s).bind fun a => (mb a.2).bind fun b => (frz b.2 a.1).bind fun x => (frz x.2 b.1).bind fun y => match x.1 with
  | .ins c' ds => if c' = c ∧ okEq c y.1 = true then (m [.dat (.ins c' ds), .dat y.1]).bind fun q => match q.1 with
      | .bl r => some (.dat (.bl r), b.2)
      | _ => none
    else none
  | _ => none
end
section
variable {P : Program} {w : World} {K : PySem.W.Frag} {mg : Str → Option Value} {base : Heap}
end
/-! ### in, with ints -/
def inD (neg : Bool) : D → D → Option D := fun x y => match x with
  | .int i => y.seq.bind fun ds => (asI ds).bind fun ns => some (.bl (if neg then !decide (i ∈ ns) else decide (i ∈ ns)))
  | _ => none
theorem inV_int (i : Int) (ns : List Int) : inV (.int i) (ns.map V.int) = decide (i ∈ ns) := by
  refine keepG ?_ ?_
  unfold inV
  rw [List.any_map]
  induction ns with
  | nil => rfl
  | cons n ns ih =>
    rw [List.any_cons, ih]
    show ((n == i) || _) = _
    by_cases h : n = i
    · simp [h]
    · have h' : ¬ i = n := fun e => h e.symm
      simp [h, h']
  walk_at "zz"
theorem flat_ints (ns : List Int) : (ns.map V.int).all flatV = true := by
  refine keepG ?_ ?_
  rw [List.all_map]
  exact List.all_eq_true.mpr fun _ _ => rfl
  walk_at "zz"
theorem r_in {K : PySem.W.Frag} (neg : Bool) : SndR K (rIn K neg) (inD neg) := by
  refine keepG ?_ ?_
  intro H Hb v w x y z e rx ry hz Q q1 q2
  cases x with
  | int i =>
    obtain ⟨ds, h1, hz⟩ := bnd hz
    obtain ⟨ns, h2, hz⟩ := bnd hz
    cases hz
    obtain ⟨l, ws, rfl, g1, g2⟩ := ry.seq e h1
    rw [asI_of h2] at g2
    rw [g2.toI] at g1
    have hv := rx.int
    subst hv
    refine ⟨l, _, rfl, g1, rfl, flat_ints ns, ?_⟩
    rw [inV_int]
    exact q1 _ (.bl _)
  | _ => cases hz
  walk_at "zz"
end Mi
namespace Mi
open PySem PySem.Spec PyProof.Rows L2 Evl
theorem all_cons {α : Type} {P : α → Prop} {a : α} {l : List α} (h : P a) (t : ∀ p ∈ l, P p) : ∀ p ∈ a :: l, P p := List.forall_mem_cons.mpr ⟨h, t⟩
end Mi
namespace Mi
open PySem PySem.Spec PyProof.Rows L2 Evl
end Mi

/-! Meanings walked from behind: each rule leaves what is still to be shown. -/
namespace Mi
open PySem PySem.Spec PyProof.Rows L2 Evl
def OE (x : Option (Bv × Sto)) (P : Bv → Sto → Prop) : Prop := ∃ b s, x = some (b, s) ∧ P b s
def OT (x : Option (Bool × Sto)) (P : Bool → Sto → Prop) : Prop := ∃ b s, x = some (b, s) ∧ P b s
def OA (x : Option (List Bv × Sto)) (P : List Bv → Sto → Prop) : Prop := ∃ b s, x = some (b, s) ∧ P b s
/-- lists and items -/
def OF (x : Option (List D × Sto)) (P : List D → Sto → Prop) : Prop := ∃ b s, x = some (b, s) ∧ P b s
def OZ (x : Option (D × Sto)) (P : D → Sto → Prop) : Prop := ∃ b s, x = some (b, s) ∧ P b s
def OS (x : Option (Out × Sto)) (P : Out → Sto → Prop) : Prop := ∃ b s, x = some (b, s) ∧ P b s
def OO (x : Option (Option Int × Sto)) (P : Option Int → Sto → Prop) : Prop := ∃ b s, x = some (b, s) ∧ P b s
def OM (x : Option (D × Option (List D))) (P : D → Option (List D) → Prop) : Prop := ∃ b s, x = some (b, s) ∧ P b s
def OI (x : Option (List D)) (P : List D → Prop) : Prop := ∃ b, x = some b ∧ P b
def OD (x : Option D) (P : D → Prop) : Prop := ∃ d, x = some d ∧ P d
def OG (x : Option Sto) (P : Sto → Prop) : Prop := ∃ s, x = some s ∧ P s
/-- a slot is stored -/
inductive SetTo {α : Type} : List α → Nat → α → List α → Prop
  | zero {x v : α} {s : List α} : SetTo (x :: s) 0 v (v :: s)
  | succ {x v : α} {s s' : List α} {i : Nat} : SetTo s i v s' → SetTo (x :: s) (i + 1) v (x :: s')
theorem SetTo.eq {α : Type} : ∀ {s s' : List α} {i : Nat} {v : α}, SetTo s i v s' → s.set i v = s'
  | _, _, _, _, .zero => rfl
  | _, _, _, _, .succ h => by rw [List.set_cons_succ, SetTo.eq h]
/-- a bool decides -/
def Br (c : Bool) (A B : Prop) : Prop := (c = true → A) ∧ (c = false → B)
theorem br_true {A B : Prop} (h : A) : Br true A B := ⟨fun _ => h, fun z => nomatch z⟩
theorem br_false {A B : Prop} (h : B) : Br false A B := ⟨(fun z => nomatch z), fun _ => h⟩
theorem br_yes {p : Prop} [Decidable p] {A B : Prop} (hp : p) (h : A) : Br (decide p) A B := ⟨fun _ => h, fun z => absurd hp (of_decide_eq_false z)⟩
theorem br_no {p : Prop} [Decidable p] {A B : Prop} (hp : ¬ p) (h : B) : Br (decide p) A B := ⟨fun z => absurd (of_decide_eq_true z) hp, fun _ => h⟩
theorem br_dec {p : Prop} [Decidable p] {A B : Prop} (h1 : p → A) (h2 : ¬ p → B) : Br (decide p) A B := ⟨fun z => h1 (of_decide_eq_true z), fun z => h2 (of_decide_eq_false z)⟩
theorem br_not {c : Bool} {A B : Prop} (h : Br c B A) : Br (!c) A B := ⟨fun z => h.2 (by cases c <;> first | rfl | cases z), fun z => h.1 (by cases c <;> first | rfl | cases z)⟩
theorem br_of {c : Bool} {A B : Prop} (h1 : c = true → A) (h2 : c = false → B) : Br c A B := ⟨h1, h2⟩
section
variable {s s1 s2 : Sto} {P : Bv → Sto → Prop} {ma mb mc me : ME} {mt mu : MT} {mas : MA} {mf : MF}
theorem oe_var {i : Nat} {d : D} (h : s[i]? = some (.dat d)) (p : P (.dat d) s) : OE (mVar i s) P := ⟨.dat d, s, by unfold mVar; rw [h], p⟩
theorem oe_own {i : Nat} {ds : List D} (h : s[i]? = some (.own ds)) (p : P (.slot i) s) : OE (mVar i s) P := ⟨.slot i, s, by unfold mVar; rw [h], p⟩
theorem oe_par {i : Nat} {ds : List D} (h : s[i]? = some (.par ds)) (p : P (.slot i) s) : OE (mVar i s) P := ⟨.slot i, s, by unfold mVar; rw [h], p⟩
theorem oe_c {d : D} (p : P (.dat d) s) : OE (mC d s) P := ⟨_, _, rfl, p⟩
theorem oe_bin {g : D → D → Option D} (h : OE (ma s) fun a s1 => OE (mb s1) fun b s2 => OD (look s2 a) fun x => OD (look s2 b) fun y => OD (g x y) fun z => P (.dat z) s2) : OE (mBin g ma mb s) P := by
  refine keepG ?_ ?_
  obtain ⟨a, s1, e1, b, s2, e2, x, e3, y, e4, z, e5, p⟩ := h
  refine ⟨_, _, ?_, p⟩
  unfold mBin
  rw [e1]
  show (mb s1).bind _ = _
  rw [e2]
  show (look s2 a).bind _ = _
  rw [e3]
  show (look s2 b).bind _ = _
  rw [e4]
  show (g x y).bind _ = _
  rw [e5]
  rfl
  walk_at "zz"
theorem oe_un {g : D → Option D} (h : OE (ma s) fun a s1 => OD (look s1 a) fun x => OD (g x) fun z => P (.dat z) s1) : OE (mUn g ma s) P := by
  refine keepG ?_ ?_
  obtain ⟨a, s1, e1, x, e3, z, e5, p⟩ := h
  refine ⟨_, _, ?_, p⟩
  unfold mUn
  rw [e1]
  show (look s1 a).bind _ = _
  rw [e3]
  show (g x).bind _ = _
  rw [e5]
  rfl
  walk_at "zz"
theorem od_dat {d : D} {P : D → Prop} (p : P d) : OD (look s (.dat d)) P := ⟨_, rfl, p⟩
theorem od_own {j : Nat} {ds : List D} {P : D → Prop} (h : s[j]? = some (.own ds)) (p : P (.lst ds)) : OD (look s (.slot j)) P := ⟨_, by simp [look, h], p⟩
theorem od_par {j : Nat} {ds : List D} {P : D → Prop} (h : s[j]? = some (.par ds)) (p : P (.lst ds)) : OD (look s (.slot j)) P := ⟨_, by simp [look, h], p⟩
theorem od_eq {x : Option D} {d : D} {P : D → Prop} (h : x = some d) (p : P d) : OD x P := ⟨_, h, p⟩
theorem od_add {i j : Int} {P : D → Prop} (p : P (.int (i + j))) : OD (addD (.int i) (.int j)) P := ⟨_, rfl, p⟩
theorem od_sub {i j : Int} {P : D → Prop} (p : P (.int (i - j))) : OD (intOp subI (.int i) (.int j)) P := ⟨_, rfl, p⟩
theorem od_plus {i j : Int} {P : D → Prop} (p : P (.int (i + j))) : OD (intOp plusI (.int i) (.int j)) P := ⟨_, rfl, p⟩
theorem od_mulL {i j : Int} {P : D → Prop} (h : -18446744073709551616 < i ∧ i < 18446744073709551616) (p : P (.int (i * j))) : OD (mulD (.int i) (.int j)) P := ⟨_, if_pos (.inl h), p⟩
theorem od_mulR {i j : Int} {P : D → Prop} (h : -18446744073709551616 < j ∧ j < 18446744073709551616) (p : P (.int (i * j))) : OD (mulD (.int i) (.int j)) P := ⟨_, if_pos (.inr h), p⟩
theorem od_fdiv {i j : Int} {P : D → Prop} (h : 0 < j ∧ j < 1152921504606846976) (p : P (.int (i / j))) : OD (intOp fdivI (.int i) (.int j)) P := ⟨_, by unfold intOp fdivI; show ((if _ then _ else _ : Option Int)).bind _ = _; rw [if_pos (by omega)]; rfl, p⟩
theorem od_mod {i j : Int} {P : D → Prop} (h : 0 < j) (p : P (.int (i % j))) : OD (intOp modI (.int i) (.int j)) P := ⟨_, by unfold intOp modI; show ((if _ then _ else _ : Option Int)).bind _ = _; rw [if_pos h]; rfl, p⟩
theorem od_neg {i : Int} {P : D → Prop} (p : P (.int (-i))) : OD (negD (.int i)) P := ⟨_, rfl, p⟩
theorem od_lt {i j : Int} {P : D → Prop} (p : P (.bl (decide (i < j)))) : OD (cmpI ltI (.int i) (.int j)) P := ⟨_, rfl, p⟩
theorem od_le {i j : Int} {P : D → Prop} (p : P (.bl (decide (i ≤ j)))) : OD (cmpI leI (.int i) (.int j)) P := ⟨_, rfl, p⟩
theorem od_gt {i j : Int} {P : D → Prop} (p : P (.bl (decide (j < i)))) : OD (cmpI gtI (.int i) (.int j)) P := ⟨_, rfl, p⟩
theorem od_ge {i j : Int} {P : D → Prop} (p : P (.bl (decide (j ≤ i)))) : OD (cmpI geI (.int i) (.int j)) P := ⟨_, rfl, p⟩
theorem od_eqi {i j : Int} {P : D → Prop} (p : P (.bl (decide (i = j)))) : OD (eqD (.int i) (.int j)) P := ⟨_, eqD_int i j, p⟩
theorem od_neb {i j : Bool} {P : D → Prop} (p : P (.bl (!decide (i = j)))) : OD (neD (.bl i) (.bl j)) P := ⟨_, by rw [neD_pl (pl_bl i) (pl_bl j)]; simp [D.py, PyData.eqv]; cases i <;> cases j <;> rfl, p⟩
/-! values that are needed as data -/
theorem oz_dat {d : D} {P : D → Sto → Prop} (p : P d s) : OZ (frz s (.dat d)) P := ⟨_, _, rfl, p⟩
/-! arguments -/
theorem oa_nil {P : List Bv → Sto → Prop} (p : P [] s) : OA (aNil s) P := ⟨_, _, rfl, p⟩
theorem oa_cons {P : List Bv → Sto → Prop} (h : OE (ma s) fun a s1 => OA (mas s1) fun r s2 => P (a :: r) s2) : OA (aCons ma mas s) P := by
  refine keepG ?_ ?_
  obtain ⟨a, s1, e1, r, s2, e2, p⟩ := h
  refine ⟨_, _, ?_, p⟩
  unfold aCons
  rw [e1]
  show (mas s1).bind _ = _
  rw [e2]
  rfl
  walk_at "zz"
def OL (x : Option (List D)) (P : List D → Prop) : Prop := ∃ d, x = some d ∧ P d
theorem ol_nil {P : List D → Prop} (p : P []) : OL (looks s []) P := ⟨_, rfl, p⟩
theorem ol_cons {b : Bv} {bs : List Bv} {P : List D → Prop} (h : OD (look s b) fun d => OL (looks s bs) fun ds => P (d :: ds)) : OL (looks s (b :: bs)) P := by
  refine keepG ?_ ?_
  obtain ⟨d, e1, ds, e2, p⟩ := h
  refine ⟨_, ?_, p⟩
  unfold looks
  rw [e1]
  show (looks s bs).bind _ = _
  rw [e2]
  rfl
  walk_at "zz"
theorem of_nil {P : List D → Sto → Prop} (p : P [] s) : OF (frzs s []) P := ⟨_, _, rfl, p⟩
theorem of_cons {b : Bv} {bs : List Bv} {P : List D → Sto → Prop} (h : OZ (frz s b) fun d s1 => OF (frzs s1 bs) fun ds s2 => P (d :: ds) s2) : OF (frzs s (b :: bs)) P := by
  refine keepG ?_ ?_
  obtain ⟨d, s1, e1, ds, s2, e2, p⟩ := h
  refine ⟨_, _, ?_, p⟩
  unfold frzs
  rw [e1]
  show (frzs s1 bs).bind _ = _
  rw [e2]
  rfl
  walk_at "zz"
theorem oe_bi {g : List D → Option D} (h : OA (mas s) fun bs s1 => OL (looks s1 bs) fun xs => OD (g xs) fun z => P (.dat z) s1) : OE (mBi g mas s) P := by
  refine keepG ?_ ?_
  obtain ⟨bs, s1, e1, xs, e2, z, e3, p⟩ := h
  refine ⟨_, _, ?_, p⟩
  unfold mBi
  rw [e1]
  show (looks s1 bs).bind _ = _
  rw [e2]
  show (g xs).bind _ = _
  rw [e3]
  rfl
  walk_at "zz"
theorem of_biF {g : List D → Option (List D)} {P : List D → Sto → Prop} (h : OA (mas s) fun bs s1 => OL (looks s1 bs) fun xs => OI (g xs) fun z => P z s1) : OF (mBiF g mas s) P := by
  refine keepG ?_ ?_
  obtain ⟨bs, s1, e1, xs, e2, z, e3, p⟩ := h
  refine ⟨_, _, ?_, p⟩
  unfold mBiF
  rw [e1]
  show (looks s1 bs).bind _ = _
  rw [e2]
  show (g xs).bind _ = _
  rw [e3]
  rfl
  walk_at "zz"
def Lim (n : Nat) (A : Prop) : Prop := n ≤ 16000000 ∧ A
theorem lim_i {n : Nat} {A : Prop} (h : n ≤ 16000000) (a : A) : Lim n A := ⟨h, a⟩
theorem oe_tup (h : OA (mas s) fun bs s1 => OF (frzs s1 bs) fun ds s2 => Lim ds.length (P (.dat (.tup ds)) s2)) : OE (mTup mas s) P := by
  refine keepG ?_ ?_
  obtain ⟨bs, s1, e1, ds, s2, e2, hl, p⟩ := h
  refine ⟨_, _, ?_, p⟩
  unfold mTup
  rw [e1]
  show (frzs s1 bs).bind _ = _
  rw [e2]
  show (if ds.length ≤ 16000000 then _ else _) = _
  rw [if_pos hl]
  walk_at "zz"
theorem of_lst {P : List D → Sto → Prop} (h : OA (mas s) fun bs s1 => OF (frzs s1 bs) fun ds s2 => Lim ds.length (P ds s2)) : OF (mLst mas s) P := by
  refine keepG ?_ ?_
  obtain ⟨bs, s1, e1, ds, s2, e2, hl, p⟩ := h
  refine ⟨_, _, ?_, p⟩
  unfold mLst
  rw [e1]
  show (frzs s1 bs).bind _ = _
  rw [e2]
  show (if ds.length ≤ 16000000 then _ else _) = _
  rw [if_pos hl]
  walk_at "zz"
theorem oe_F (h : OF (mf s) fun ds s1 => P (.dat (.lst ds)) s1) : OE (mF mf s) P := by
  refine keepG ?_ ?_
  obtain ⟨ds, s1, e1, p⟩ := h
  refine ⟨_, _, ?_, p⟩
  unfold mF
  rw [e1]
  rfl
  walk_at "zz"
/-! slices -/
theorem oo_none {P : Option Int → Sto → Prop} (p : P none s) : OO (oNone s) P := ⟨_, _, rfl, p⟩
theorem oo_some {P : Option Int → Sto → Prop} (h : OE (ma s) fun b s1 => ∃ i, b = .dat (.int i) ∧ P (some i) s1) : OO (oSome ma s) P := by
  refine keepG ?_ ?_
  obtain ⟨b, s1, e1, i, rfl, p⟩ := h
  refine ⟨_, _, ?_, p⟩
  unfold oSome
  rw [e1]
  rfl
  walk_at "zz"
theorem oe_sl {g : D → Option Int → Option Int → Option D} {ml mh : Sto → Option (Option Int × Sto)} (h : OE (ma s) fun a s1 => OO (ml s1) fun l s2 => OO (mh s2) fun h s3 => OD (look s3 a) fun x => OD (g x l h) fun z => P (.dat z) s3) : OE (mSl g ma ml mh s) P := by
  refine keepG ?_ ?_
  obtain ⟨a, s1, e1, l, s2, e2, hh, s3, e3, x, e4, z, e5, p⟩ := h
  refine ⟨_, _, ?_, p⟩
  unfold mSl
  rw [e1]
  show (ml s1).bind _ = _
  rw [e2]
  show (mh s2).bind _ = _
  rw [e3]
  show (look s3 a).bind _ = _
  rw [e4]
  show (g x l hh).bind _ = _
  rw [e5]
  rfl
  walk_at "zz"
/-! tests -/
theorem ot_test {P : Bool → Sto → Prop} (h : OE (ma s) fun b s1 => ∃ c, b = .dat (.bl c) ∧ P c s1) : OT (mTest ma s) P := by
  refine keepG ?_ ?_
  obtain ⟨b, s1, e1, c, rfl, p⟩ := h
  exact ⟨c, s1, test_of e1, p⟩
  walk_at "zz"
/-- the truth of a value -/
def Tr (d : D) (A : Bool → Prop) : Prop := d.hasTru = true ∧ A (truD d)
theorem tr_bl {b : Bool} {A : Bool → Prop} (a : A b) : Tr (.bl b) A := ⟨rfl, a⟩
theorem tr_fro {ds : List D} {A : Bool → Prop} (a : A (!ds.isEmpty)) : Tr (.fro ds) A := ⟨rfl, a⟩
theorem ot_tru {P : Bool → Sto → Prop} (h : OE (ma s) fun b s1 => OD (look s1 b) fun d => Tr d fun k => P k s1) : OT (mTru ma s) P := by
  refine keepG ?_ ?_
  obtain ⟨b, s1, e1, d, e2, hd, p⟩ := h
  refine ⟨_, s1, ?_, p⟩
  unfold mTru
  rw [e1]
  show (look s1 b).bind _ = _
  rw [e2]
  show (if d.hasTru = true then _ else _) = _
  rw [if_pos hd]
  walk_at "zz"
theorem ot_and {P : Bool → Sto → Prop} (h : OT (mt s) fun c s1 => Br c (OT (mu s1) P) (P false s1)) : OT (mAnd mt mu s) P := by
  refine keepG ?_ ?_
  obtain ⟨c, s1, e1, h1, h2⟩ := h
  cases c with
  | true =>
    obtain ⟨b, s2, e2, p⟩ := h1 rfl
    exact ⟨b, s2, by rw [and_t e1]; exact e2, p⟩
  | false => exact ⟨false, s1, and_f e1, h2 rfl⟩
  walk_at "zz"
theorem ot_or {P : Bool → Sto → Prop} (h : OT (mt s) fun c s1 => Br c (P true s1) (OT (mu s1) P)) : OT (mOr mt mu s) P := by
  refine keepG ?_ ?_
  obtain ⟨c, s1, e1, h1, h2⟩ := h
  cases c with
  | true => exact ⟨true, s1, or_t e1, h1 rfl⟩
  | false =>
    obtain ⟨b, s2, e2, p⟩ := h2 rfl
    exact ⟨b, s2, by rw [or_f e1]; exact e2, p⟩
  walk_at "zz"
theorem ot_not {P : Bool → Sto → Prop} (h : OT (mt s) fun c s1 => P (!c) s1) : OT (mNot mt s) P := by
  refine keepG ?_ ?_
  obtain ⟨c, s1, e1, p⟩ := h
  exact ⟨_, s1, by unfold mNot; rw [e1]; rfl, p⟩
  walk_at "zz"
theorem ot_yes {P : Bool → Sto → Prop} (p : P true s) : OT (mYes s) P := ⟨_, _, rfl, p⟩
theorem oe_andV (h : OE (ma s) fun b s1 => ∃ c, b = .dat (.bl c) ∧ Br c (OE (mb s1) P) (P (.dat (.bl false)) s1)) : OE (mAndV ma mb s) P := by
  refine keepG ?_ ?_
  obtain ⟨b, s1, e1, c, rfl, h1, h2⟩ := h
  cases c with
  | true =>
    obtain ⟨b, s2, e2, p⟩ := h1 rfl
    exact ⟨b, s2, by rw [andV_t e1]; exact e2, p⟩
  | false => exact ⟨_, s1, andV_f e1, h2 rfl⟩
  walk_at "zz"
theorem oe_orV (h : OE (ma s) fun b s1 => ∃ c, b = .dat (.bl c) ∧ Br c (P (.dat (.bl true)) s1) (OE (mb s1) P)) : OE (mOrV ma mb s) P := by
  refine keepG ?_ ?_
  obtain ⟨b, s1, e1, c, rfl, h1, h2⟩ := h
  cases c with
  | true => exact ⟨_, s1, orV_t e1, h1 rfl⟩
  | false =>
    obtain ⟨b, s2, e2, p⟩ := h2 rfl
    exact ⟨b, s2, by rw [orV_f e1]; exact e2, p⟩
  walk_at "zz"
theorem oe_notV (h : OE (ma s) fun b s1 => ∃ c, b = .dat (.bl c) ∧ P (.dat (.bl (!c))) s1) : OE (mNotV ma s) P := by
  refine keepG ?_ ?_
  obtain ⟨b, s1, e1, c, rfl, p⟩ := h
  exact ⟨_, s1, by unfold mNotV mTest; rw [e1]; rfl, p⟩
  walk_at "zz"
theorem oe_ifE (h : OT (mt s) fun c s1 => Br c (OE (ma s1) P) (OE (mb s1) P)) : OE (mIfE mt ma mb s) P := by
  refine keepG ?_ ?_
  obtain ⟨c, s1, e1, h1, h2⟩ := h
  cases c with
  | true =>
    obtain ⟨b, s2, e2, p⟩ := h1 rfl
    exact ⟨b, s2, ifE_t e1 e2, p⟩
  | false =>
    obtain ⟨b, s2, e2, p⟩ := h2 rfl
    exact ⟨b, s2, ifE_f e1 e2, p⟩
  walk_at "zz"
theorem ex_bl {c : Bool} {P : Bool → Prop} (p : P c) : ∃ k, Bv.dat (D.bl c) = .dat (.bl k) ∧ P k := ⟨c, rfl, p⟩
theorem ex_int {c : Int} {P : Int → Prop} (p : P c) : ∃ k, Bv.dat (D.int c) = .dat (.int k) ∧ P k := ⟨c, rfl, p⟩
/-! statements -/
def Nx (m2 : MS) (P : Out → Sto → Prop) : Out → Sto → Prop := fun o s => match o with
  | .nx => OS (m2 s) P
  | o => P o s
theorem nx_nx {m2 : MS} {P : Out → Sto → Prop} (h : OS (m2 s) P) : Nx m2 P .nx s := h
theorem nx_rt {m2 : MS} {P : Out → Sto → Prop} {d : D} (h : P (.rt d) s) : Nx m2 P (.rt d) s := h
theorem nx_ex {m2 : MS} {P : Out → Sto → Prop} {c : Nat} {n : Int} (h : P (.ex c n) s) : Nx m2 P (.ex c n) s := h
theorem os_seq {m1 m2 : MS} {P : Out → Sto → Prop} (h : OS (m1 s) (Nx m2 P)) : OS (mSeq m1 m2 s) P := by
  refine keepG ?_ ?_
  obtain ⟨o, s1, e1, p⟩ := h
  cases o with
  | nx =>
    obtain ⟨o, s2, e2, p⟩ := p
    exact ⟨o, s2, by rw [seq_nx e1]; exact e2, p⟩
  | rt d => exact ⟨_, s1, seq_rt e1, p⟩
  | bk => exact ⟨.bk, s1, by unfold mSeq; rw [e1]; rfl, p⟩
  | ct => exact ⟨.ct, s1, by unfold mSeq; rw [e1]; rfl, p⟩
  | ex c n => exact ⟨.ex c n, s1, by unfold mSeq; rw [e1]; rfl, p⟩
  walk_at "zz"
theorem os_next {P : Out → Sto → Prop} (p : P .nx s) : OS (mNext s) P := ⟨_, _, rfl, p⟩
theorem os_if {m1 m2 : MS} {P : Out → Sto → Prop} (h : OT (mt s) fun c s1 => Br c (OS (m1 s1) P) (OS (m2 s1) P)) : OS (mIf mt m1 m2 s) P := by
  refine keepG ?_ ?_
  obtain ⟨c, s1, e1, h1, h2⟩ := h
  cases c with
  | true =>
    obtain ⟨b, s2, e2, p⟩ := h1 rfl
    exact ⟨b, s2, by rw [if_t e1]; exact e2, p⟩
  | false =>
    obtain ⟨b, s2, e2, p⟩ := h2 rfl
    exact ⟨b, s2, by rw [if_f e1]; exact e2, p⟩
  walk_at "zz"
theorem os_asg {g : MG} {P : Out → Sto → Prop} (h : OE (me s) fun b s1 => OZ (frz s1 b) fun d s2 => OG (g d s2) fun s3 => P .nx s3) : OS (mAsg me g s) P := by
  refine keepG ?_ ?_
  obtain ⟨b, s1, e1, d, s2, e2, s3, e3, p⟩ := h
  refine ⟨_, _, ?_, p⟩
  unfold mAsg
  rw [e1]
  show (frz s1 b).bind _ = _
  rw [e2]
  show (g d s2).bind _ = _
  rw [e3]
  rfl
  walk_at "zz"
theorem og_nm {i : Nat} {d : D} {P : Sto → Prop} (h : SetTo s i (.dat d) s1) (p : P s1) : OG (gNm i d s) P := ⟨_, rfl, by rw [h.eq]; exact p⟩
theorem og_tp {n : Nat} {gs : List D → Sto → Option Sto} {ds : List D} {P : Sto → Prop} (hl : ds.length = n) (h : OG (gs ds s) P) : OG (gTp n gs (.tup ds) s) P := by
  refine keepG ?_ ?_
  obtain ⟨s1, e, p⟩ := h
  exact ⟨s1, by unfold gTp; show (if ds.length = n then _ else _) = _; rw [if_pos hl]; exact e, p⟩
  walk_at "zz"
theorem og_nil {P : Sto → Prop} (p : P s) : OG (gsNil [] s) P := ⟨_, rfl, p⟩
theorem og_cons {g : MG} {gs : List D → Sto → Option Sto} {d : D} {ds : List D} {P : Sto → Prop} (h : OG (g d s) fun s1 => OG (gs ds s1) P) : OG (gsCons g gs (d :: ds) s) P := by
  refine keepG ?_ ?_
  obtain ⟨s1, e1, s2, e2, p⟩ := h
  exact ⟨s2, by unfold gsCons; show (g d s).bind _ = _; rw [e1]; exact e2, p⟩
  walk_at "zz"
theorem os_asgF {i : Nat} {P : Out → Sto → Prop} (h : OF (mf s) fun ds s1 => ∃ s2, SetTo s1 i (.own ds) s2 ∧ P .nx s2) : OS (mAsgF mf i s) P := by
  refine keepG ?_ ?_
  obtain ⟨ds, s1, e1, s2, k, p⟩ := h
  refine ⟨_, s2, ?_, p⟩
  unfold mAsgF
  rw [e1]
  show some (Out.nx, s1.set i _) = _
  rw [k.eq]
  walk_at "zz"
theorem os_ret {P : Out → Sto → Prop} (h : OE (me s) fun b s1 => OZ (frz s1 b) fun d s2 => P (.rt d) s2) : OS (mRet me s) P := by
  refine keepG ?_ ?_
  obtain ⟨b, s1, e1, d, s2, e2, p⟩ := h
  refine ⟨_, _, ?_, p⟩
  unfold mRet
  rw [e1]
  show (frz s1 b).bind _ = _
  rw [e2]
  rfl
  walk_at "zz"
theorem os_aug {i : Nat} {g : D → D → Option D} {x : D} {P : Out → Sto → Prop} (h0 : s[i]? = some (.dat x)) (h : OE (me s) fun b s1 => OD (look s1 b) fun y => OD (g x y) fun z => ∃ s2, SetTo s1 i (.dat z) s2 ∧ P .nx s2) : OS (mAug i g me s) P := by
  refine keepG ?_ ?_
  obtain ⟨b, s1, e1, y, e2, z, e3, s2, k, p⟩ := h
  refine ⟨_, s2, ?_, p⟩
  unfold mAug
  rw [h0]
  show (me s).bind _ = _
  rw [e1]
  show (look s1 b).bind _ = _
  rw [e2]
  show (g x y).bind _ = _
  rw [e3]
  show some (Out.nx, s1.set i _) = _
  rw [k.eq]
  walk_at "zz"
theorem ex_set {i : Nat} {v : SV} {P : Sto → Prop} (h : SetTo s i v s1) (p : P s1) : ∃ s2, SetTo s i v s2 ∧ P s2 := ⟨s1, h, p⟩
theorem lsAt_own {j : Nat} {ds : List D} (h : s[j]? = some (.own ds)) : lsAt s j = some ds := by unfold lsAt; rw [h]
theorem lsAt_par {j : Nat} {ds : List D} (h : s[j]? = some (.par ds)) : lsAt s j = some ds := by unfold lsAt; rw [h]
def HasL (s : Sto) (j : Nat) (A : Prop) : Prop := (lsAt s j).isSome = true ∧ A
theorem hasl_p {j : Nat} {ds : List D} {A : Prop} (h : s[j]? = some (.par ds)) (a : A) : HasL s j A := ⟨by rw [lsAt_par h]; rfl, a⟩
def PutA (s : Sto) (j : Nat) (a b : Bv) (A : Sto → Prop) : Prop := ∃ i k d ds s1, b = .dat (.int i) ∧ a = .dat d ∧ lsAt s j = some ds ∧ ixN ds.length i = some k ∧ putAt s j (ds.set k d) = some s1 ∧ A s1
theorem puta_p {j k : Nat} {i : Int} {d : D} {ds es : List D} {A : Sto → Prop} (h : s[j]? = some (.par ds)) (hk : ixN ds.length i = some k) (hl : SetTo ds k d es) (h4 : SetTo s j (.par es) s1) (a : A s1) : PutA s j (.dat d) (.dat (.int i)) A :=
  ⟨i, k, d, ds, s1, rfl, rfl, lsAt_par h, hk, by unfold putAt; rw [h, hl.eq, ← h4.eq], a⟩
theorem os_setC {j : Nat} {mi : ME} {P : Out → Sto → Prop} (h : OE (me s) fun a s1 => HasL s1 j (OE (mi s1) fun b s2 => PutA s2 j a b (P .nx))) : OS (mSet j mi me s) P := by
  refine keepG ?_ ?_
  obtain ⟨a, s1, e1, hl, b, s2, e2, i, k, d, ds, s3, rfl, rfl, e3, e4, e5, p⟩ := h
  refine ⟨_, s3, ?_, p⟩
  unfold mSet
  rw [e1]
  show (lsAt s1 j).bind _ = _
  cases h1 : lsAt s1 j with
  | none => rw [h1] at hl; cases hl
  | some x =>
    show (mi s1).bind _ = _
    rw [e2]
    show (lsAt s2 j).bind _ = _
    rw [e3]
    show (ixN ds.length i).bind _ = _
    rw [e4]
    show (putAt s2 j (ds.set k d)).bind _ = _
    rw [e5]
    rfl
  walk_at "zz"
theorem os_app {j : Nat} {P : Out → Sto → Prop} {ds0 : List D} (h0 : s[j]? = some (.own ds0)) (h : OE (me s) fun b s1 => OZ (frz s1 b) fun d s2 => ∃ ds, s2[j]? = some (.own ds) ∧ ds.length < 16000000 ∧ ∃ s3, SetTo s2 j (.own (ds ++ [d])) s3 ∧ P .nx s3) : OS (mApp j me s) P := by
  refine keepG ?_ ?_
  obtain ⟨b, s1, e1, d, s2, e2, ds, e3, hl, s3, k, p⟩ := h
  refine ⟨_, s3, ?_, p⟩
  unfold mApp
  rw [lsAt_own h0]
  show (me s).bind _ = _
  rw [e1]
  show (frz s1 b).bind _ = _
  rw [e2]
  show (lsAt s2 j).bind _ = _
  rw [lsAt_own e3]
  show (if ds.length < 16000000 then _ else _) = _
  rw [if_pos hl]
  unfold putAt
  rw [e3]
  show some (Out.nx, s2.set j _) = _
  rw [k.eq]
  walk_at "zz"
/-! loops -/
theorem os_for {mi : MI} {g : MG} {mb : MS} {P : Out → Sto → Prop} (h : OF (mi s) fun xs s1 => OS (forD g mb xs s1) P) : OS (mFor mi g mb s) P := by
  refine keepG ?_ ?_
  obtain ⟨xs, s1, e1, h⟩ := h
  obtain ⟨o, s2, e2, p⟩ := h
  exact ⟨o, s2, by rw [for_it e1]; exact e2, p⟩
  walk_at "zz"
/-- a turn's end: go on by I, or out by P -/
def Turn (I : Sto → Prop) (P : Out → Sto → Prop) : Out → Sto → Prop := fun o s => match o with
  | .nx => I s
  | .ct => I s
  | .bk => P .nx s
  | .rt d => P (.rt d) s
  | .ex c n => P (.ex c n) s
theorem tu_nx {I : Sto → Prop} {P : Out → Sto → Prop} (h : I s) : Turn I P .nx s := h
theorem tu_ex {I : Sto → Prop} {P : Out → Sto → Prop} {c : Nat} {n : Int} (h : P (.ex c n) s) : Turn I P (.ex c n) s := h
theorem os_loop {g : MG} {mb : MS} {P : Out → Sto → Prop} (I : Nat → Sto → Prop) : ∀ (xs : List D) (k : Nat) (s : Sto), I k s → (∀ (i : Nat) (d : D) (t : Sto), xs[i]? = some d → I (k + i) t → OG (g d t) fun t1 => OS (mb t1) (Turn (I (k + i + 1)) P)) → (∀ t, I (k + xs.length) t → P .nx t) → OS (forD g mb xs s) P
  | [], k, s, h0, _, hf => ⟨.nx, s, rfl, hf s h0⟩
  | x :: xs, k, s, h0, h, hf => by
    obtain ⟨t1, e1, o, t2, e2, p⟩ := h 0 x s rfl h0
    have next : I (k + 1) t2 → OS (forD g mb xs t2) P := fun h1 => os_loop I xs (k + 1) t2 h1 (fun i d t hd ht => by
      have := h (i + 1) d t (by simpa using hd) (by rw [show k + (i + 1) = k + 1 + i by omega]; exact ht)
      rw [show k + (i + 1) + 1 = k + 1 + i + 1 by omega] at this
      exact this) (fun t ht => hf t (by rw [show k + (x :: xs).length = k + 1 + xs.length by rw [List.length_cons]; omega]; exact ht))
    have step : ∀ r, (match o with
      | .nx => forD g mb xs t2
      | .ct => forD g mb xs t2
      | .bk => some (.nx, t2)
      | .rt x => some (.rt x, t2)
      | .ex c n => some (.ex c n, t2)) = r → forD g mb (x :: xs) s = r := fun r hr => by
      unfold forD
      rw [e1]
      show (mb t1).bind _ = _
      rw [e2]
      cases o <;> exact hr
    cases o with
    | nx =>
      obtain ⟨o, s3, e3, p⟩ := next p
      exact ⟨o, s3, step _ e3, p⟩
    | ct =>
      obtain ⟨o, s3, e3, p⟩ := next p
      exact ⟨o, s3, step _ e3, p⟩
    | bk => exact ⟨_, _, step _ rfl, p⟩
    | rt d => exact ⟨_, _, step _ rfl, p⟩
    | ex c n => exact ⟨_, _, step _ rfl, p⟩
def Rg1 (bs : List Bv) (A : Int → Prop) : Prop := ∃ n, bs = [.dat (.int n)] ∧ n < 4611686018427387904 ∧ -4611686018427387904 ≤ n ∧ A n
def Rg2 (bs : List Bv) (A : Int → Int → Prop) : Prop := ∃ m n, bs = [.dat (.int m), .dat (.int n)] ∧ (-4611686018427387904 ≤ m ∧ m < 4611686018427387904) ∧ (-4611686018427387904 ≤ n ∧ n < 4611686018427387904) ∧ A m n
theorem rg1_i {n : Int} {A : Int → Prop} (h : -4611686018427387904 ≤ n ∧ n < 4611686018427387904) (a : A n) : Rg1 [.dat (.int n)] A := ⟨n, rfl, h.2, h.1, a⟩
theorem of_r1 {P : List D → Sto → Prop} (h : OA (mas s) fun bs s1 => Rg1 bs fun n => P (rng 0 n.toNat) s1) : OF (iR1 mas s) P := by
  refine keepG ?_ ?_
  obtain ⟨bs, s1, e1, n, rfl, h1, h2, p⟩ := h
  refine ⟨_, _, ?_, p⟩
  unfold iR1
  rw [e1]
  show (if n < 4611686018427387904 ∧ -4611686018427387904 ≤ n then some (rng 0 n.toNat, s1) else none) = _
  rw [if_pos ⟨h1, h2⟩]
  walk_at "zz"
theorem rng_get {lo : Int} {n i : Nat} {d : D} (h : (rng lo n)[i]? = some d) : d = .int (lo + (i : Int)) ∧ i < n := ⟨(rng_at h).2, (rng_at h).1⟩
/-! defs and their calls -/
/-- a def's end -/
def Fin' (Q : D → Option (List D) → Prop) : Out → Sto → Prop := fun o s => match o with
  | .rt d => Q d (parOf s)
  | .nx => Q .non (parOf s)
  | _ => False
inductive ParIs : Sto → Option (List D) → Prop
  | here {ds : List D} {s : Sto} : ParIs (.par ds :: s) (some ds)
  | nil : ParIs [] none
  | dat {d : D} {s : Sto} {r : Option (List D)} : ParIs s r → ParIs (.dat d :: s) r
  | own {d : List D} {s : Sto} {r : Option (List D)} : ParIs s r → ParIs (.own d :: s) r
  | un {s : Sto} {r : Option (List D)} : ParIs s r → ParIs (.un :: s) r
  | box {b : Box} {s : Sto} {r : Option (List D)} : ParIs s r → ParIs (.box b :: s) r
theorem ParIs.eq : ∀ {s : Sto} {r : Option (List D)}, ParIs s r → parOf s = r
  | _, _, .here => rfl
  | _, _, .nil => rfl
  | _, _, .dat h => h.eq
  | _, _, .own h => h.eq
  | _, _, .un h => h.eq
  | _, _, .box h => h.eq
theorem fi_rt {Q : D → Option (List D) → Prop} {d : D} {r : Option (List D)} (h : ParIs s r) (q : Q d r) : Fin' Q (.rt d) s := by have := h.eq; subst this; exact q
/-- a def that changes no list of its caller -/
theorem fi_any {Q : D → Prop} {d : D} (q : Q d) : Fin' (fun d _ => Q d) (.rt d) s := q
theorem om_fn {N n : Nat} {mb : MS} {ps : List SV} {s0 : Sto} {Q : D → Option (List D) → Prop} (hl : ps.length = n) (hs : ps ++ List.replicate (N - n) .un = s0) (h : OS (mb s0) (Fin' Q)) : OM (fnM N n mb ps) Q := by
  refine keepG ?_ ?_
  subst hs
  obtain ⟨o, s1, e1, p⟩ := h
  unfold fnM
  rw [if_pos hl, e1]
  cases o with
  | nx => exact ⟨_, _, rfl, p⟩
  | rt d => exact ⟨_, _, rfl, p⟩
  | bk => exact p.elim
  | ct => exact p.elim
  | ex c n => exact p.elim
  walk_at "zz"
inductive Dts : List D → List SV → Prop
  | nil : Dts [] []
  | cons {d : D} {ds : List D} {ps : List SV} : Dts ds ps → Dts (d :: ds) (.dat d :: ps)
theorem Dts.eq : ∀ {ds : List D} {ps : List SV}, Dts ds ps → ds.map .dat = ps
  | _, _, .nil => rfl
  | _, _, .cons h => by rw [List.map_cons, h.eq]
def Ags (ds : List D) (A : List SV → Prop) : Prop := A (ds.map .dat)
theorem ags_i {ds : List D} {ps : List SV} {A : List SV → Prop} (h : Dts ds ps) (a : A ps) : Ags ds A := by unfold Ags; rw [h.eq]; exact a
/-- the data of arguments: made to stand still -/
theorem cargs_none : ∀ {i : Nat} {bs : List Bv} {ds : List D} {s s' : Sto}, frzs s bs = some (ds, s') → cArgs none i bs s = some (ds.map .dat, s')
  | i, [], ds, s, s', h => by cases h; rfl
  | i, b :: bs, ds, s, s', h => by
    obtain ⟨x, h1, h⟩ := bnd h
    obtain ⟨y, h2, h⟩ := bnd h
    cases h
    unfold cArgs
    rw [if_neg (by intro z; cases z), h1]
    show (cArgs none (i + 1) bs x.2).bind _ = _
    rw [cargs_none h2]
    rfl
theorem cargs_par : ∀ {k i : Nat} {bs : List Bv} {ds : List D} {s s' : Sto}, k < i → frzs s bs = some (ds, s') → cArgs (some k) i bs s = some (ds.map .dat, s')
  | k, i, [], ds, s, s', _, h => by cases h; rfl
  | k, i, b :: bs, ds, s, s', hk, h => by
    obtain ⟨x, h1, h⟩ := bnd h
    obtain ⟨y, h2, h⟩ := bnd h
    cases h
    unfold cArgs
    rw [if_neg (by intro z; cases z; omega), h1]
    show (cArgs (some k) (i + 1) bs x.2).bind _ = _
    rw [cargs_par (by omega) h2]
    rfl
/-- a call that changes no list of the caller, whose arguments are data -/
def Sc (d : D) (A B : Prop) : Prop := if d.scal = true then A else B
theorem sc_int {i : Int} {A B : Prop} (a : A) : Sc (.int i) A B := a
theorem sc_bl {i : Bool} {A B : Prop} (a : A) : Sc (.bl i) A B := a
theorem sc_tup {i : List D} {A B : Prop} (a : B) : Sc (.tup i) A B := a
theorem sc_lst {i : List D} {A B : Prop} (a : B) : Sc (.lst i) A B := a
theorem oe_call {m : Mf} (h : OA (mas s) fun bs s1 => OF (frzs s1 bs) fun ds s2 => Ags ds fun ps => OM (m ps) fun d _ => Sc d (P (.dat d) s1) (P (.dat d) s2)) : OE (mCall m none mas s) P := by
  refine keepG ?_ ?_
  obtain ⟨bs, s1, e1, ds, s2, e2, d, fin, e3, p⟩ := h
  have p : P (.dat d) (if d.scal = true then s1 else s2) := by
    unfold Sc at p
    by_cases hs : d.scal = true
    · rw [if_pos hs] at p ⊢; exact p
    · rw [if_neg hs] at p ⊢; exact p
  refine ⟨_, _, ?_, p⟩
  unfold mCall
  rw [e1]
  show (cArgs none 0 bs s1).bind _ = _
  rw [cargs_none e2]
  show (m (ds.map .dat)).bind _ = _
  rw [e3]
  rfl
  walk_at "zz"
theorem callp_i {j : Nat} {ds : List D} {A : List D → Prop} {mk : List D → SV} (h0 : s2 = s1) (h : s1[j]? = some (mk ds)) (a : A ds) : s2 = s1 ∧ ∃ ds, s1[j]? = some (mk ds) ∧ A ds := ⟨h0, ds, h, a⟩
theorem callp_o {es : List D} {mk : List D → SV} {j : Nat} {A : Sto → Prop} (k : SetTo s j (mk es) s1) (a : A s1) : ∃ es', some es = some es' ∧ ∃ s3, SetTo s j (mk es') s3 ∧ A s3 := ⟨es, rfl, s1, k, a⟩
/-- a call that changes the list at slot j, the first argument -/
theorem oe_callp {m : Mf} {j : Nat} {ds0 : List D} (hk : s[j]? = some (.own ds0)) (h : OA (mas s) fun bs s1 => OF (frzs s1 bs) fun xs s2 => s2 = s1 ∧ ∃ ds, s1[j]? = some (.own ds) ∧ Ags xs fun ps => OM (m (.par ds :: ps)) fun d fin => ∃ es, fin = some es ∧ ∃ s3, SetTo s1 j (.own es) s3 ∧ P (.dat d) s3) : OE (mCall m (some 0) (aCons (mVar j) mas) s) P := by
  refine keepG ?_ ?_
  have h0 : mVar j s = some (.slot j, s) := by unfold mVar; rw [hk]
  obtain ⟨bs, s1, e1, xs, s2, e2, rfl, ds, e3, d, fin, e4, es, rfl, s3, k, p⟩ := h
  refine ⟨_, _, ?_, p⟩
  unfold mCall aCons
  rw [h0]
  show ((mas s).bind _).bind _ = _
  rw [e1]
  show (cArgs (some 0) 0 (.slot j :: bs) s2).bind _ = _
  have ec : cArgs (some 0) 0 (.slot j :: bs) s2 = some (.par ds :: xs.map .dat, s2) := by
    unfold cArgs
    rw [if_pos rfl]
    show (lsAt s2 j).bind _ = _
    rw [lsAt_own e3]
    show (cArgs (some 0) 1 bs s2).bind _ = _
    rw [cargs_par (by decide) e2]
    rfl
  rw [ec]
  show (m (.par ds :: xs.map .dat)).bind _ = _
  rw [e4]
  show ((lsAt s2 j).bind fun _ => (putAt (if d.scal = true ∧ es.all D.scal = true then s2 else s2) j es).bind fun s' => some (Bv.dat d, s')) = _
  rw [lsAt_own e3, ite_self]
  show (putAt s2 j es).bind _ = _
  unfold putAt
  rw [e3]
  show some (Bv.dat d, s2.set j _) = _
  rw [k.eq]
  walk_at "zz"
/-- .. where the caller has it from its own caller -/
theorem oe_callq {m : Mf} {j : Nat} {ds0 : List D} (hk : s[j]? = some (.par ds0)) (h : OA (mas s) fun bs s1 => OF (frzs s1 bs) fun xs s2 => s2 = s1 ∧ ∃ ds, s1[j]? = some (.par ds) ∧ Ags xs fun ps => OM (m (.par ds :: ps)) fun d fin => ∃ es, fin = some es ∧ ∃ s3, SetTo s1 j (.par es) s3 ∧ P (.dat d) s3) : OE (mCall m (some 0) (aCons (mVar j) mas) s) P := by
  refine keepG ?_ ?_
  have h0 : mVar j s = some (.slot j, s) := by unfold mVar; rw [hk]
  obtain ⟨bs, s1, e1, xs, s2, e2, rfl, ds, e3, d, fin, e4, es, rfl, s3, k, p⟩ := h
  refine ⟨_, _, ?_, p⟩
  unfold mCall aCons
  rw [h0]
  show ((mas s).bind _).bind _ = _
  rw [e1]
  show (cArgs (some 0) 0 (.slot j :: bs) s2).bind _ = _
  have ec : cArgs (some 0) 0 (.slot j :: bs) s2 = some (.par ds :: xs.map .dat, s2) := by
    unfold cArgs
    rw [if_pos rfl]
    show (lsAt s2 j).bind _ = _
    rw [lsAt_par e3]
    show (cArgs (some 0) 1 bs s2).bind _ = _
    rw [cargs_par (by decide) e2]
    rfl
  rw [ec]
  show (m (.par ds :: xs.map .dat)).bind _ = _
  rw [e4]
  show ((lsAt s2 j).bind fun _ => (putAt (if d.scal = true ∧ es.all D.scal = true then s2 else s2) j es).bind fun s' => some (Bv.dat d, s')) = _
  rw [lsAt_par e3, ite_self]
  show (putAt s2 j es).bind _ = _
  unfold putAt
  rw [e3]
  show some (Bv.dat d, s2.set j _) = _
  rw [k.eq]
  walk_at "zz"
end
theorem od_int {i : Int} {P : D → Prop} (p : P (.int i)) : OD (intD [.int i]) P := ⟨_, rfl, p⟩
theorem od_intb {i : Bool} {P : D → Prop} (p : P (.int (if i then 1 else 0))) : OD (intD [.bl i]) P := ⟨_, rfl, p⟩
theorem od_lenL {ds : List D} {P : D → Prop} (p : P (.int (ds.length : Int))) : OD (lenD [.lst ds]) P := ⟨_, rfl, p⟩
theorem od_lenF {ds : List D} {P : D → Prop} (p : P (.int (ds.length : Int))) : OD (lenD [.fro ds]) P := ⟨_, rfl, p⟩
theorem od_lenT {ds : List D} {P : D → Prop} (p : P (.int (ds.length : Int))) : OD (lenD [.tup ds]) P := ⟨_, rfl, p⟩
theorem od_ixL {ds : List D} {i : Int} {d : D} {P : D → Prop} (h : atI ds i = some d) (p : P d) : OD (ixD (.lst ds) (.int i)) P := ⟨_, h, p⟩
theorem od_ixF {ds : List D} {i : Int} {d : D} {P : D → Prop} (h : atI ds i = some d) (p : P d) : OD (ixD (.fro ds) (.int i)) P := ⟨_, h, p⟩
theorem od_ixT {ds : List D} {i : Int} {d : D} {P : D → Prop} (h : atI ds i = some d) (p : P d) : OD (ixD (.tup ds) (.int i)) P := ⟨_, h, p⟩
theorem ix_0 {α : Type} (a : α) (l : List α) : ixN (a :: l).length 0 = some 0 := by
  refine keepG ?_ ?_
  unfold ixN
  rw [if_pos (by omega), if_pos (by simp only [List.length_cons]; omega)]
  rfl
  walk_at "zz"
theorem ix_1 {α : Type} (a b : α) (l : List α) : ixN (a :: b :: l).length 1 = some 1 := by
  refine keepG ?_ ?_
  unfold ixN
  rw [if_pos (by omega), if_pos (by simp only [List.length_cons]; omega)]
  rfl
  walk_at "zz"
/-- two ways that meet again -/
def Jn (J : Sto → Prop) : Out → Sto → Prop := fun o s => o = .nx ∧ J s
theorem jn_i {J : Sto → Prop} {s : Sto} (h : J s) : Jn J .nx s := ⟨rfl, h⟩
theorem os_nx {x : Option (Out × Sto)} {m2 : MS} {P : Out → Sto → Prop} {J : Sto → Prop} (h1 : OS x (Jn J)) (h2 : ∀ s, J s → OS (m2 s) P) : OS x (Nx m2 P) := by
  refine keepG ?_ ?_
  obtain ⟨o, s, e, rfl, j⟩ := h1
  exact ⟨_, s, e, h2 s j⟩
  walk_at "zz"
theorem br_join {p : Prop} [Decidable p] {x1 x2 : Option (Out × Sto)} {m2 : MS} {P : Out → Sto → Prop} (J : Sto → Prop) (h1 : p → OS x1 (Jn J)) (h2 : ¬ p → OS x2 (Jn J)) (h3 : ∀ s, J s → OS (m2 s) P) : Br (decide p) (OS x1 (Nx m2 P)) (OS x2 (Nx m2 P)) :=
  br_dec (fun h => os_nx (h1 h) h3) fun h => os_nx (h2 h) h3
/-- == by an own __eq__ -/
def EqA (c : Nat) (x y : D) (A : List SV → Prop) : Prop := ∃ ds, x = .ins c ds ∧ okEq c y = true ∧ A [.dat (.ins c ds), .dat y]
def IsB (d : D) (A : Bool → Prop) : Prop := ∃ r, d = .bl r ∧ A r
theorem isb_i {r : Bool} {A : Bool → Prop} (a : A r) : IsB (.bl r) A := ⟨r, rfl, a⟩
theorem od_isiB {T : String} {xs : List D} {d : D} {P : D → Prop} (h : isiD T xs = some d) (p : P d) : OD (isiD T xs) P := ⟨_, h, p⟩
theorem id_oe {x : Option (Bv × Sto)} {P : Bv → Sto → Prop} (h : OE x P) : OE x P := h
theorem id_ot {x : Option (Bool × Sto)} {P : Bool → Sto → Prop} (h : OT x P) : OT x P := h
theorem id_oa {x : Option (List Bv × Sto)} {P : List Bv → Sto → Prop} (h : OA x P) : OA x P := h
theorem id_of {x : Option (List D × Sto)} {P : List D → Sto → Prop} (h : OF x P) : OF x P := h
theorem id_oz {x : Option (D × Sto)} {P : D → Sto → Prop} (h : OZ x P) : OZ x P := h
theorem id_os {x : Option (Out × Sto)} {P : Out → Sto → Prop} (h : OS x P) : OS x P := h
theorem id_oo {x : Option (Option Int × Sto)} {P : Option Int → Sto → Prop} (h : OO x P) : OO x P := h
theorem id_od {x : Option D} {P : D → Prop} (h : OD x P) : OD x P := h
theorem id_og {x : Option Sto} {P : Sto → Prop} (h : OG x P) : OG x P := h
theorem id_ol {x : Option (List D)} {P : List D → Prop} (h : OL x P) : OL x P := h
theorem id_oi {x : Option (List D)} {P : List D → Prop} (h : OI x P) : OI x P := h
theorem id_om {x : Option (D × Option (List D))} {P : D → Option (List D) → Prop} (h : OM x P) : OM x P := h
theorem id_br {c : Bool} {A B : Prop} (h : Br c A B) : Br c A B := h
theorem id_sc {d : D} {A B : Prop} (h : Sc d A B) : Sc d A B := h
theorem id_nx {m2 : MS} {P : Out → Sto → Prop} {o : Out} {s : Sto} (h : Nx m2 P o s) : Nx m2 P o s := h
theorem id_tu {I : Sto → Prop} {P : Out → Sto → Prop} {o : Out} {s : Sto} (h : Turn I P o s) : Turn I P o s := h
theorem id_fi {Q : D → Option (List D) → Prop} {o : Out} {s : Sto} (h : Fin' Q o s) : Fin' Q o s := h
theorem law_end {x : Option (D × Option (List D))} (h : OM x fun d _ => d = .bl true) : ∃ fin, x = some (.bl true, fin) := by
  refine keepG ?_ ?_
  obtain ⟨d, fin, e, rfl⟩ := h
  exact ⟨fin, e⟩
  walk_at "zz"
end Mi

/-! zip, chained comparisons, all and any of bools, short lists turn by turn. -/
namespace Mi
open PySem PySem.Spec PyProof.Rows L2 Evl RZ
def zipD : List D → List D → List D
  | a :: as, b :: bs => .tup [a, b] :: zipD as bs
  | _, _ => []
theorem zipD_len : ∀ (as bs : List D), (zipD as bs).length = min as.length bs.length
  | [], _ => by simp [zipD]
  | _ :: _, [] => by simp [zipD]
  | a :: as, b :: bs => by simp only [zipD, List.length_cons, zipD_len as bs]; omega
theorem zipD_at : ∀ {as bs : List D} {i : Nat} {x : D}, (zipD as bs)[i]? = some x → ∃ a b, as[i]? = some a ∧ bs[i]? = some b ∧ x = .tup [a, b]
  | [], _, _, _, h => by simp [zipD] at h
  | _ :: _, [], _, _, h => by simp [zipD] at h
  | a :: as, b :: bs, 0, x, h => by
    have : D.tup [a, b] = x := by simpa [zipD] using h
    exact ⟨a, b, rfl, rfl, this.symm⟩
  | a :: as, b :: bs, i + 1, x, h => by
    obtain ⟨a', b', h1, h2, h3⟩ := zipD_at (as := as) (bs := bs) (i := i) (x := x) (by simpa [zipD] using h)
    exact ⟨a', b', by simpa using h1, by simpa using h2, h3⟩
def zD : D → D → Option (List D)
  | .tup a, .tup b => some (zipD a b)
  | x, y => x.seqL.bind fun a => y.seqL.bind fun b => some (zipD a b)
def iZ (ma : MA) : MI := fun s => (ma s).bind fun a => match a.1 with
  | [x, y] => (frz a.2 x).bind fun q => (frz q.2 y).bind fun r => (zD q.1 r.1).bind fun ds => some (ds, r.2)
  | _ => none
section
variable {K : PySem.W.Frag}
/-! ### a < b < c -/
def mChain (g g' : D → D → Option D) (ma mb mc : ME) : ME := fun s => (ma s).bind fun a => (mb a.2).bind fun b => (look b.2 a.1).bind fun x => (look b.2 b.1).bind fun y => (g x y).bind fun z => match z with
  | .bl true => (mc b.2).bind fun c => (look c.2 b.1).bind fun y' => (look c.2 c.1).bind fun w => (g' y' w).bind fun z' => some (.dat z', c.2)
  | .bl false => some (.dat (.bl false), b.2)
  | _ => none
theorem snd_chain {r r' : R2} {g g' : D → D → Option D} {ta tb tc : TE} {ma mb mc : ME} (hr : SndR K r g) (hr' : SndR K r' g') (ha : SndE K ta ma) (hb : SndE K tb mb) (hc : SndE K tc mc) : SndE K (tChain r r' ta tb tc) (mChain g g' ma mb mc) := by
  refine keepG ?_ ?_
  intro f σ H s Hb b s' R h Q q
  obtain ⟨a, h1, h⟩ := bnd h
  obtain ⟨b1, h2, h⟩ := bnd h
  obtain ⟨x, h3, h⟩ := bnd h
  obtain ⟨y, h4, h⟩ := bnd h
  obtain ⟨z, h5, h⟩ := bnd h
  refine ha f σ H s Hb _ _ R h1 _ fun v H1 Hb1 e1 R1 r1 => hb f σ H1 _ Hb1 _ _ R1 h2 _ fun w H2 Hb2 e2 R2 r2 => ?_
  refine hr H2 Hb2 v w x y z R2.hb (look_ok R2 (r1.up e2) h3) (look_ok R2 r2 h4) h5 _ (fun v' rv => ?_) (fun p o hp rp => ?_)
  · cases z with
    | bl k =>
      cases rv
      refine ⟨k, rfl, ?_⟩
      cases k with
      | true =>
        rw [if_pos rfl]
        obtain ⟨c, h6, h⟩ := bnd h
        obtain ⟨y', h7, h⟩ := bnd h
        obtain ⟨u, h8, h⟩ := bnd h
        obtain ⟨z', h9, h⟩ := bnd h
        cases h
        refine hc f σ H2 _ Hb2 _ _ R2 h6 _ fun v3 H3 Hb3 e3 R3 r3 => ?_
        exact hr' H3 Hb3 w v3 y' u _ R3.hb (look_ok R3 (r2.up e3) h7) (look_ok R3 r3 h8) h9 _ (fun v' rv => q v' H3 Hb3 ((e1.trans e2).trans e3) R3 rv)
          fun p o hp rp => q _ _ _ (((e1.trans e2).trans e3).trans (R3.new o hp).1) (R3.new o hp).2 rp
      | false =>
        rw [if_neg (by decide)]
        cases h
        exact q _ H2 Hb2 (e1.trans e2) R2 (.bl false)
    | _ => cases h
  · cases z with
    | bl k => cases rp
    | _ => cases h
  walk_at "zz"
theorem d_chain {X : Cx} {a b c : Expr} {pos : Pos} {op op' : CmpOp} {r r' : R2} {g g' : D → D → Option D} {ta tb tc : TE} {ma mb mc : ME} (ho : OpR X (compareOp op) r) (hr : SndR X.K r g) (ho' : OpR X (compareOp op') r') (hr' : SndR X.K r' g') (ha : PX X a ta ma) (hb : PX X b tb mb) (hc : PX X c tc mc)
    (hm : lastMarks [op, op'] [b, c] = false := by with_unfolding_all rfl) : PX X (.Compare a [op, op'] [b, c] pos) (tChain r r' ta tb tc) (mChain g g' ma mb mc) := ⟨pe_chain ho ho' ha.pe hb.pe hc.pe hm, snd_chain hr hr' ha.sn hb.sn hc.sn⟩
theorem d_chainT {X : Cx} {a b c : Expr} {pos : Pos} {op op' : CmpOp} {r r' : R2} {g g' : D → D → Option D} {ta tb tc : TE} {ma mb mc : ME} (ho : OpR X (compareOp op) r) (hr : SndR X.K r g) (ho' : OpR X (compareOp op') r') (hr' : SndR X.K r' g') (ha : PX X a ta ma) (hb : PX X b tb mb) (hc : PX X c tc mc)
    (hm : lastMarks [op, op'] [b, c] = false := by with_unfolding_all rfl) : PXT X (.Compare a [op, op'] [b, c] pos) (tTest (tChain r r' ta tb tc)) (mTest (mChain g g' ma mb mc)) := ⟨pt_chain ho ho' ha.pe hb.pe hc.pe hm, snd_test (snd_chain hr hr' ha.sn hb.sn hc.sn)⟩
/-! ### all, any of a list of bools -/
def asB : List D → Option (List Bool)
  | [] => some []
  | .bl b :: ds => (asB ds).bind fun bs => some (b :: bs)
  | _ => none
theorem asB_rep {H : Hp} : ∀ {vs : List V} {ds : List D} {bs : List Bool}, RepL K H vs ds → asB ds = some bs → vs = bs.map V.bl
  | _, [], _, .nil, h => by cases h; rfl
  | _, .bl b :: ds, bs, .cons r t, h => by
    obtain ⟨cs, h1, h⟩ := bnd h
    cases h
    cases r
    rw [asB_rep t h1]
    rfl
def allD : List D → Option D
  | [x] => x.seqL.bind fun ds => (asB ds).bind fun bs => some (.bl (bs.all id))
  | _ => none
def anyD : List D → Option D
  | [x] => x.seqL.bind fun ds => (asB ds).bind fun bs => some (.bl (bs.any id))
  | _ => none
theorem c_all : SndC K (rAll K) allD := by
  refine keepG ?_ ?_
  intro H Hb vs xs z e rx hz Q q1 q2
  match xs, hz with
  | [x], hz =>
    obtain ⟨ds, h1, hz⟩ := bnd hz
    obtain ⟨bs, h2, hz⟩ := bnd hz
    cases hz
    obtain ⟨v, rfl, r⟩ := reps1 rx
    obtain ⟨l, ws, rfl, g1, g2⟩ := r.seqL e h1
    rw [asB_rep g2 h2] at g1
    exact ⟨l, bs, rfl, g1, q1 _ (.bl _)⟩
  walk_at "zz"
end
/-! ### walked from behind -/
inductive ZipIs : List D → List D → List D → Prop
  | nilL {bs : List D} : ZipIs [] bs []
  | nilR {as : List D} : ZipIs as [] []
  | cons {a b : D} {as bs cs : List D} : ZipIs as bs cs → ZipIs (a :: as) (b :: bs) (.tup [a, b] :: cs)
section
variable {s s1 s2 : Sto} {mas : MA}
theorem oi_seqL {ds : List D} {P : List D → Prop} (p : P ds) : OI (D.seq (.lst ds)) P := ⟨_, rfl, p⟩
def Two (bs : List Bv) (A : Bv → Bv → Prop) : Prop := ∃ x y, bs = [x, y] ∧ A x y
theorem two_i {x y : Bv} {A : Bv → Bv → Prop} (a : A x y) : Two [x, y] A := ⟨x, y, rfl, a⟩
theorem oe_chain {g g' : D → D → Option D} {ma mb mc : ME} {P : Bv → Sto → Prop} (h : OE (ma s) fun a s1 => OE (mb s1) fun b s2 => OD (look s2 a) fun x => OD (look s2 b) fun y => OD (g x y) fun z => IsB z fun k => Br k (OE (mc s2) fun c s3 => OD (look s3 b) fun y' => OD (look s3 c) fun w => OD (g' y' w) fun z' => P (.dat z') s3) (P (.dat (.bl false)) s2)) : OE (mChain g g' ma mb mc s) P := by
  refine keepG ?_ ?_
  obtain ⟨a, s1, e1, b, s2, e2, x, e3, y, e4, z, e5, k, rfl, h1, h2⟩ := h
  have start : ∀ r, (match (D.bl k : D) with
      | .bl true => (mc s2).bind fun c => (look c.2 b).bind fun y' => (look c.2 c.1).bind fun w => (g' y' w).bind fun z' => some (Bv.dat z', c.2)
      | .bl false => some (.dat (.bl false), s2)
      | _ => none) = r → mChain g g' ma mb mc s = r := fun r hr => by
    unfold mChain
    rw [e1]
    show (mb s1).bind _ = _
    rw [e2]
    show (look s2 a).bind _ = _
    rw [e3]
    show (look s2 b).bind _ = _
    rw [e4]
    show (g x y).bind _ = _
    rw [e5]
    exact hr
  cases k with
  | true =>
    obtain ⟨c, s3, e6, y', e7, w, e8, z', e9, p⟩ := h1 rfl
    refine ⟨_, _, start _ ?_, p⟩
    show (mc s2).bind _ = _
    rw [e6]
    show (look s3 b).bind _ = _
    rw [e7]
    show (look s3 c).bind _ = _
    rw [e8]
    show (g' y' w).bind _ = _
    rw [e9]
    rfl
  | false => exact ⟨_, _, start _ rfl, h2 rfl⟩
  walk_at "zz"
/-! comprehensions, item by item -/
inductive WipeIs : Sto → List Nat → Sto → Prop
  | nil {s : Sto} : WipeIs s [] s
  | cons {s s1 s2 : Sto} {j : Nat} {js : List Nat} : WipeIs s js s1 → SetTo s1 j .un s2 → WipeIs s (j :: js) s2
theorem WipeIs.eq : ∀ {s s' : Sto} {vs : List Nat}, WipeIs s vs s' → wipeS s vs = s'
  | _, _, _, .nil => rfl
  | _, _, _, .cons h k => by show (wipeS _ _).set _ _ = _; rw [h.eq, k.eq]
inductive BackIs : Sto → Sto → List Nat → Sto → Prop
  | nil {s0 s : Sto} : BackIs s0 s [] s
  | consU {s0 s s1 s2 : Sto} {j : Nat} {js : List Nat} : BackIs s0 s js s1 → s0[j]? = some .un → SetTo s1 j .un s2 → BackIs s0 s (j :: js) s2
  | consD {s0 s s1 s2 : Sto} {j : Nat} {js : List Nat} {d : D} : BackIs s0 s js s1 → s0[j]? = some (.dat d) → SetTo s1 j (.dat d) s2 → BackIs s0 s (j :: js) s2
  | consV {s0 s s1 s2 : Sto} {j : Nat} {js : List Nat} {v : SV} : BackIs s0 s js s1 → s0[j]? = some v → SetTo s1 j v.back s2 → BackIs s0 s (j :: js) s2
theorem BackIs.eq : ∀ {s0 s s' : Sto} {vs : List Nat}, BackIs s0 s vs s' → backS s0 s vs = s'
  | _, _, _, _, .nil => rfl
  | _, _, _, _, .consU h g k => by show (backS _ _ _).set _ _ = _; rw [h.eq, g]; exact k.eq
  | _, _, _, _, .consD h g k => by show (backS _ _ _).set _ _ = _; rw [h.eq, g]; exact k.eq
  | _, _, _, _, .consV h g k => by show (backS _ _ _).set _ _ = _; rw [h.eq, g]; exact k.eq
inductive SnocIs {α : Type} : List α → α → List α → Prop
  | nil {x : α} : SnocIs [] x [x]
  | cons {a x : α} {l l' : List α} : SnocIs l x l' → SnocIs (a :: l) x (a :: l')
def Bk (s1 t : Sto) (vs : List Nat) (A : Sto → Prop) : Prop := A (backS s1 (wipeS t vs) vs)
theorem bk_i {t t1 t2 : Sto} {vs : List Nat} {A : Sto → Prop} (h1 : WipeIs t vs t1) (h2 : BackIs s1 t1 vs t2) (a : A t2) : Bk s1 t vs A := by unfold Bk; rw [h1.eq, h2.eq]; exact a
def Wp (t : Sto) (vs : List Nat) (A : Sto → Prop) : Prop := A (wipeS t vs)
theorem wp_i {t t1 : Sto} {vs : List Nat} {A : Sto → Prop} (h1 : WipeIs t vs t1) (a : A t1) : Wp t vs A := by unfold Wp; rw [h1.eq]; exact a
def Sn (acc : List D) (x : D) (A : List D → Prop) : Prop := acc.length < 16000000 ∧ A (acc ++ [x])
theorem of_lc {mi : MI} {g : MG} {mt : MT} {me : ME} {vs : List Nat} {P : List D → Sto → Prop} (h : OF (mi s) fun xs s1 => OF (compD vs g mt me xs [] s1) fun ds t => Bk s1 t vs (P ds)) : OF (mLc mi g mt me vs s) P := by
  refine keepG ?_ ?_
  obtain ⟨xs, s1, e1, ds, t, e2, p⟩ := h
  exact ⟨_, _, lc_of e1 e2, p⟩
  walk_at "zz"
theorem of_cnil {g : MG} {mt : MT} {me : ME} {vs : List Nat} {acc : List D} {P : List D → Sto → Prop} (p : P acc s) : OF (compD vs g mt me [] acc s) P := ⟨_, _, rfl, p⟩
theorem of_ccons {g : MG} {mt : MT} {me : ME} {vs : List Nat} {d : D} {ds acc : List D} {P : List D → Sto → Prop} (h : Wp s vs fun s0 => OG (g d s0) fun s1 => OT (mt s1) fun c s2 => Br c (OE (me s2) fun r s3 => OZ (frz s3 r) fun x s4 => Sn acc x fun acc' => OF (compD vs g mt me ds acc' s4) P) (OF (compD vs g mt me ds acc s2) P)) : OF (compD vs g mt me (d :: ds) acc s) P := by
  refine keepG ?_ ?_
  obtain ⟨s1, e1, c, s2, e2, h1, h2⟩ := h
  have start : ∀ r, (if c = true then (me s2).bind fun r => (frz r.2 r.1).bind fun q => if acc.length < 16000000 then compD vs g mt me ds (acc ++ [q.1]) q.2 else none else compD vs g mt me ds acc s2) = r → compD vs g mt me (d :: ds) acc s = r := fun r hr => by
    unfold compD
    rw [e1]
    show (mt s1).bind _ = _
    rw [e2]
    exact hr
  cases c with
  | true =>
    obtain ⟨r, s3, e3, x, s4, e4, hl, out, t, e5, p⟩ := h1 rfl
    refine ⟨out, t, start _ ?_, p⟩
    rw [if_pos rfl, e3]
    show (frz s3 r).bind _ = _
    rw [e4]
    show (if acc.length < 16000000 then compD vs g mt me ds (acc ++ [x]) s4 else none) = _
    rw [if_pos hl]
    exact e5
  | false =>
    obtain ⟨out, t, e5, p⟩ := h2 rfl
    exact ⟨out, t, start _ e5, p⟩
  walk_at "zz"
/-! values -/
theorem od_tupL {ds : List D} {P : D → Prop} (p : P (.tup ds)) : OD (tupleD [.lst ds]) P := ⟨_, rfl, p⟩
end
end Mi

/-! What is raised. -/
namespace Mi
open PySem PySem.Spec PyProof.Rows L2 Evl
inductive Xr (α : Type) where
  | ok (a : α) | ex (c : Nat) (n : Int)
abbrev XE := Sto → Option (Xr Bv × Sto)
abbrev XA := Sto → Option (Xr (List Bv) × Sto)
abbrev MfX := List SV → Option (Xr D)
/-- the wish of the context W -/
def wshOf (K : PySem.W.Frag) (W : WX) : Wsh where
  th f Hb s' c n := ∀ (σ' : L2.St) (H' Hb' : Hp) (C d : Addr), Ex Hb Hb' → Rw K f σ' H' s' Hb' → PySem.W.nsIn K mainGlobals (excName c) = some (some (.ref C)) → H' d = some (.xd [("place", .int n)]) → W (.ref C) (some d) σ' H'
  up h e := fun σ' H' Hb2 C d e2 => h σ' H' Hb2 C d (e.trans e2)
section
variable (K : PySem.W.Frag) (W : WX)
def AftE (f : Fr) (σ : L2.St) (Hb : Hp) (s' : Sto) (Q : VK) : Xr Bv → Prop
  | .ok b => ∀ v H' Hb', Ex Hb Hb' → Rw K f σ H' s' Hb' → RepB K σ Hb' v b → Q v H'
  | .ex c n => (wshOf K W).th f Hb s' c n
def AftA (f : Fr) (σ : L2.St) (Hb : Hp) (s' : Sto) (Q : List V → Hp → Prop) : Xr (List Bv) → Prop
  | .ok b => ∀ v H' Hb', Ex Hb Hb' → Rw K f σ H' s' Hb' → RepBs K σ Hb' v b → Q v H'
  | .ex c n => (wshOf K W).th f Hb s' c n
def SndEW (te : TE) (m : XE) : Prop := ∀ f σ H s Hb r s', Rw K f σ H s Hb → m s = some (r, s') → ∀ Q : VK, AftE K W f σ Hb s' Q r → te σ H Q
def SndAW (ta : TA) (m : XA) : Prop := ∀ f σ H s Hb r s', Rw K f σ H s Hb → m s = some (r, s') → ∀ Q : List V → Hp → Prop, AftA K W f σ Hb s' Q r → ta σ H Q
end
def xE (m : ME) : XE := fun s => (m s).bind fun a => some (.ok a.1, a.2)
def xBin (g : D → D → Option D) (xa xb : XE) : XE := fun s => (xa s).bind fun a => match a.1 with
  | .ex c n => some (.ex c n, a.2)
  | .ok x => (xb a.2).bind fun b => match b.1 with
    | .ex c n => some (.ex c n, b.2)
    | .ok y => (look b.2 x).bind fun u => (look b.2 y).bind fun v => (g u v).bind fun z => some (.ok (.dat z), b.2)
def xNil : XA := fun s => some (.ok [], s)
def xCons (xa : XE) (xr : XA) : XA := fun s => (xa s).bind fun a => match a.1 with
  | .ex c n => some (.ex c n, a.2)
  | .ok x => (xr a.2).bind fun b => match b.1 with
    | .ex c n => some (.ex c n, b.2)
    | .ok ys => some (.ok (x :: ys), b.2)
def xCall (m : MfX) (xa : XA) : XE := fun s => (xa s).bind fun a => match a.1 with
  | .ex c n => some (.ex c n, a.2)
  | .ok bs => (cArgs none 0 bs a.2).bind fun q => (m q.1).bind fun r => match r with
    | .ex c n => some (.ex c n, q.2)
    | .ok d => some (.ok (.dat d), if d.scal = true then a.2 else q.2)
def xCallN (m : Mf) (xa : XA) : XE := fun s => (xa s).bind fun a => match a.1 with
  | .ex c n => some (.ex c n, a.2)
  | .ok bs => (cArgs none 0 bs a.2).bind fun q => (m q.1).bind fun r => some (.ok (.dat r.1), if r.1.scal = true then a.2 else q.2)
def xNew (c : Nat) (m : MfI) (xa : XA) : XE := fun s => (xa s).bind fun a => match a.1 with
  | .ex c n => some (.ex c n, a.2)
  | .ok bs => (cArgs none 0 bs a.2).bind fun q => (m q.1).bind fun ds => some (.ok (.dat (.ins c ds)), q.2)
def xTup (xa : XA) : XE := fun s => (xa s).bind fun a => match a.1 with
  | .ex c n => some (.ex c n, a.2)
  | .ok bs => (frzs a.2 bs).bind fun q => if q.1.length ≤ 16000000 then some (.ok (.dat (.tup q.1)), q.2) else none
def spX (K : PySem.W.Frag) (m : MfX) : Sp := fun vs H Q E => ∃ (Hb : Hp) (ps : List SV) (r : Xr D), Ex Hb H ∧ ArgsOk K H Hb none vs ps ∧ m ps = some r ∧ match r with
  | .ok d => ∀ v H' Hb', PostM K H Hb none none H' Hb' → Rep K Hb' v d → Q v H'
  | .ex c n => ∀ (C d : Addr) H' Hb', PostM K H Hb none none H' Hb' → PySem.W.nsIn K mainGlobals (excName c) = some (some (.ref C)) → H' d = some (.xd [("place", .int n)]) → E (.ref C) (some d) H'
section
variable {K : PySem.W.Frag} {W : WX} {ta tb te : TE} {ma mb me : ME} {xa xb xe : XE} {tas : TA} {mas : MA} {xas : XA}
theorem snd_xE (h : SndE K te me) : SndEW K W te (xE me) := by
  refine keepG ?_ ?_
  intro f σ H s Hb r s' R hm Q q
  obtain ⟨a, h1, hm⟩ := bnd hm
  cases hm
  exact h f σ H s Hb _ _ R h1 Q q
  walk_at "zz"
theorem snd_xNil : SndAW K W tNil xNil := by
  refine keepG ?_ ?_
  intro f σ H s Hb o s' R h Q q
  cases h
  exact q [] H Hb (Ex.refl _) R trivial
  walk_at "zz"
theorem snd_xCons (ha : SndEW K W ta xa) (hr : SndAW K W tas xas) : SndAW K W (tCons ta tas) (xCons xa xas) := by
  refine keepG ?_ ?_
  intro f σ H s Hb o s' R h Q q
  obtain ⟨a, h1, h⟩ := bnd h
  obtain ⟨a1, a2⟩ := a
  cases a1 with
  | ex c n =>
    cases h
    exact ha f σ H s Hb _ _ R h1 _ q
  | ok x =>
    obtain ⟨b, h2, h⟩ := bnd h
    obtain ⟨b1, b2⟩ := b
    refine ha f σ H s Hb _ _ R h1 _ fun v H1 Hb1 e1 R1 r1 => ?_
    cases b1 with
    | ex c n =>
      cases h
      exact hr f σ H1 _ Hb1 _ _ R1 h2 _ ((wshOf K W).up q e1)
    | ok y =>
      cases h
      exact hr f σ H1 _ Hb1 _ _ R1 h2 _ fun vs H2 Hb2 e2 R2 r2 => q _ H2 Hb2 (e1.trans e2) R2 ⟨r1.up e2, r2⟩
  walk_at "zz"
theorem args_ok {par : List SV} {H Hb2 : Hp} {vs : List V} (hl : vs.length = par.length) (ok : ∀ (x : Nat) (sv : SV), par[x]? = some sv → ∃ v, vs[x]? = some v ∧ ((∃ d, sv = .dat d ∧ Rep K Hb2 v d ∧ (none : Option Nat) ≠ some (0 + x)) ∨
      ∃ ds l ws j, sv = .par ds ∧ v = .ref l ∧ (none : Option Nat) = some (0 + x) ∧ (bs : List Bv)[x]? = some (.slot j) ∧ (σ : L2.St)[j]? = some (some (.ref l)) ∧ H l = some (.lst ws) ∧ RepL K Hb2 ws ds)) : ArgsOk K H Hb2 none vs par := by
  refine keepG ?_ ?_
  refine ⟨hl, fun i sv g => ?_, fun i j si sj hij h1 h2 o1 o2 => ?_⟩
  · obtain ⟨v, h1, k⟩ := ok i sv g
    refine ⟨v, h1, ?_⟩
    rcases k with ⟨d, rfl, k, _⟩ | ⟨_, _, _, _, _, _, p, _⟩
    · exact .inl ⟨d, rfl, k⟩
    · cases p
  · obtain ⟨_, _, k1⟩ := ok i si h1
    rcases k1 with ⟨_, rfl, _⟩ | ⟨_, _, _, _, _, _, p1, _⟩
    · cases o1
    · cases p1
  walk_at "zz"
theorem snd_xCall {m : MfX} (ha : SndAW K W tas xas) : SndEW K W (tCallS (spX K m) (WE W) tas) (xCall m xas) := by
  refine keepG ?_ ?_
  intro f σ H s Hb o s' R h Q q
  obtain ⟨a, h1, h⟩ := bnd h
  obtain ⟨a1, a2⟩ := a
  cases a1 with
  | ex c n =>
    cases h
    exact ha f σ H s Hb _ _ R h1 _ q
  | ok bs =>
    obtain ⟨c', h2, h⟩ := bnd h
    obtain ⟨r, h3, h⟩ := bnd h
    refine ha f σ H s Hb _ _ R h1 _ fun vs H1 Hb1 e1 R1 r1 => ?_
    obtain ⟨Hb2, e2, R2, hl, ok⟩ := cArgs_ok R1 r1 h2
    refine ⟨Hb2, c'.1, r, R2.hb, args_ok hl ok, h3, ?_⟩
    cases r with
    | ok d =>
      cases h
      intro v H' Hb' P rv
      have kp : Ex H1 H' := fun a o h => P.kp a o (by intro z; cases z) h
      by_cases hs : d.scal = true
      · have q : AftE K W f σ Hb (if d.scal = true then a2 else c'.2) Q (.ok (.dat d)) := q
        rw [if_pos hs] at q
        exact q v H' Hb1 e1 (R1.step (Ex.refl _) ((e2.trans P.e1).trans P.e2) (fun _ _ _ => rfl) kp) (rv.sc hs Hb1)
      · have q : AftE K W f σ Hb (if d.scal = true then a2 else c'.2) Q (.ok (.dat d)) := q
        rw [if_neg hs] at q
        exact q v H' Hb' ((e1.trans e2).trans P.e1) (R2.step P.e1 P.e2 P.ag kp) rv
    | ex c n =>
      cases h
      intro C d H' Hb' P hC hd
      have kp : Ex H1 H' := fun a o h => P.kp a o (by intro z; cases z) h
      exact q σ H' Hb' C d ((e1.trans e2).trans P.e1) (R2.step P.e1 P.e2 P.ag kp) hC hd
  walk_at "zz"
/-! statements -/
def mAsgX (xe : XE) (g : MG) : MS := fun s => (xe s).bind fun a => match a.1 with
  | .ex c n => some (.ex c n, a.2)
  | .ok b => (frz a.2 b).bind fun q => (g q.1 q.2).bind fun s' => some (.nx, s')
def mRetX (xe : XE) : MS := fun s => (xe s).bind fun a => match a.1 with
  | .ex c n => some (.ex c n, a.2)
  | .ok b => (frz a.2 b).bind fun q => some (.rt q.1, q.2)
def mExprX (xe : XE) : MS := fun s => (xe s).bind fun a => match a.1 with
  | .ex c n => some (.ex c n, a.2)
  | .ok _ => some (.nx, a.2)
theorem snd_asgX {g : TG} {mg : MG} {ws : List Nat} (he : SndEW K W te xe) (hg : SndG K g mg ws) : SndS K (wshOf K W) (tAsg te g) (mAsgX xe mg) := by
  refine keepG ?_ ?_
  intro f σ H s Hb o s' R h E q
  obtain ⟨a, g1, h⟩ := bnd h
  obtain ⟨a1, a2⟩ := a
  cases a1 with
  | ex c n =>
    cases h
    exact he f σ H s Hb _ _ R g1 _ q
  | ok b =>
    obtain ⟨b, g2, h⟩ := bnd h
    obtain ⟨c, g3, h⟩ := bnd h
    cases h
    refine he f σ H s Hb _ _ R g1 _ fun v H1 Hb1 e1 R1 r1 => ?_
    obtain ⟨Hb2, e2, R2, r2⟩ := frz_ok R1 r1 g2
    exact hg f σ H1 _ Hb2 _ _ _ R2 r2 g3 _ fun σ' H' Hb' e' R' _ => q _ _ _ ((e1.trans e2).trans e') R'
  walk_at "zz"
/-- what __init__ promises that sets place alone -/
def spI (K : PySem.W.Frag) : Sp := fun vs H Q _ => ∃ (a C : Addr) (y : V), vs = [.ref a, y] ∧ OexC K C ∧ PySem.W.findIn K (.ref C) "place" = some none ∧ H a = some (exo a C none) ∧ ∀ dx, H dx = none → dx ≠ a → Q .non (upd (upd H dx (exd dx [("place", y)])) a (exo a C (some dx)))
def mRaise (c : Nat) (me : ME) : MS := fun s => (me s).bind fun a => (look a.2 a.1).bind fun d => match d with
  | .int n => some (.ex c n, a.2)
  | _ => none
theorem snd_raise {C : Addr} {c : Nat} (hC : PySem.W.nsIn K mainGlobals (excName c) = some (some (.ref C))) (T : OexC K C) (nF : PySem.W.findIn K (.ref C) "place" = some none) (he : SndE K te me) : SndS K (wshOf K W) (fun _ σ H => tMkO C (spI K) [] (tCons te tNil) σ H fun cls d H' => W cls d σ H') (mRaise c me) := by
  refine keepG ?_ ?_
  intro f σ H s Hb o s' R h E q
  obtain ⟨a, g1, h⟩ := bnd h
  obtain ⟨d, g2, h⟩ := bnd h
  cases d with
  | int n =>
    cases h
    refine he f σ H s Hb _ _ R g1 _ fun v H1 Hb1 e1 R1 r1 => ?_
    have hv : v = .int n := (look_ok R1 r1 g2).int
    subst hv
    refine ⟨by show 1 ≤ 1000; decide, fun p hp => ⟨p, C, .int n, rfl, T, nF, upd_same, fun dx hdx hne => ⟨rfl, dx, [("place", .int n)], upd_same, ?_, ?_, ?_⟩⟩⟩
    · rw [upd_ne hne, upd_same]
    · rw [upd_ne hne] at hdx
      exact hdx
    · have h1 : H1 dx = none := by
        rw [upd_ne hne] at hdx
        exact hdx
      have eq : upd (del (upd (upd (upd H1 p (exo p C none)) dx (exd dx [("place", .int n)])) p (exo p C (some dx))) p) dx (.xd [("place", .int n)]) = upd H1 dx (.xd [("place", .int n)]) := by
        funext b
        by_cases hb : b = dx
        · rw [hb, upd_same, upd_same]
        · rw [upd_ne hb, upd_ne hb]
          by_cases hp2 : b = p
          · rw [hp2, del_same, hp]
          · rw [del_ne hp2, upd_ne hp2, upd_ne hb, upd_ne hp2]
      show W _ _ σ (upd (del _ p) dx _)
      rw [eq]
      have kp : Ex H1 (upd H1 dx (.xd [("place", .int n)])) := fun b o hb => by
        rw [upd_ne (fun z => by rw [z, h1] at hb; cases hb)]
        exact hb
      exact q σ _ Hb1 C dx e1 (R1.step (Ex.refl _) (R1.hb.trans kp) (fun _ _ _ => rfl) kp) hC upd_same
  | _ => cases h
  walk_at "zz"
/-! try -/
/-- try: BODY except C as e: return g(e.place) -/
def mTryR (i : Nat) (mb : MS) (cs : List Nat) (g : Int → D) : MS := fun s => (mb s).bind fun r => match r.1 with
  | .ex c n => if cs.contains c = true ∧ i < r.2.length then some (.rt (g n), r.2) else none
  | o => some (o, r.2)
/-- try: BODY except C: SUITE -/
def mTryO (mb : MS) (cs : List Nat) (ms : MS) : MS := fun s => (mb s).bind fun r => match r.1 with
  | .ex c _ => if cs.contains c = true then ms r.2 else none
  | o => some (o, r.2)
end
/-! a def that may raise -/
def fnX (N n : Nat) (mb : MS) : MfX := fun ps => if ps.length = n then (mb (ps ++ List.replicate (N - n) .un)).bind fun r => match r.1 with
  | .rt d => some (.ok d)
  | .nx => some (.ok .non)
  | .ex c n => some (.ex c n)
  | _ => none
  else none
section
variable {P : Program} {w : World} {K : PySem.W.Frag} {mg : Str → Option Value} {base : Heap}
theorem ok_init {x qual : Str} {st : Stmt} {f : Addr} {fd : FuncData} (F : Fun K x qual st f fd) (S : FnScope ["self", "place"] ["self", "place"] (defScope st))
    (hbody : ∀ (cdv : Value) (A : Around) (outer : List Env) (s : Shared) (H : Hp) (E : XK), PSs (cxOf CX0 P w K mg base ["self", "place"] qual (defScope st) f cdv A outer s H E).nox (defBody st) (tOst K "place" (tVar 0) (tVar 1))) : FnOk P w K mg base CX0 (0 + 1) f fd ["self", "place"] (spI K) := by
  refine keepG ?_ ?_
  refine F.ok S (fun vs H Q E h => ?_) (fun cdv A outer s H vs Q E hr hs => ?_)
  · obtain ⟨a, C, y, rfl, _⟩ := h
    rfl
  · refine ⟨_, hbody cdv A outer s H E, ?_⟩
    obtain ⟨a, C, y, rfl, T, nF, ha, q⟩ := hs
    exact ⟨y, rfl, .ref a, rfl, a, C, rfl, T, nF, .inl ⟨ha, fun dx h1 h2 => q dx h1 h2⟩⟩
  walk_at "zz"
theorem fn_bodyX {N : List Str} {n : Nat} {ts : TS} {mb : MS} (hn : n ≤ N.length) {E : XK} (h : SndS K (wshOf K fun cls d _ H => E cls d H) ts mb) {vs : List V} {H : Hp} {Q : VK} (sp : spX K (fnX N.length n mb) vs H Q E) :
    vs.length = n ∧ ts { nx := fun _ H' => Q .non H', rt := Q } (L2.start N vs) H := by
  refine keepG ?_ ?_
  obtain ⟨Hb, ps, r, e, A, hm, q⟩ := sp
  unfold fnX at hm
  by_cases hl : ps.length = n
  · rw [if_pos hl] at hm
    have hv : vs.length = n := by rw [A.len]; exact hl
    refine ⟨hv, ?_⟩
    obtain ⟨o, h1, hm⟩ := bnd hm
    obtain ⟨ro, rs⟩ := o
    have R : Rw K ⟨H, Hb, none⟩ (L2.start N vs) H (ps ++ List.replicate (N.length - n) .un) Hb := by
      refine ⟨e, Ex.refl _, fun _ _ _ => rfl, fun a o h => h, (fun l hl => nomatch hl), ?_, fun i sv o g1 g2 => ?_, fun i j si sj hij g1 g2 o1 o2 => ?_⟩
      · rw [start_len (by omega), List.length_append, List.length_replicate, hl]
        omega
      · by_cases hi : i < ps.length
        · rw [List.getElem?_append_left hi] at g1
          obtain ⟨v, hv1, k⟩ := A.ok i sv g1
          rw [start_at hv1] at g2
          cases g2
          rcases k with ⟨d, rfl, r⟩ | ⟨ds, l, ws, rfl, rfl, h2, h3, h4⟩
          · exact ⟨v, rfl, r⟩
          · cases h2
        · rw [List.getElem?_append_right (by omega)] at g1
          have : sv = .un := by
            have := List.mem_of_getElem? g1
            exact (List.mem_replicate.mp this).2
          subst this
          trivial
      · have lt : ∀ (i : Nat) (si : SV), (ps ++ List.replicate (N.length - n) SV.un)[i]? = some si → si.owns = true → ps[i]? = some si := fun i si g o => by
          by_cases hi : i < ps.length
          · rw [List.getElem?_append_left hi] at g
            exact g
          · rw [List.getElem?_append_right (by omega)] at g
            have := (List.mem_replicate.mp (List.mem_of_getElem? g)).2
            subst this
            cases o
        exact absurd (A.one i j si sj hij (lt i si g1 o1) (lt j sj g2 o2) o1 o2) (fun z => z)
    have post : ∀ σ' H' Hb', Rw K ⟨H, Hb, none⟩ σ' H' rs Hb' → PostM K H Hb none none H' Hb' := fun σ' H' Hb' R' => ⟨R'.up, R'.hb, R'.ag, fun a o _ h2 => R'.kp a o h2, fun l z => nomatch z⟩
    refine h _ _ _ _ _ _ _ R h1 _ ?_
    cases ro with
    | nx =>
      cases hm
      exact fun σ' H' Hb' _ R' => q _ H' Hb' (post σ' H' Hb' R') .non
    | rt d' =>
      cases hm
      exact fun v σ' H' Hb' _ R' r' => q v H' Hb' (post σ' H' Hb' R') r'
    | ex c n =>
      cases hm
      exact fun σ' H' Hb' C d e' R' hC hd => q C d H' Hb' (post σ' H' Hb' R') hC hd
    | bk => cases hm
    | ct => cases hm
  · rw [if_neg hl] at hm
    cases hm
  walk_at "zz"
theorem fn_okX {x qual : Str} {st : Stmt} {f : Addr} {fd : FuncData} {N ps : List Str} {k : Nat} {m : MfX} {mb : MS} (F : Fun K x qual st f fd) (S : FnScope N ps (defScope st)) (hn : ps.length ≤ N.length) (hm : m = fnX N.length ps.length mb)
    (h : ∀ (cdv : Value) (A : Around) (outer : List Env) (s : Shared) (H : Hp) (E : XK), Room k (A.deeper (envOfC qual (defScope st) s.heap.objs.size f cdv)) → Takes (cxOf (L2.CX P w) P w K mg base N qual (defScope st) f cdv A outer s H E) (fun cls d _ H => E cls d H) →
      ∃ ts, PXB (cxOf (L2.CX P w) P w K mg base N qual (defScope st) f cdv A outer s H E) (wshOf K fun cls d _ H => E cls d H) (defBody st) ts mb) : FnOk P w K mg base (L2.CX P w) (k + 1) f fd ps (spX K m) := by
  refine keepG ?_ ?_
  subst hm
  refine F.okX S (fun vs H Q E h => ?_) (fun cdv A outer s H vs Q E hr hs => ?_)
  · obtain ⟨Hb, ps', r, e, A, hm, q⟩ := h
    unfold fnX at hm
    by_cases hl : ps'.length = ps.length
    · rw [A.len]; exact hl
    · rw [if_neg hl] at hm; cases hm
  · obtain ⟨ts, hb⟩ := h cdv A outer s H E hr (takes_of rfl rfl rfl rfl)
    exact ⟨ts, hb.pe, (fn_bodyX hn hb.sn hs).2⟩
  walk_at "zz"
end
end Mi

/-! One row a construct, for what may raise. -/
namespace Mi
open PySem PySem.Spec PyProof.Rows L2 Evl
structure PXE (X : Cx) (W : WX) (e : Expr) (te : TE) (m : XE) : Prop where
  pe : PE X e te
  sn : SndEW X.K W te m
structure PXAW (X : Cx) (W : WX) (es : List Expr) (ta : TA) (m : XA) : Prop where
  pe : PA X es ta
  sn : SndAW X.K W ta m
section
variable {X : Cx} {W : WX} {a b c e : Expr} {es : List Expr} {pos p : Pos} {ta tb te : TE} {xa xb xe : XE} {me : ME} {tas : TA} {xas : XA} {mas : MA} {r : R2}
theorem dx_E (h : PX X e te me) : PXE X W e te (xE me) := ⟨h.pe, snd_xE h.sn⟩
theorem dx_nil : PXAW X W [] tNil xNil := ⟨pa_nil, snd_xNil⟩
theorem dx_cons (ha : PXE X W e te xe) (hr : PXAW X W es tas xas) (hs : starEach (e :: es) X.env = (false, eval e X.env) :: starEach es X.env := by rfl) : PXAW X W (e :: es) (tCons te tas) (xCons xe xas) := ⟨pa_cons ha.pe hr.pe hs, snd_xCons ha.sn hr.sn⟩
end
section
variable {P : Program} {w : World} {K : PySem.W.Frag} {mg : Str → Option Value} {base : Heap}
theorem dx_call {X : Cx} {W : WX} {k : Nat} {f : Addr} {fd : FuncData} {ps : List Str} {m : MfX} {e : Expr} {es : List Expr} {tas : TA} {xas : XA} {x : Str} {p pos : Pos} (F : FnOk P w K mg base (L2.CX P w) k f fd ps (spX K m)) (hr : Room k X.A) (hm : mg x = some (.ref f)) (hk : PySem.W.keepIn K (.ref f) = true) (hb : Binds K fd ps []) (tk : Takes X W) (ha : PXAW X W (e :: es) tas xas)
    (e1 : X.prog = P := by rfl) (e2 : X.w = w := by rfl) (e3 : X.K = K := by rfl) (e4 : X.mg = mg := by rfl) (e5 : X.base = base := by rfl)
    (hg : Gl X x := by rfl) (hdb : (x == ("__debug__" : Str)) = false := by decide) (he : starEach (e :: es) X.env = (false, eval e X.env) :: starEach es X.env := by rfl) (hpl : (backTo pos (starEach es X.env)).any (·.1) = false := by rfl) :
    PXE X W (.Call (.Name x p) (e :: es) [] pos) (tCallS (spX K m) (WE W) tas) (xCall m xas) := by
  refine keepG ?_ ?_
  subst e1 e2 e3 e4 e5
  exact ⟨pe_callS F hr hg hm hk hb (fun σ => passAt tk σ) ha.pe hdb he hpl, snd_xCall ha.sn⟩
  walk_at "zz"
/-- a call of a def that may raise, where it does not -/
def mCallQ (m : MfX) (ma : MA) : ME := fun s => (xCall m (fun s => (ma s).bind fun a => some (.ok a.1, a.2)) s).bind fun r => match r.1 with
  | .ok b => some (b, r.2)
  | _ => none
theorem snd_xA {ta : TA} {ma : MA} {W : WX} (h : SndA K ta ma) : SndAW K W ta (fun s => (ma s).bind fun a => some (.ok a.1, a.2)) := by
  refine keepG ?_ ?_
  intro f σ H s Hb r s' R hm Q q
  obtain ⟨a, h1, hm⟩ := bnd hm
  cases hm
  exact h f σ H s Hb _ _ R h1 Q q
  walk_at "zz"
theorem snd_callQ {ta : TA} {ma : MA} {m : MfX} {W : WX} (h : SndA K ta ma) : SndE K (tCallS (spX K m) (WE W) ta) (mCallQ m ma) := by
  refine keepG ?_ ?_
  intro f σ H s Hb b s' R hm Q q
  obtain ⟨r, h1, hm⟩ := bnd hm
  obtain ⟨r1, r2⟩ := r
  cases r1 with
  | ok b' =>
    cases hm
    exact snd_xCall (snd_xA h) f σ H s Hb _ _ R h1 Q q
  | ex c n => cases hm
  walk_at "zz"
theorem d_callQ {X : Cx} {k : Nat} {f : Addr} {fd : FuncData} {ps : List Str} {m : MfX} {e : Expr} {es : List Expr} {tas : TA} {mas : MA} {x : Str} {p pos : Pos} (F : FnOk P w K mg base (L2.CX P w) k f fd ps (spX K m)) (hr : Room k X.A) (hm : mg x = some (.ref f)) (hk : PySem.W.keepIn K (.ref f) = true) (hb : Binds K fd ps []) (ha : PXA X (e :: es) tas mas)
    (e1 : X.prog = P := by rfl) (e2 : X.w = w := by rfl) (e3 : X.K = K := by rfl) (e4 : X.mg = mg := by rfl) (e5 : X.base = base := by rfl)
    (hg : Gl X x := by rfl) (hdb : (x == ("__debug__" : Str)) = false := by decide) (he : starEach (e :: es) X.env = (false, eval e X.env) :: starEach es X.env := by rfl) (hpl : (backTo pos (starEach es X.env)).any (·.1) = false := by rfl) :
    PX X (.Call (.Name x p) (e :: es) [] pos) (tCallS (spX K m) (WE fun _ _ _ _ => False) tas) (mCallQ m mas) := by
  refine keepG ?_ ?_
  subst e1 e2 e3 e4 e5
  exact ⟨pe_callS F hr hg hm hk hb (fun σ => passAt takes0 σ) ha.pe hdb he hpl, snd_callQ ha.sn⟩
  walk_at "zz"
end
section
variable {X : Cx} {W : WX} {T : Wsh} {e : Expr} {te : TE} {xe : XE} {me : ME} {pos : Pos}
/-- what of the text a class of errors must have -/
structure ExcOk (K : PySem.W.Frag) (mg : Str → Option Value) (c : Nat) (C fI : Addr) : Prop where
  at_ : PySem.W.nsIn K mainGlobals (excName c) = some (some (.ref C))
  mgC : mg (excName c) = some (.ref C)
  ox : OexC K C
  nF : PySem.W.findIn K (.ref C) "place" = some none
  iC : PySem.W.findIn K (.ref C) "__init__" = some (some (.ref fI))
  tI : PySem.W.typeIn K (.ref fI) = some (.type "function")
  xf : XfC K C
  em : PySem.W.exmOne K (.ref C) (.ref C) = some true
theorem d_raise {P : Program} {w : World} {K : PySem.W.Frag} {mg : Str → Option Value} {base : Heap} {k c : Nat} {C fI : Addr} {fd : FuncData} {x : Str} {p pos' : Pos} (E : ExcOk K mg c C fI) (F : FnOk P w K mg base CX0 k fI fd ["self", "place"] (spI K)) (hr : Room (k + 1) X.A) (hb : Binds K fd ["self", "place"] []) (hc : X.calm = true) (tk : Takes X W) (h : PX X e te me)
    (hx : excName c = x := by rfl) (e1 : X.prog = P := by rfl) (e2 : X.w = w := by rfl) (e3 : X.K = K := by rfl) (e4 : X.mg = mg := by rfl) (e5 : X.base = base := by rfl) (hg : Gl X x := by rfl) (hdb : (x == ("__debug__" : Str)) = false := by decide)
    (he : starEach (e :: []) X.env = (false, eval e X.env) :: starEach [] X.env := by rfl) (hpl : (backTo pos' (starEach [] X.env)).any (·.1) = false := by rfl) :
    PXS X (wshOf X.K W) (.Raise (some (.Call (.Name x p) [e] [] pos')) none pos) (fun _ σ H => tMkO C (spI K) [] (tCons te tNil) σ H fun cls d H' => W cls d σ H') (mRaise c me) := by
  refine keepG ?_ ?_
  subst hx e1 e2 e3 e4 e5
  exact ⟨ps_raise hc tk (pmk_oex E.ox E.iC E.tI F hr hb .nil pass0 hg E.mgC (pa_cons h.pe pa_nil he) hdb he hpl), snd_raise E.at_ E.ox E.nF h.sn⟩
  walk_at "zz"
end
end Mi

/-! zip of three tuples; max and min of a list of ints. -/
namespace Mi
open PySem PySem.Spec PyProof.Rows L2 Evl RZ
def ItzT3 (K : PySem.W.Frag) (a b c : Addr) (n1 n2 n3 : Nat) : It :=
  ⟨fun i H => ∃ (xs ys zs : List V) (x y z : V), SqT K H a xs ∧ SqT K H b ys ∧ SqT K H c zs ∧ xs.length = n1 ∧ ys.length = n2 ∧ zs.length = n3 ∧ xs[i]? = some x ∧ ys[i]? = some y ∧ zs[i]? = some z,
    fun i H v H' => ∃ T x y z, v = .ref T ∧ H T = none ∧ H' = upd H T (.tup [x, y, z]) ∧ (∀ xs, SqT K H a xs → xs[i]? = some x) ∧ (∀ ys, SqT K H b ys → ys[i]? = some y) ∧ ∀ zs, SqT K H c zs → zs[i]? = some z,
    fun i H => ∃ xs ys zs : List V, SqT K H a xs ∧ SqT K H b ys ∧ SqT K H c zs ∧ xs.length = n1 ∧ ys.length = n2 ∧ zs.length = n3 ∧ (n1 ≤ i ∨ n2 ≤ i ∨ n3 ≤ i)⟩
def iZip3 (K : PySem.W.Frag) (ta : TA) : TI := fun σ H R => ta σ H fun vs H1 => ∃ a b c xs ys zs, vs = [.ref a, .ref b, .ref c] ∧ SqT K H1 a xs ∧ SqT K H1 b ys ∧ SqT K H1 c zs ∧ R (ItzT3 K a b c xs.length ys.length zs.length) H1
end Mi
namespace Mi
open PySem PySem.Spec PyProof.Rows L2 Evl RZ
def zipD3 : List D → List D → List D → List D
  | a :: as, b :: bs, c :: cs => .tup [a, b, c] :: zipD3 as bs cs
  | _, _, _ => []
def zD3 : D → D → D → Option (List D)
  | .tup a, .tup b, .tup c => some (zipD3 a b c)
  | _, _, _ => none
def iZ3 (ma : MA) : MI := fun s => (ma s).bind fun a => match a.1 with
  | [x, y, z] => (frz a.2 x).bind fun q => (frz q.2 y).bind fun r => (frz r.2 z).bind fun t => (zD3 q.1 r.1 t.1).bind fun ds => some (ds, t.2)
  | _ => none
section
variable {K : PySem.W.Frag}
/-! max, min of a list of ints -/
def mxI : List Int → Int
  | [] => 0
  | [a] => a
  | a :: l => if mxI l < a then a else mxI l
def mnI : List Int → Int
  | [] => 0
  | [a] => a
  | a :: l => if a < mnI l then a else mnI l
def maxL : List D → Option D
  | [x] => x.seqL.bind fun ds => (asI ds).bind fun ns => if 0 < ns.length then some (.int (mxI ns)) else none
  | _ => none
def minL : List D → Option D
  | [x] => x.seqL.bind fun ds => (asI ds).bind fun ns => if 0 < ns.length then some (.int (mnI ns)) else none
  | _ => none
end
/-! walked from behind -/
inductive ZipIs3 : List D → List D → List D → List D → Prop
  | nil : ZipIs3 [] [] [] []
  | cons {a b c : D} {as bs cs ds : List D} : ZipIs3 as bs cs ds → ZipIs3 (a :: as) (b :: bs) (c :: cs) (.tup [a, b, c] :: ds)
def Thr (bs : List Bv) (A : Bv → Bv → Bv → Prop) : Prop := ∃ x y z, bs = [x, y, z] ∧ A x y z
/-! what may be raised -/
def OX {α : Type} (x : Option (Xr α × Sto)) (P : Xr α → Sto → Prop) : Prop := ∃ r s, x = some (r, s) ∧ P r s
def OMX (x : Option (Xr D)) (P : Xr D → Prop) : Prop := ∃ r, x = some r ∧ P r
/-- either way -/
def Xk {α : Type} (A : α → Sto → Prop) (B : Nat → Int → Sto → Prop) : Xr α → Sto → Prop := fun r s => match r with
  | .ok a => A a s
  | .ex c n => B c n s
section
variable {s : Sto} {xa xb : XE} {xas : XA} {mas : MA} {me : ME}
theorem ox_E {A : Bv → Sto → Prop} {B : Nat → Int → Sto → Prop} (h : OE (me s) A) : OX (xE me s) (Xk A B) := by
  refine keepG ?_ ?_
  obtain ⟨b, s1, e, a⟩ := h
  exact ⟨.ok b, s1, by unfold xE; rw [e]; rfl, a⟩
  walk_at "zz"
theorem ox_nil {A : List Bv → Sto → Prop} {B : Nat → Int → Sto → Prop} (a : A [] s) : OX (xNil s) (Xk A B) := ⟨.ok [], s, rfl, a⟩
theorem ox_cons {A : List Bv → Sto → Prop} {B : Nat → Int → Sto → Prop} (h : OX (xa s) (Xk (fun a s1 => OX (xas s1) (Xk (fun r s2 => A (a :: r) s2) B)) B)) : OX (xCons xa xas s) (Xk A B) := by
  refine keepG ?_ ?_
  obtain ⟨r, s1, e1, h⟩ := h
  cases r with
  | ex c n => exact ⟨.ex c n, s1, by unfold xCons; rw [e1]; rfl, h⟩
  | ok a =>
    obtain ⟨r, s2, e2, h⟩ := h
    cases r with
    | ex c n => exact ⟨.ex c n, s2, by unfold xCons; rw [e1]; show (xas s1).bind _ = _; rw [e2]; rfl, h⟩
    | ok b => exact ⟨.ok (a :: b), s2, by unfold xCons; rw [e1]; show (xas s1).bind _ = _; rw [e2]; rfl, h⟩
  walk_at "zz"
/-- what a def that may raise gives -/
def Xm (A : D → Prop) (B : Nat → Int → Prop) : Xr D → Prop := fun r => match r with
  | .ok d => A d
  | .ex c n => B c n
/-- what a call makes of what the def gave -/
def xkOut (s1 s2 : Sto) : Xr D → Option (Xr Bv × Sto)
  | .ex c n => some (.ex c n, s2)
  | .ok d => some (.ok (.dat d), if d.scal = true then s1 else s2)
theorem xkOut_start {m : MfX} {bs : List Bv} {s1 s2 : Sto} {ds : List D} {r : Xr D} (e1 : xas s = some (.ok bs, s1)) (e2 : frzs s1 bs = some (ds, s2)) (e3 : m (ds.map .dat) = some r) : xCall m xas s = xkOut s1 s2 r := by
  refine keepG ?_ ?_
  unfold xCall
  rw [e1]
  show (cArgs none 0 bs s1).bind _ = _
  rw [cargs_none e2]
  show (m (ds.map .dat)).bind _ = _
  rw [e3]
  cases r <;> rfl
  walk_at "zz"
theorem ox_call {m : MfX} {A : Bv → Sto → Prop} {B : Nat → Int → Sto → Prop} (h : OX (xas s) (Xk (fun bs s1 => OF (frzs s1 bs) fun ds s2 => Ags ds fun ps => OMX (m ps) (Xm (fun d => Sc d (A (.dat d) s1) (A (.dat d) s2)) fun c n => B c n s2)) B)) : OX (xCall m xas s) (Xk A B) := by
  refine keepG ?_ ?_
  obtain ⟨r, s1, e1, h⟩ := h
  cases r with
  | ex c n => exact ⟨.ex c n, s1, by unfold xCall; rw [e1]; rfl, h⟩
  | ok bs =>
    obtain ⟨ds, s2, e2, r, e3, p⟩ := h
    cases r with
    | ex c n => exact ⟨.ex c n, s2, xkOut_start e1 e2 e3, p⟩
    | ok d =>
      have p : A (.dat d) (if d.scal = true then s1 else s2) := by
        have p : Sc d (A (.dat d) s1) (A (.dat d) s2) := p
        unfold Sc at p
        by_cases hs : d.scal = true
        · rw [if_pos hs] at p ⊢; exact p
        · rw [if_neg hs] at p ⊢; exact p
      exact ⟨.ok (.dat d), _, xkOut_start e1 e2 e3, p⟩
  walk_at "zz"
/-- where nothing is raised -/
theorem oe_callQ {m : MfX} {P : Bv → Sto → Prop} (h : OA (mas s) fun bs s1 => OF (frzs s1 bs) fun ds s2 => Ags ds fun ps => OMX (m ps) (Xm (fun d => Sc d (P (.dat d) s1) (P (.dat d) s2)) fun _ _ => False)) : OE (mCallQ m mas s) P := by
  refine keepG ?_ ?_
  obtain ⟨bs, s1, e1, h⟩ := h
  have hx : OX (xCall m (fun s => (mas s).bind fun a => some (.ok a.1, a.2)) s) (Xk P fun _ _ _ => False) := ox_call ⟨.ok bs, s1, by rw [e1]; rfl, h⟩
  obtain ⟨r, s2, e2, p⟩ := hx
  cases r with
  | ex c n => exact p.elim
  | ok b => exact ⟨b, s2, by unfold mCallQ; rw [e2]; rfl, p⟩
  walk_at "zz"
theorem os_asgX {g : MG} {P : Out → Sto → Prop} (h : OX (xa s) (Xk (fun b s1 => OZ (frz s1 b) fun d s2 => OG (g d s2) fun s3 => P .nx s3) fun c n s1 => P (.ex c n) s1)) : OS (mAsgX xa g s) P := by
  refine keepG ?_ ?_
  obtain ⟨r, s1, e1, h⟩ := h
  cases r with
  | ex c n => exact ⟨.ex c n, s1, by unfold mAsgX; rw [e1]; rfl, h⟩
  | ok b =>
    obtain ⟨d, s2, e2, s3, e3, p⟩ := h
    refine ⟨.nx, s3, ?_, p⟩
    unfold mAsgX
    rw [e1]
    show (frz s1 b).bind _ = _
    rw [e2]
    show (g d s2).bind _ = _
    rw [e3]
    rfl
  walk_at "zz"
def IsI (d : D) (A : Int → Prop) : Prop := ∃ n, d = .int n ∧ A n
theorem isi_i {n : Int} {A : Int → Prop} (a : A n) : IsI (.int n) A := ⟨n, rfl, a⟩
theorem os_raise {c : Nat} {P : Out → Sto → Prop} (h : OE (me s) fun b s1 => OD (look s1 b) fun d => IsI d fun n => P (.ex c n) s1) : OS (mRaise c me s) P := by
  refine keepG ?_ ?_
  obtain ⟨b, s1, e1, d, e2, n, rfl, p⟩ := h
  refine ⟨.ex c n, s1, ?_, p⟩
  unfold mRaise
  rw [e1]
  show (look s1 b).bind _ = _
  rw [e2]
  rfl
  walk_at "zz"
/-- a try whose clause returns from the place -/
def Tk (i : Nat) (cs : List Nat) (g : Int → D) (P : Out → Sto → Prop) : Out → Sto → Prop := fun o s => match o with
  | .ex c n => cs.contains c = true ∧ i < s.length ∧ P (.rt (g n)) s
  | o => P o s
/-- the end of a def that may raise -/
def FinX (Q : Xr D → Prop) : Out → Sto → Prop := fun o _ => match o with
  | .rt d => Q (.ok d)
  | .nx => Q (.ok .non)
  | .ex c n => Q (.ex c n)
  | _ => False
theorem omx_fn {N n : Nat} {mb : MS} {ps : List SV} {s0 : Sto} {Q : Xr D → Prop} (hl : ps.length = n) (hs : ps ++ List.replicate (N - n) .un = s0) (h : OS (mb s0) (FinX Q)) : OMX (fnX N n mb ps) Q := by
  refine keepG ?_ ?_
  subst hs
  obtain ⟨o, s1, e1, p⟩ := h
  unfold fnX
  rw [if_pos hl, e1]
  cases o with
  | nx => exact ⟨_, rfl, p⟩
  | rt d => exact ⟨_, rfl, p⟩
  | ex c n => exact ⟨_, rfl, p⟩
  | bk => exact p.elim
  | ct => exact p.elim
  walk_at "zz"
theorem fx_rt {A : D → Prop} {B : Nat → Int → Prop} {d : D} (q : A d) : FinX (Xm A B) (.rt d) s := q
theorem fx_ex {A : D → Prop} {B : Nat → Int → Prop} {c : Nat} {n : Int} (q : B c n) : FinX (Xm A B) (.ex c n) s := q
end
/-- a class of errors of one's own stands for itself in an except clause -/
theorem ex_one {K : PySem.W.Frag} {C : Addr} (eb : PySem.W.subIn K (.ref C) (.type "BaseException") = some true) (ic : PySem.W.isClsIn K C = true) (tc : PySem.W.typeIn K (.ref C) = some (.type "type")) (sb : PySem.W.subIn K (.ref C) (.ref C) = some true) : PySem.W.exmOne K (.ref C) (.ref C) = some true := by
  refine keepG ?_ ?_
  have q : PySem.W.kitCls K (.ref C) (.ref C) = some true := by
    unfold PySem.W.kitCls
    have ic' : (PySem.W.clsIn K C).isSome = true := ic
    show (if ((PySem.W.clsIn K C).isSome && PySem.W.typeIn K (.ref C) == some (.type "type")) = true then _ else _) = _
    rw [ic', tc, sb, if_pos (by simp)]
  unfold PySem.W.exmOne
  rw [eb, q]
  rfl
  walk_at "zz"
end Mi

/-! isqrt; a new instance where an argument may raise. -/
namespace Mi
open PySem PySem.Spec PyProof.Rows L2 Evl
/-- the root of an int, told by a name that is imported -/
def rRoot : List V → Hp → VK → Prop := fun vs H Q => ∃ a : Int, vs = [.int a] ∧ 0 ≤ a ∧ a < 2 ^ 64 ∧ Q (.int ((Float64.isqrt a.toNat : Nat) : Int)) H
def rootD : List D → Option D
  | [.int a] => if 0 ≤ a ∧ a < 18446744073709551616 then some (.int ((Float64.isqrt a.toNat : Nat) : Int)) else none
  | _ => none
section
variable {X : Cx} {e : Expr} {es : List Expr} {x : Str} {p pos : Pos} {tas : TA} {mas : MA} {xas : XA} {id : String} {rc : List V → Hp → VK → Prop}
end
/-- the root -/
def rt2 (n : Int) : Int := ((Float64.isqrt n.toNat : Nat) : Int)
/-- the part of it where nothing is raised -/
def okA (xa : XA) : MA := fun s => (xa s).bind fun a => match a.1 with
  | .ok bs => some (bs, a.2)
  | _ => none
section
variable {s : Sto} {xas : XA}
end
end Mi

/-! Typed data and their ==; comprehensions by an invariant; lists that grow. -/
namespace Mi
open PySem PySem.Spec PyProof.Rows L2 Evl
structure EqT {α : Type} [DecidableEq α] (f : α → D) (n : Nat) : Prop where
  pl : ∀ a, (f a).Pl n
  eq : ∀ a b, PyData.eqv (f a).py (f b).py = decide (a = b)
theorem od_neR {x : D} {P : D → Prop} (h : x.Pl 64) (p : P (.bl false)) : OD (neD x x) P := ⟨_, neD_rf h, p⟩
/-- a comprehension, by an invariant of what stands ahead of each turn (the names of the comprehension wiped) -/
theorem of_cloop {g : MG} {mt : MT} {me : ME} {vs : List Nat} {P : List D → Sto → Prop} (I : Nat → List D → Sto → Prop) : ∀ (xs acc : List D) (k : Nat) (s : Sto), I k acc s →
    (∀ (i : Nat) (d : D) (acc : List D) (t : Sto), xs[i]? = some d → I (k + i) acc t → Wp t vs fun s0 => OG (g d s0) fun s1 => OT (mt s1) fun c s2 => Br c (OE (me s2) fun r s3 => OZ (frz s3 r) fun x s4 => acc.length < 16000000 ∧ I (k + i + 1) (acc ++ [x]) s4) (I (k + i + 1) acc s2)) →
    (∀ acc t, I (k + xs.length) acc t → P acc t) → OF (compD vs g mt me xs acc s) P
  | [], acc, k, s, h0, _, hf => of_cnil (hf acc s h0)
  | x :: xs, acc, k, s, h0, h, hf => by
    apply of_ccons
    have h1 := h 0 x acc s rfl h0
    have nx : ∀ acc' s', I (k + 1) acc' s' → OF (compD vs g mt me xs acc' s') P := fun acc' s' hI => by
      refine of_cloop I xs acc' (k + 1) s' hI (fun i d a t hd ht => ?_) fun a t ht => hf a t (by rw [show k + (x :: xs).length = k + 1 + xs.length by rw [List.length_cons]; omega]; exact ht)
      have := h (i + 1) d a t (by simpa using hd) (by rw [show k + (i + 1) = k + 1 + i by omega]; exact ht)
      rw [show k + (i + 1) + 1 = k + 1 + i + 1 by omega] at this
      exact this
    unfold Wp at h1 ⊢
    obtain ⟨s1, e1, c, s2, e2, b1, b2⟩ := h1
    refine ⟨s1, e1, c, s2, e2, fun hc => ?_, fun hc => nx _ _ (b2 hc)⟩
    obtain ⟨r, s3, e3, y, s4, e4, hl, hI⟩ := b1 hc
    exact ⟨r, s3, e3, y, s4, e4, hl, nx _ _ hI⟩
theorem oz_ow {s s2 : Sto} {j : Nat} {ds : List D} {P : D → Sto → Prop} (h : s[j]? = some (.own ds)) (k : SetTo s j (.dat (.lst ds)) s2) (p : P (.lst ds) s2) : OZ (frz s (.slot j)) P := ⟨_, s2, by simp [frz, h, k.eq], p⟩
theorem oi_listL {ds : List D} {P : List D → Prop} (p : P ds) : OI (listF [.lst ds]) P := ⟨ds, rfl, p⟩
theorem atI_nn {α : Type} {l : List α} {i : Nat} {x : α} (h : l[i]? = some x) : atI l (i : Int) = some x := by
  refine keepG ?_ ?_
  have hl : i < l.length := (List.getElem?_eq_some_iff.mp h).1
  have : ixN l.length (i : Int) = some i := by
    unfold ixN
    rw [if_pos (by omega), if_pos (by omega)]
    simp
  unfold atI
  rw [this]
  exact h
  walk_at "zz"
end Mi

/-! Lists: ends, slices, repeats; texts. -/
namespace Mi
open PySem PySem.Spec PyProof.Rows L2 Evl
theorem od_catL {as bs : List D} {P : D → Prop} (h : as.length + bs.length ≤ 16000000) (p : P (.lst (as ++ bs))) : OD (addD (.lst as) (.lst bs)) P := ⟨_, by show (if _ then _ else _) = _; rw [if_pos h], p⟩
theorem od_catT {as bs : List D} {P : D → Prop} (h : as.length + bs.length ≤ 16000000) (p : P (.tup (as ++ bs))) : OD (addD (.tup as) (.tup bs)) P := ⟨_, by show (if _ then _ else _) = _; rw [if_pos h], p⟩
theorem od_slL {ds : List D} {lo hi : Option Int} {P : D → Prop} (p : P (.lst (cutG ds lo hi))) : OD (slD (.lst ds) lo hi) P := ⟨_, rfl, p⟩
theorem od_slT {ds : List D} {lo hi : Option Int} {P : D → Prop} (p : P (.tup (cutG ds lo hi))) : OD (slD (.tup ds) lo hi) P := ⟨_, rfl, p⟩
theorem cut_from {α : Type} (xs : List α) (k : Nat) : cutG xs (some (k : Int)) none = xs.drop k := by
  refine keepG ?_ ?_
  have h1 : HT.sIx xs.length 0 (some (k : Int)) = min k xs.length := HT.sIx_nat _ _ k
  unfold cutG
  rw [h1, HT.sIx_none]
  by_cases h : k ≤ xs.length
  · rw [Nat.min_eq_left h, ← List.length_drop, List.take_length]
  · rw [Nat.min_eq_right (by omega), List.drop_length, List.drop_eq_nil_of_le (by omega)]
    simp
  walk_at "zz"
theorem cut_to {α : Type} (xs : List α) (k : Nat) : cutG xs none (some (k : Int)) = xs.take k := by
  refine keepG ?_ ?_
  have h1 : HT.sIx xs.length xs.length (some (k : Int)) = min k xs.length := HT.sIx_nat _ _ k
  unfold cutG
  rw [h1, HT.sIx_none, List.drop_zero, Nat.sub_zero]
  by_cases h : k ≤ xs.length
  · rw [Nat.min_eq_left h]
  · rw [Nat.min_eq_right (by omega), List.take_length, List.take_of_length_le (by omega)]
  walk_at "zz"
theorem cut_between {α : Type} (xs : List α) (j k : Nat) (h : j ≤ k) : cutG xs (some (j : Int)) (some (k : Int)) = (xs.take k).drop j := by
  refine keepG ?_ ?_
  have h1 : HT.sIx xs.length 0 (some (j : Int)) = min j xs.length := HT.sIx_nat _ _ j
  have h2 : HT.sIx xs.length xs.length (some (k : Int)) = min k xs.length := HT.sIx_nat _ _ k
  unfold cutG
  rw [h1, h2, List.drop_take]
  by_cases hk : k ≤ xs.length
  · rw [Nat.min_eq_left hk, Nat.min_eq_left (by omega)]
  · rw [Nat.min_eq_right (by omega : xs.length ≤ k)]
    by_cases hj : j ≤ xs.length
    · rw [Nat.min_eq_left hj, ← List.length_drop, List.take_length, List.take_of_length_le (by rw [List.length_drop]; omega)]
    · rw [Nat.min_eq_right (by omega), List.drop_length, List.drop_eq_nil_of_le (by omega)]
      simp
  walk_at "zz"
theorem pl_str {n : Nat} {x : Str} (h : (D.str x).py.canLay0 = true) : (D.str x).Pl n := ⟨h, Nat.zero_le _⟩
theorem od_eqS {x y : Str} {b : Bool} {P : D → Prop} (hx : (D.str x).py.canLay0 = true) (hy : (D.str y).py.canLay0 = true) (e : (x == y) = b) (p : P (.bl b)) : OD (eqD (.str x) (.str y)) P := ⟨_, by rw [eqD_pl (pl_str hx) (pl_str hy)]; show some (D.bl (x == y)) = _; rw [e], p⟩
theorem od_pow {i j : Int} {P : D → Prop} (h : 0 ≤ j ∧ j ≤ 1000000) (hi : i.natAbs < 18446744073709551616) (p : P (.int (i ^ j.toNat))) : OD (intOp powI (.int i) (.int j)) P := by
  refine keepG ?_ ?_
  refine ⟨_, ?_, p⟩
  unfold intOp powI
  show ((if 0 ≤ j ∧ j ≤ 1000000 ∧ i.natAbs < 18446744073709551616 then some (i ^ j.toNat) else none).bind fun k => some (D.int k)) = _
  rw [if_pos ⟨h.1, h.2, hi⟩]
  rfl
  walk_at "zz"
theorem os_ext {j : Nat} {me : ME} {s : Sto} {P : Out → Sto → Prop} {ds0 : List D} (h0 : s[j]? = some (.own ds0)) (h : OE (me s) fun b s1 => OD (look s1 b) fun d => ∃ es ds, d = .lst es ∧ s1[j]? = some (.own ds) ∧ ds.length + es.length ≤ 16000000 ∧ ∃ s3, SetTo s1 j (.own (ds ++ es)) s3 ∧ P .nx s3) : OS (mExt j me s) P := by
  refine keepG ?_ ?_
  obtain ⟨b, s1, e1, d, e2, es, ds, rfl, e3, hl, s3, k, p⟩ := h
  refine ⟨_, s3, ?_, p⟩
  unfold mExt
  rw [lsAt_own h0]
  show (me s).bind _ = _
  rw [e1]
  show (look s1 b).bind _ = _
  rw [e2]
  show (lsAt s1 j).bind _ = _
  rw [lsAt_own e3]
  show (if ds.length + es.length ≤ 16000000 then _ else _) = _
  rw [if_pos hl]
  unfold putAt
  rw [e3]
  show some (Out.nx, s1.set j _) = _
  rw [k.eq]
  walk_at "zz"
theorem iL_app2 (a b : List Int) : iL a ++ iL b = iL (a ++ b) := by simp [iL]
theorem iL_getx {a : List Int} {i : Nat} {d : D} (h : (iL a)[i]? = some d) : ∃ x, a[i]? = some x ∧ d = .int x := by
  refine keepG ?_ ?_
  unfold iL at h
  rw [List.getElem?_map] at h
  cases g : a[i]? with
  | none => rw [g] at h; cases h
  | some x => rw [g] at h; cases h; exact ⟨x, rfl, rfl⟩
  walk_at "zz"
end Mi

/-! try: BODY except C as e: return A and e.place == B -/
namespace Mi
open PySem PySem.Spec PyProof.Rows L2 Evl
section
variable {K : PySem.W.Frag} {f : Fr} {σ : L2.St} {H Hb : Hp} {s : Sto}
def mTryE (i : Nat) (mb : MS) (cs : List Nat) (me : Int → ME) : MS := fun s => (mb s).bind fun r => match r.1 with
  | .ex c n => if cs.contains c = true ∧ i < r.2.length then mRet (me n) (r.2.set i .un) else none
  | o => some (o, r.2)
end
/-- walked -/
def TkE (i : Nat) (cs : List Nat) (me : Int → ME) (P : Out → Sto → Prop) : Out → Sto → Prop := fun o s => match o with
  | .ex c n => (cs.contains c = true ∧ i < s.length) ∧ OS (mRet (me n) (s.set i .un)) P
  | o => P o s
end Mi

/-! A built-in over what may raise; two targets. -/
namespace Mi
open PySem PySem.Spec PyProof.Rows L2 Evl
def xBi (g : List D → Option D) (xa : XA) : XE := fun s => (xa s).bind fun a => match a.1 with
  | .ex c n => some (.ex c n, a.2)
  | .ok bs => (looks a.2 bs).bind fun xs => (g xs).bind fun z => some (.ok (.dat z), a.2)
/-- t1 = t2 = e -/
def mAsg2 (me : ME) (g1 g2 : MG) : MS := fun s => (me s).bind fun a => (frz a.2 a.1).bind fun q => (g1 q.1 q.2).bind fun s1 => (g2 q.1 s1).bind fun s2 => some (.nx, s2)
end Mi

/-! Methods of an own class that change nothing; a def that calls itself. -/
namespace Mi
open PySem PySem.Spec PyProof.Rows L2 Evl
/-- a def of no promise -/
theorem fnOk_none {P : Program} {w : World} {K : PySem.W.Frag} {mg : Str → Option Value} {base : Heap} {CX : CXT} {k : Nat} {f : Addr} {fd : FuncData} {ps : List Str} : FnOk P w K mg base CX k f fd ps (spM K fun _ => none) :=
  ⟨(fun _ _ _ _ h => by obtain ⟨_, _, _, _, _, _, _, _, h, _⟩ := h; cases h), (fun _ _ _ _ _ _ _ _ _ _ _ _ _ h => by obtain ⟨_, _, _, _, _, _, _, _, h, _⟩ := h; cases h)⟩
structure MethOk (K : PySem.W.Frag) (c : Nat) (nm : Str) (C f : Addr) : Prop where
  ns : PySem.W.nsIn K mainGlobals (clsName c) = some (some (.ref C))
  cls : Cls K C
  me : Meth K C nm f
/-- the receiver ahead of the arguments -/
def aConsI (c : Nat) (nm : Str) (ma : ME) (mas : MA) : MA := fun s => (ma s).bind fun a => match a.1 with
  | .dat (.ins c' ds) => if c' = c ∧ (clsFlds c).contains nm = false then (mas a.2).bind fun r => some (a.1 :: r.1, r.2) else none
  | _ => none
def tConsI (C : Addr) (nm : Str) (ta : TE) (t : TA) : TA := fun σ H R => ta σ H fun x H1 => ∃ a dx fs, x = .ref a ∧ H1 a = some (.ins C dx fs) ∧ fs.lookup nm = none ∧ t σ H1 fun vs H2 => R (x :: vs) H2
section
variable {X : Cx} {CX : CXT} {k c : Nat} {f C : Addr} {fd : FuncData} {ps : List Str} {m : Mf} {P : Program} {w : World} {K : PySem.W.Frag} {mg : Str → Option Value} {base : Heap} {o e : Expr} {es : List Expr} {nm : Str} {pos : Pos} {apos : Pos} {ta : TE} {ma : ME} {tas : TA} {mas : MA}
end
/-- walked -/
def InsA (c : Nat) (nm : Str) (b : Bv) (A : Prop) : Prop := ∃ ds, b = .dat (.ins c ds) ∧ (clsFlds c).contains nm = false ∧ A
end Mi

/-! Comprehensions of two fors. -/
namespace Mi
open PySem PySem.Spec PyProof.Rows L2 Evl
def comp2D (vs vs1 : List Nat) (g : MG) (mt : MT) (mi1 : MI) (g1 : MG) (mt1 : MT) (me : ME) : List D → List D → Sto → Option (List D × Sto)
  | [], acc, s => some (acc, s)
  | d :: ds, acc, s => (g d (wipeS s vs)).bind fun s1 => (mt s1).bind fun c => if c.1 = true then (mi1 c.2).bind fun a => (compD vs1 g1 mt1 me a.1 acc a.2).bind fun q => comp2D vs vs1 g mt mi1 g1 mt1 me ds q.1 q.2
    else comp2D vs vs1 g mt mi1 g1 mt1 me ds acc c.2
def mLc2 (mi : MI) (g : MG) (mt : MT) (mi1 : MI) (g1 : MG) (mt1 : MT) (me : ME) (vs vs1 : List Nat) : MF := fun s => (mi s).bind fun a => (comp2D vs vs1 g mt mi1 g1 mt1 me a.1 [] a.2).bind fun q => some (q.1, backS a.2 (wipeS q.2 vs) vs)
section
variable {K : PySem.W.Frag}
end
end Mi

/-! range with a step. -/
namespace Mi
open PySem PySem.Spec PyProof.Rows L2 Evl
def rngC (lo c : Int) (n : Nat) : List D := (List.range n).map fun i => D.int (lo + ((i : Nat) : Int) * c)
def iR3 (ma : MA) : MI := fun s => (ma s).bind fun a => match a.1 with
  | [x, y, z] => (bInt x).bind fun m => (bInt y).bind fun n => (bInt z).bind fun c => if c ≠ 0 ∧ c.natAbs < 1073741824 ∧ Builtin.Range.small m n c = true then some (rngC m c (Builtin.Range.rangeSize m n c).toNat, a.2) else none
  | _ => none
section
variable {K : PySem.W.Frag}
end
def Rg3 (bs : List Bv) (A : Int → Int → Int → Prop) : Prop := ∃ m n c, bs = [.dat (.int m), .dat (.int n), .dat (.int c)] ∧ (-1000000000 ≤ m ∧ m ≤ 1000000000) ∧ (-1000000000 ≤ n ∧ n ≤ 1000000000) ∧ (c ≠ 0 ∧ -1000000000 ≤ c ∧ c ≤ 1000000000) ∧ A m n c
theorem fits {x : Int} (h : -10000000000 ≤ x ∧ x ≤ 10000000000) : Builtin.Range.rangeFitsLong x = true := by
  refine keepG ?_ ?_
  unfold Builtin.Range.rangeFitsLong
  simp only [Bool.and_eq_true, decide_eq_true_eq]
  omega
  walk_at "zz"
end Mi

/-! A written dict, looked up at once. -/
namespace Mi
open PySem PySem.Spec PyProof.Rows L2 Evl
def KD : Key → D
  | .inl i => .int i
  | .inr x => .str x
def dKey : D → Option Key
  | .int i => some (.inl i)
  | .str x => some (.inr x)
  | _ => none
def prsD : List (Key × ME) → Sto → Option (List (Key × D) × Sto)
  | [], s => some ([], s)
  | (k, me) :: r, s => (me s).bind fun b => (frz b.2 b.1).bind fun d => (prsD r d.2).bind fun q => some ((k, d.1) :: q.1, q.2)
def getK : List (Key × D) → Key → Option D
  | [], _ => none
  | (k, d) :: r, q => if k = q then some d else getK r q
def mPick (ps : List (Key × ME)) (mi : ME) : ME := fun s => (prsD ps s).bind fun q => (mi q.2).bind fun b => (look b.2 b.1).bind fun y => (dKey y).bind fun k => (getK q.1 k).bind fun d => some (.dat d, b.2)
section
variable (K : PySem.W.Frag)
def SndPrs (trs : List (TE × TE)) (ps : List (Key × ME)) : Prop := ∀ f σ H s Hb ds s', Rw K f σ H s Hb → prsD ps s = some (ds, s') → ∀ Q : List (V × V) → Hp → Prop, (∀ kvs H' Hb', Ex Hb Hb' → Rw K f σ H' s' Hb' → RepP K Hb' kvs ds → Q (kvs.map fun kv => (kV kv.1, kv.2)) H') → tPairs trs σ H Q
end
section
variable {K : PySem.W.Frag}
theorem valV_not : ∀ {vs : List (Key × V)} {k : Key}, k ∉ vs.map Prod.fst → valV vs k = none
  | [], k, _ => valV_nil
  | (k', v) :: r, k, h => by
    rw [List.map_cons, List.mem_cons, not_or] at h
    rw [valV_neg (fun z => h.1 z.symm)]
    exact valV_not h.2
theorem merge_all : ∀ (vs acc : List (Key × V)), ((acc ++ vs).map Prod.fst).Nodup → mergeK acc vs = acc ++ vs
  | [], acc, _ => by rw [List.append_nil]; rfl
  | (k, v) :: r, acc, h => by
    have e : acc ++ (k, v) :: r = (acc ++ [(k, v)]) ++ r := by rw [List.append_assoc]; rfl
    have hk : k ∉ acc.map Prod.fst := fun z => by
      rw [List.map_append, List.nodup_append] at h
      exact h.2.2 k z k (by simp) rfl
    show mergeK (putK acc k v) r = _
    rw [putK_new v (valV_not hk), e]
    exact merge_all r _ (by rw [← e]; exact h)
theorem Rw.bumpO {f : Fr} {σ : L2.St} {H Hb : Hp} {s : Sto} (R : Rw K f σ H s Hb) {p : Addr} {o : HO} (h0 : Hb p = none) (h1 : f.P p = none) (h2 : f.os ≠ some p) (h5 : ∀ (j : Nat) (sv : SV), s[j]? = some sv → sv.owns = true → σ[j]? ≠ some (some (.ref p))) : Rw K f σ (upd H p o) s Hb where
  hb := Ex.mut R.hb h0
  up := R.up
  ag := R.ag
  kp := fun a o h => by
    rw [upd_ne (fun z => by rw [z, h1] at h; cases h)]
    exact R.kp a o h
  os := fun l h => by
    obtain ⟨k1, k2, vs, k3⟩ := R.os l h
    exact ⟨k1, k2, vs, by rw [upd_ne (fun z => h2 (by rw [h, z]))]; exact k3⟩
  len := R.len
  ok := fun i sv ov g1 g2 => by
    have k := R.ok i sv ov g1 g2
    cases sv with
    | un => trivial
    | dat d => exact k
    | box b0 =>
      obtain ⟨l, vs, rfl, a1, a2, a3, a4, a5⟩ := k
      exact ⟨l, vs, rfl, a1, a2, a3, by rw [upd_ne (fun z => h5 i _ g1 rfl (by rw [g2, z]))]; exact a4, a5⟩
    | own ds =>
      obtain ⟨l, vs, rfl, a1, a2, a3, a4, a5⟩ := k
      exact ⟨l, vs, rfl, a1, a2, a3, by rw [upd_ne (fun z => h5 i _ g1 rfl (by rw [g2, z]))]; exact a4, a5⟩
    | par ds =>
      obtain ⟨l, vs, rfl, a1, a2, a4, a5⟩ := k
      exact ⟨l, vs, rfl, a1, a2, by rw [upd_ne (fun z => h5 i _ g1 rfl (by rw [g2, z]))]; exact a4, a5⟩
  dist := R.dist
end
structure PXPrs (X : Cx) (pos : Pos) (keys : List (Option Expr)) (values : List Expr) (trs : List (TE × TE)) (ps : List (Key × ME)) : Prop where
  pe : PPs X pos keys values trs
  sn : SndPrs X.K trs ps
/-! walked -/
def OP (x : Option (List (Key × D) × Sto)) (P : List (Key × D) → Sto → Prop) : Prop := ∃ ds s, x = some (ds, s) ∧ P ds s
def PickIs (ds : List (Key × D)) (y : D) (A : D → Prop) : Prop := ∃ k d, dKey y = some k ∧ getK ds k = some d ∧ A d
/-! `in` over nested data -/
def inQ (neg : Bool) : D → D → Option D := fun x y => y.seqL.bind fun ds => if SeqAt.shaped x.py = true ∧ SeqAt.shaped (PyData.list (D.pys ds)) = true then some (.bl (if neg then !((D.pys ds).any fun z => z.eqv x.py) else (D.pys ds).any fun z => z.eqv x.py)) else none
/-! index of a list of integers -/
def idxI : List Int → Int → Option Nat
  | [], _ => none
  | n :: ns, i => if n = i then some 0 else (idxI ns i).map (· + 1)
def mIdx (mo ma : ME) : ME := fun s => (mo s).bind fun a => (look a.2 a.1).bind fun x0 => (D.seqL x0).bind fun _ => (ma a.2).bind fun b => (look b.2 a.1).bind fun x => (look b.2 b.1).bind fun y => (bInt (.dat y)).bind fun i => (D.seqL x).bind fun ds => (asI ds).bind fun ns => (idxI ns i).bind fun k => some (.dat (.int k), b.2)
def IdxIs (x y : D) (A : Int → Prop) : Prop := ∃ (ds : List D) (ns : List Int) (i : Int) (k : Nat), D.seqL x = some ds ∧ asI ds = some ns ∧ y = .int i ∧ idxI ns i = some k ∧ A k
theorem units_1 {k : Nat} {A : Around} (h : Room k A) : A.units + 1 < cLine := by
  refine keepG ?_ ?_
  have := h.un
  omega
  walk_at "zz"
end Mi

namespace Mi
open PySem PySem.Spec PyProof.Rows L2 Evl
/-! An __init__ that looks at a list of its caller's: the caller may change it afterwards. -/
abbrev MfP := List SV → Option (List D × Option (List D))
def fnIP (N n : Nat) (es : List ME) : MfP := fun ps => if ps.length + 1 = n then (iniM es (.un :: ps ++ List.replicate (N - n) .un)).map fun r => (r.1, parOf r.2) else none
def spIniP (K : PySem.W.Frag) (c : Nat) (m : MfP) : Sp := fun vs H Q _ => ∃ (Hb : Hp) (os : Option Addr) (ps : List SV) (ds : List D) (fin : Option (List D)) (a C dx : Addr) (ws : List V),
  Ex Hb H ∧ vs = .ref a :: ws ∧ H a = some (.ins C dx []) ∧ Hb a = none ∧ PySem.W.nsIn K mainGlobals (clsName c) = some (some (.ref C)) ∧ ArgsOk K H Hb os ws ps ∧ (∀ l, os = some l → Hb l = none ∧ (∃ vs, H l = some (.lst vs)) ∧ fin.isSome = true) ∧ m ps = some (ds, fin) ∧
  ∀ H' Hb' fs, Ex Hb Hb' → Ex Hb' H' → Hb' a = none → H' a = some (.ins C dx fs) → fs.map (·.1) = clsFlds c → RepL K Hb' (fs.map (·.2)) ds → (∀ b, H b ≠ none → (∀ xs, H b ≠ some (.tup xs)) → Hb' b = Hb b) → (∀ b o, b ≠ a → os ≠ some b → H b = some o → H' b = some o) →
    (∀ l, os = some l → ∃ es ws, fin = some es ∧ H' l = some (.lst ws) ∧ RepL K Hb' ws es) → Q .non H'
section
variable {K : PySem.W.Frag}
/-- C(..), one of whose arguments is a list of the caller's own -/
def mNewP (c : Nat) (m : MfP) (par : Option Nat) (ma : MA) : ME := fun s => (ma s).bind fun a => (cArgs par 0 a.1 a.2).bind fun q => (m q.1).bind fun r => match par with
  | none => some (.dat (.ins c r.1), q.2)
  | some k => a.1[k]?.bind fun b => match b with
    | .slot j => r.2.bind fun es => (lsAt q.2 j).bind fun _ => (putAt q.2 j es).bind fun s' => some (.dat (.ins c r.1), s')
    | .dat _ => none
end
section
variable {P : Program} {w : World} {K : PySem.W.Frag} {mg : Str → Option Value} {base : Heap}
end
/-! walked -/
def OC (x : Option (List SV × Sto)) (P : List SV → Sto → Prop) : Prop := ∃ ps s, x = some (ps, s) ∧ P ps s
def OIP (x : Option (List D × Option (List D))) (P : List D → Option (List D) → Prop) : Prop := ∃ ds fin, x = some (ds, fin) ∧ P ds fin
end Mi

namespace Mi
open PySem PySem.Spec PyProof.Rows L2 Evl
/-- t * k, at most once -/
def rRepS (K : PySem.W.Frag) : R2 := fun x y H Q => ∃ l k xs, x = .ref l ∧ y = .int k ∧ SqT K H l xs ∧ xs ≠ [] ∧ -1000 ≤ k ∧ k ≤ 1 ∧ (k = 1 → Q (.ref l) H) ∧ (k ≤ 0 → ∀ p, H p = none → Q (.ref p) (upd H p (.tup [])))
/-- xs[..] * k, for a tuple and a k of at most 1 -/
def mulS : D → D → Option D
  | .tup a, .int k => if a ≠ [] ∧ -1000 ≤ k ∧ k ≤ 1 then some (.tup (if k = 1 then a else [])) else none
  | _, _ => none
end Mi

/-! sorted(..) of a list of data of one kind. -/
namespace Mi
open PySem PySem.Spec PyProof.Rows L2 Evl
def rSortD (K : PySem.W.Frag) : List V → Hp → VK → Prop := fun vs H Q => ∃ (a : Addr) (bs : List (V × PyData)), vs = [.ref a] ∧ SqL K H a (bs.map Prod.fst) ∧ (∀ b ∈ bs, Dp K H b.1 b.2) ∧ PySem.W.AllAlike (bs.map Prod.snd) ∧ PySem.W.Sortable (bs.map Prod.snd) ∧ (∀ b ∈ bs, b.2.depth ≤ 64) ∧
  ∀ p, H p = none → Q (.ref p) (upd H p (.lst ((bs.mergeSort (PySem.W.dataLe false Prod.snd)).map Prod.fst)))
def leD (a b : D) : Bool := PySem.W.dataLe false D.py a b
def isTupD : D → Bool
  | .tup (_ :: _) => true | _ => false
def isScD : D → Bool
  | .non => false | .tup _ => false | .ins _ _ => false | _ => true
def srtOk (ds : List D) : Bool := (ds.all fun a => ds.all fun b => PySem.W.alike a.py b.py) && (ds.all isTupD || ds.all isScD) && SeqAt.shaped (PyData.list (D.pys ds))
def sortF : List D → Option (List D)
  | [x] => x.seqL.bind fun ds => if srtOk ds = true then some (ds.mergeSort leD) else none
  | _ => none
def leL (x y : List Int) : Bool := decide (x ≤ y)
def leII (p q : Int × Int) : Bool := decide (p.1 < q.1 ∨ (p.1 = q.1 ∧ p.2 ≤ q.2))
end Mi

/-! min of three. -/
namespace Mi
open PySem PySem.Spec PyProof.Rows L2 Evl
def rMin3 : List V → Hp → VK → Prop := fun xs H Q => ∃ i j k : Int, xs = [.int i, .int j, .int k] ∧ Q (.int (if k < (if j < i then j else i) then k else (if j < i then j else i))) H
def minD3 : List D → Option D
  | [.int i, .int j, .int k] => some (.int (if k < (if j < i then j else i) then k else (if j < i then j else i)))
  | _ => none
end Mi
namespace Mi
open PySem PySem.Spec PyProof.Rows L2 Evl
end Mi

/-! Dicts of a def's own. -/
namespace Mi
open PySem PySem.Spec PyProof.Rows L2 Evl
def putD (es : List (Key × D)) (k : Key) (d : D) : List (Key × D) := if (es.any fun e => decide (e.1 = k)) = true then es.map (fun e => if e.1 = k then (e.1, d) else e) else es ++ [(k, d)]
def bxAt (s : Sto) (j : Nat) : Option (List (Key × D)) := match s[j]? with
  | some (.box (.dic es)) => some es
  | _ => none
section
variable {K : PySem.W.Frag} {f : Fr} {σ : L2.St} {H H' Hb Hb' : Hp} {s s' : Sto}
end
/-! readings and meanings -/
def mDNew (j : Nat) : MS := fun s => some (.nx, s.set j (.box (.dic [])))
def mDGet (j : Nat) (mi : ME) : ME := fun s => (bxAt s j).bind fun _ => (mi s).bind fun b => (look b.2 b.1).bind fun y => (dKey y).bind fun k => (bxAt b.2 j).bind fun es => (getK es k).bind fun d => some (.dat d, b.2)
def mDGet2 (j : Nat) (mi mx : ME) : ME := fun s => (bxAt s j).bind fun _ => (mi s).bind fun b => (mx b.2).bind fun c => (look c.2 b.1).bind fun y => (dKey y).bind fun k => (bxAt c.2 j).bind fun es => some (match getK es k with | some d => .dat d | none => c.1, c.2)
def mDIn (neg : Bool) (mi : ME) (j : Nat) : ME := fun s => (mi s).bind fun b => (look b.2 b.1).bind fun y => (dKey y).bind fun k => (bxAt b.2 j).bind fun es => some (.dat (.bl (if neg then !(getK es k).isSome else (getK es k).isSome)), b.2)
def mDPut (j : Nat) (mi mv : ME) : MS := fun s => (mv s).bind fun a => (frz a.2 a.1).bind fun q => (bxAt q.2 j).bind fun _ => (mi q.2).bind fun b => (look b.2 b.1).bind fun y => (dKey y).bind fun k => (bxAt b.2 j).bind fun es => if es.length < 16000000 then some (.nx, b.2.set j (.box (.dic (putD es k q.1)))) else none
def leZ (a b : Int) : Bool := decide (a ≤ b)
def keyI : List (Key × D) → Option (List Int)
  | [] => some []
  | (.inl i, _) :: r => (keyI r).bind fun l => some (i :: l)
  | _ => none
def mDKeysS (j : Nat) : MF := fun s => (bxAt s j).bind fun es => (keyI es).bind fun ks => if ks.length < 64 then some (iL (ks.mergeSort leZ), s) else none
section
variable {K : PySem.W.Frag}
def rSortDI : List V → Hp → VK → Prop := fun xs H Q => ∃ (a : Addr) (kvs : List (Key × V)) (ks : List Int), xs = [.ref a] ∧ Rd H a (.dK kvs) ∧ kvs.map (·.1) = ks.map Sum.inl ∧ ks.length < 64 ∧ ∀ (ys : List Int) (p : Addr), ys.Perm ks → ys.Pairwise (· ≤ ·) → H p = none → Q (.ref p) (upd H p (.lst (ys.map V.int)))
end
/-! the rules -/
section
variable {X : Cx} {T : Wsh} {o i e value : Expr} {pos pos' tpos : Pos} {ti tv tx : TE} {mi mv mx : ME}
end
/-! walked -/
def dI (es : List (Int × D)) : List (Key × D) := es.map fun p => (Sum.inl p.1, p.2)
def getI : List (Int × D) → Int → Option D
  | [], _ => none
  | (k, d) :: r, q => if k = q then some d else getI r q
def putI (es : List (Int × D)) (k : Int) (d : D) : List (Int × D) := if (es.any fun e => decide (e.1 = k)) = true then es.map (fun e => if e.1 = k then (e.1, d) else e) else es ++ [(k, d)]
section
variable {s s1 : Sto} {j : Nat} {P : Bv → Sto → Prop} {mi mx mv : ME} {es : List (Int × D)}
def DGt (s : Sto) (j : Nat) (y : D) (A : D → Prop) : Prop := ∃ k es d, dKey y = some k ∧ s[j]? = some (.box (.dic es)) ∧ getK es k = some d ∧ A d
def DGo (s : Sto) (j : Nat) (y : D) (A : Option D → Prop) : Prop := ∃ k es, dKey y = some k ∧ s[j]? = some (.box (.dic es)) ∧ A (getK es k)
def DPt (s : Sto) (j : Nat) (y d : D) (A : Sto → Prop) : Prop := ∃ k es s', dKey y = some k ∧ s[j]? = some (.box (.dic es)) ∧ es.length < 16000000 ∧ SetTo s j (.box (.dic (putD es k d))) s' ∧ A s'
def HasD (s : Sto) (j : Nat) (A : Prop) : Prop := (∃ es, s[j]? = some (.box (.dic es))) ∧ A
def orE (c : Bv) : Option D → Bv
  | some d => .dat d
  | none => c
end
end Mi

/-! sorted(d.items()); two names that take new things at once. -/
namespace Mi
open PySem PySem.Spec PyProof.Rows L2 Evl L2.DX
def rItemsK : V → List V → Hp → VK → Prop := fun x xs H Q => ∃ (a : Addr) (kvs : List (Key × V)), x = .ref a ∧ xs = [] ∧ H a = some (.dK kvs) ∧ ∀ p, H p = none → Q (.ref p) (upd H p (itemsO p a))
mutual
theorem reads_live {h : Heap} : ∀ (d : PyData) (v : Value) (as : List Addr), PySem.W.alike d d = true → PySem.Reads h v d as → ∀ b ∈ as, ∃ o, h.get? b = some o
  | .none, _, _, _, r => by cases r; exact fun b hb => nomatch hb
  | .bool _, _, _, _, r => by cases r; exact fun b hb => nomatch hb
  | .int _, _, _, _, r => by cases r; exact fun b hb => nomatch hb
  | .str _, _, _, _, r => by cases r; exact fun b hb => nomatch hb
  | .list xs, _, _, hal, r => by
    cases r with
    | list h1 h2 h3 h4 =>
      intro b hb
      rcases List.mem_cons.mp hb with rfl | hb
      · exact ⟨_, h1⟩
      · exact readsAll_live xs _ _ hal h4 b hb
  | .tuple xs, _, _, hal, r => by
    cases r with
    | tuple h1 h2 h3 h4 => exact readsAll_live xs _ _ hal h4
  | .dict _, _, _, hal, _ => by simp [PySem.W.alike] at hal
theorem readsAll_live {h : Heap} : ∀ (ds : List PyData) (vs : List Value) (as : List Addr), PySem.W.alikeAll ds ds = true → PySem.ReadsAll h vs ds as → ∀ b ∈ as, ∃ o, h.get? b = some o
  | [], _, _, _, r => by cases r; exact fun b hb => nomatch hb
  | d :: ds, _, _, hal, r => by
    have hal' : PySem.W.alike d d = true ∧ PySem.W.alikeAll ds ds = true := by
      rw [PySem.W.alikeAll, Bool.and_eq_true] at hal
      exact hal
    cases r with
    | cons h1 h2 =>
      intro b hb
      rcases List.mem_append.mp hb with hb | hb
      · exact reads_live d _ _ hal'.1 h1 b hb
      · exact readsAll_live ds _ _ hal'.2 h2 b hb
end
def itD (es : List (Key × D)) : List D := es.map fun e => D.tup [KD e.1, e.2]
def rSortItK (K : PySem.W.Frag) : List V → Hp → VK → Prop := fun vs H Q => ∃ (p a : Addr) (kvs : List (Key × V)) (es : List (Key × D)) (Hb : Hp), vs = [.ref p] ∧ H p = some (itemsO p a) ∧ H a = some (.dK kvs) ∧ Ex Hb H ∧ RepP K Hb kvs es ∧ srtOk (itD es) = true ∧
  ∀ (H' : Hp) (l : Addr) (ts : List Addr), (∀ b o, H b = some o → H' b = some o) → H l = none → (∀ t ∈ ts, H t = none) → l ∉ ts → Paired (fun (t : Addr) (q : Key × V) => H' t = some (.tup [kV q.1, q.2])) ts kvs →
    H' l = some (.lst (((ts.zip (itD es)).mergeSort fun x y => leD x.2 y.2).map fun z => V.ref z.1)) → Q (.ref l) H'
def mDItemsS (j : Nat) : MF := fun s => (bxAt s j).bind fun es => if srtOk (itD es) = true then some ((itD es).mergeSort leD, s) else none
/-! two new things at once -/
def mParLD (mf : MF) (i j : Nat) : MS := fun s => (mf s).bind fun a => some (.nx, (a.2.set i (.own a.1)).set j (.box (.dic [])))
def mPar2F (mf mg : MF) (i j : Nat) : MS := fun s => (mf s).bind fun a => (mg a.2).bind fun b => some (.nx, (b.2.set i (.own a.1)).set j (.own b.1))
section
variable {X : Cx} {T : Wsh} {a b : Expr} {te tg : TE} {mf mg : MF} {x y : Str} {px py pt pos : Pos} {kt k2 pt2}
end
end Mi

/-! zip of two, each a list or a tuple. -/
namespace Mi
open PySem PySem.Spec PyProof.Rows L2 Evl RZ
def SqA (K : PySem.W.Frag) : Bool → Hp → Addr → List V → Prop
  | true => SqT K
  | false => SqL K
def ItA : Bool → Heap → Addr → Addr → Nat → Prop
  | true => fun h it a i => h.IsTupleIter it a i
  | false => fun h it a i => h.IsListIter it a i
def IsA : Bool → Heap → Addr → Array Value → Prop
  | true => fun h a its => h.IsTuple a its
  | false => fun h a its => h.IsList a its
def oA : Bool → Addr → Obj
  | true => fun a => { cls := .type "tuple_iterator", data := .fields #[.ref a, .int 0 0] }
  | false => fun a => { cls := .type "list_iterator", data := .fields #[.ref a, .int 0 0] }
theorem inv_sqA {X : Cx} {pins : List (Addr × Obj)} {σ : L2.St} {H : Hp} {s : Shared} (I : Inv X pins σ H s) {t : Bool} {a : Addr} {xs : List V} (h : SqA X.K t H a xs) : ∃ its : List Value, Vals xs its ∧ IsA t s.heap a its.toArray := by
  refine keepG ?_ ?_
  cases t with
  | true => obtain ⟨its, rv, p, _⟩ := I.tuple h; exact ⟨its, rv, p⟩
  | false => obtain ⟨its, rv, p, _⟩ := I.list h; exact ⟨its, rv, p.isList⟩
  walk_at "zz"
theorem inv_sqA_inj {X : Cx} {pins : List (Addr × Obj)} {σ : L2.St} {H : Hp} {s : Shared} (I : Inv X pins σ H s) {t : Bool} {a : Addr} {xs ys : List V} (h : SqA X.K t H a xs) (h' : SqA X.K t H a ys) : xs = ys := by
  refine keepG ?_ ?_
  cases t with
  | true => exact I.tuple_inj h h'
  | false => exact I.list_inj h h'
  walk_at "zz"
theorem draws_A {prog : Program} {w : World} {A : Around} (hh : A.handled = none) (t : Bool) (it l : Addr) (hne : l ≠ it) (items : Array Value) :
    Draws prog w A it [it, l] items.size (fun i v => items[i]? = some v) (fun i h => ItA t h it l i ∧ IsA t h l items) := by
  refine keepG ?_ ?_
  cases t with
  | true => exact Draws.tuple hh it l hne items
  | false => exact Draws.list hh it l hne items
  walk_at "zz"
theorem begins_A (t : Bool) (l : Addr) (items : Array Value) : Begins (.ref l) (oA t l) fun h => IsA t h l items := by
  refine keepG ?_ ?_
  cases t with
  | true => exact begins_tuple l items
  | false => exact begins_list l items
  walk_at "zz"
theorem itA_obj {t : Bool} {h : Heap} {it a : Addr} {i : Nat} (x : ItA t h it a i) : ∃ o, h.get? it = some o ∧ ∀ q, o.data ≠ .cell q := by
  refine keepG ?_ ?_
  cases t with
  | true => obtain ⟨o, e, _, d⟩ := x; exact ⟨o, e, fun v q => by rw [d] at q; cases q⟩
  | false => obtain ⟨o, e, _, d⟩ := x; exact ⟨o, e, fun v q => by rw [d] at q; cases q⟩
  walk_at "zz"
theorem itA_keep {t : Bool} {h h' : Heap} {it a : Addr} {i : Nat} (x : ItA t h it a i) (k : ∀ o, h.get? it = some o → h'.get? it = some o) : ItA t h' it a i := by
  refine keepG ?_ ?_
  cases t with
  | true => exact Heap.IsTupleIter.at x k
  | false => exact Heap.IsListIter.at x k
  walk_at "zz"
theorem itA_new {t : Bool} {h : Heap} {it a : Addr} (x : h.get? it = some (oA t a)) : ItA t h it a 0 := by
  refine keepG ?_ ?_
  cases t with
  | true => exact ⟨_, x, rfl, rfl⟩
  | false => exact ⟨_, x, rfl, rfl⟩
  walk_at "zz"
theorem itA_lt {t : Bool} {h : Heap} {it a : Addr} {i : Nat} (x : ItA t h it a i) : it < h.objs.size := by
  refine keepG ?_ ?_
  obtain ⟨o, e, _⟩ := itA_obj x
  exact Heap.lt_size e
  walk_at "zz"
theorem isA_lt {t : Bool} {h : Heap} {a : Addr} {its : Array Value} (x : IsA t h a its) : a < h.objs.size := by
  refine keepG ?_ ?_
  cases t with
  | true => obtain ⟨o, e, _⟩ := x; exact Heap.lt_size e
  | false => obtain ⟨o, e, _⟩ := x; exact Heap.lt_size e
  walk_at "zz"
theorem ex_A {K : PySem.W.Frag} {t : Bool} {H H' : Hp} {a : Addr} {xs : List V} (e : Ex H H') (x : SqA K t H a xs) : SqA K t H' a xs := by
  refine keepG ?_ ?_
  cases t with
  | true => exact ex_t e x
  | false => exact ex_l e x
  walk_at "zz"
def ItzM (K : PySem.W.Frag) (t1 t2 : Bool) (a b : Addr) (n1 n2 : Nat) : It :=
  ⟨fun i H => ∃ (xs ys : List V) (x y : V), SqA K t1 H a xs ∧ SqA K t2 H b ys ∧ xs.length = n1 ∧ ys.length = n2 ∧ xs[i]? = some x ∧ ys[i]? = some y,
    fun i H v H' => ∃ T x y, v = .ref T ∧ H T = none ∧ H' = upd H T (.tup [x, y]) ∧ (∀ xs, SqA K t1 H a xs → xs[i]? = some x) ∧ (∀ ys, SqA K t2 H b ys → ys[i]? = some y),
    fun i H => ∃ xs ys : List V, SqA K t1 H a xs ∧ SqA K t2 H b ys ∧ xs.length = n1 ∧ ys.length = n2 ∧ (n1 ≤ i ∨ n2 ≤ i)⟩
def iZipM (K : PySem.W.Frag) (ta : TA) : TI := fun σ H R => ta σ H fun vs H1 => ∃ t1 t2 a b xs ys, vs = [.ref a, .ref b] ∧ SqA K t1 H1 a xs ∧ SqA K t2 H1 b ys ∧ R (ItzM K t1 t2 a b xs.length ys.length) H1
def zM (x y : D) : Option (List D) := x.seq.bind fun a => y.seq.bind fun b => some (zipD a b)
def iZM (ma : MA) : MI := fun s => (ma s).bind fun a => match a.1 with
  | [x, y] => (frz a.2 x).bind fun q => (frz q.2 y).bind fun r => (zM q.1 r.1).bind fun ds => some (ds, r.2)
  | _ => none
section
variable {K : PySem.W.Frag}
theorem rep_seqA {H : Hp} {v : V} {d : D} {ds : List D} (h : Rep K H v d) (hd : d.seq = some ds) : ∃ t l vs, v = .ref l ∧ SqA K t H l vs ∧ RepL K H vs ds := by
  refine keepG ?_ ?_
  cases h with
  | lst a b => cases hd; exact ⟨false, _, _, rfl, sq_of a, b⟩
  | fro a b => cases hd; exact ⟨false, _, _, rfl, a, b⟩
  | tup a b => cases hd; exact ⟨true, _, _, rfl, SqM.t a, b⟩
  | _ => cases hd
  walk_at "zz"
end
theorem os_wh {mt : MT} {mb : MS} {P : Out → Sto → Prop} (I : Nat → Sto → Prop) (h : ∀ n t, I n t → OT (mt t) fun k t1 => Br k (OS (mb t1) (Turn (fun t' => ∃ m, m < n ∧ I m t') P)) (P .nx t1)) : ∀ (fu n : Nat) (s : Sto), I n s → n < fu → OS (whD mt mb fu s) P
  | 0, n, s, _, hn => absurd hn (Nat.not_lt_zero _)
  | fu + 1, n, s, hi, hn => by
    obtain ⟨k, t1, e1, h1, h2⟩ := h n s hi
    cases k with
    | false => exact ⟨.nx, t1, by unfold whD; rw [e1]; rfl, h2 rfl⟩
    | true =>
      obtain ⟨o, t2, e2, p⟩ := h1 rfl
      have step : ∀ r, (match o with
        | .nx => whD mt mb fu t2
        | .ct => whD mt mb fu t2
        | .bk => some (.nx, t2)
        | .rt x => some (.rt x, t2)
        | .ex c n => some (.ex c n, t2)) = r → whD mt mb (fu + 1) s = r := fun r hr => by
        unfold whD
        rw [e1]
        show (mb t1).bind _ = _
        rw [e2]
        cases o <;> exact hr
      cases o with
      | nx =>
        obtain ⟨m, hm, q⟩ := p
        obtain ⟨o, s3, e3, p⟩ := os_wh I h fu m t2 q (by omega)
        exact ⟨o, s3, step _ e3, p⟩
      | ct =>
        obtain ⟨m, hm, q⟩ := p
        obtain ⟨o, s3, e3, p⟩ := os_wh I h fu m t2 q (by omega)
        exact ⟨o, s3, step _ e3, p⟩
      | bk => exact ⟨_, _, step _ rfl, p⟩
      | rt x => exact ⟨_, _, step _ rfl, p⟩
      | ex c n => exact ⟨_, _, step _ rfl, p⟩
theorem os_while {mt : MT} {mb : MS} {fuel : Sto → Nat} {s : Sto} {P : Out → Sto → Prop} (h : OS (whD mt mb (fuel s) s) P) : OS (mWhile fuel mt mb s) P := h
end Mi

/-! list(zip(a, b, c)): the tuples are held. -/
namespace PySem
open Builtin
section
variable {prog : Program} {w : World} {A : Around} {E : Value → Shared → Prop} {s : Shared} {z TI TO T i1 i2 i3 : Addr} {f : Bool} {oT : Obj} {fp1 fp2 fp3 : List Addr} {n1 n2 n3 i : Nat} {P1 P2 P3 : Nat → Value → Prop} {St1 St2 St3 : Nat → Heap → Prop}
/-- the zip ahead of its next turn: fresh, or its last tuple is still out -/
def LzZ (h : Heap) (z TI TO S : Addr) : Prop := (IsZip h z TI TO .none ∧ ∃ a1 a2 a3, IsTupOf3 h TO a1 a2 a3) ∨ ∃ T f oT, IsZipHeld h z TI TO T f ∧ h.get? T = some oT ∧ S < T
end
end PySem
namespace PySem
open Builtin
structure LzG (P1 P2 P3 : Nat → Value → Prop) (lo : Addr) (h : Heap) (as : List Addr) : Prop where
  rise : as.Pairwise (· < ·)
  above : ∀ a ∈ as, lo < a
  rows : ∀ (j : Nat) (a : Addr), as[j]? = some a → ∃ x1 x2 x3, P1 j x1 ∧ P2 j x2 ∧ P3 j x3 ∧ IsTupOf3 h a x1 x2 x3
section
variable {prog : Program} {w : World} {A : Around} {s : Shared} {R : Result → Shared → Prop} {z TI TO i1 i2 i3 S : Addr} {fp1 fp2 fp3 : List Addr} {n1 n2 n3 n : Nat} {P1 P2 P3 : Nat → Value → Prop} {St1 St2 St3 : Nat → Heap → Prop}
structure LzLow (S z TI TO i1 i2 i3 : Addr) (fp1 fp2 fp3 : List Addr) : Prop where
  z : z < S
  TI : TI < S
  TO : TO < S
  i1 : i1 < S
  i2 : i2 < S
  i3 : i3 < S
  f1 : ∀ b ∈ fp1, b < S
  f2 : ∀ b ∈ fp2, b < S
  f3 : ∀ b ∈ fp3, b < S
end
end PySem
namespace L2
open PySem PySem.Spec PyProof.Rows
section
variable {X : Cx} {pins : List (Addr × Obj)} {σ : St} {H H' : Hp} {s : Shared} {h' : Heap}
end
end L2
namespace Mi
open PySem PySem.Spec PyProof.Rows L2 Evl RZ
/-- tracked at their addresses -/
def putU : Hp → List Addr → List HO → Hp
  | H, a :: as, u :: us => putU (upd H a u) as us
  | H, _, _ => H
def zipV3 : List V → List V → List V → List (List V)
  | a :: as, b :: bs, c :: cs => [a, b, c] :: zipV3 as bs cs
  | _, _, _ => []
def tListZip (K : PySem.W.Frag) (ta : TA) : TE := fun σ H Q => ta σ H fun vs H1 => ∃ t1 t2 t3 a b c xs ys zs, vs = [.ref a, .ref b, .ref c] ∧ SqA K t1 H1 a xs ∧ SqA K t2 H1 b ys ∧ SqA K t3 H1 c zs ∧
  ∀ (H' : Hp) (p : Addr) (ts : List Addr), (∀ b u, H1 b = some u → H' b = some u) → H1 p = none → (∀ t ∈ ts, H1 t = none) → p ∉ ts → ts.length = (zipV3 xs ys zs).length →
    (∀ (j : Nat) (t : Addr) (r : List V), ts[j]? = some t → (zipV3 xs ys zs)[j]? = some r → H' t = some (.tup r)) → H' p = some (.lst (ts.map V.ref)) → Q (.ref p) H'
end Mi
namespace Mi
open PySem PySem.Spec PyProof.Rows L2 Evl RZ
def zL3 (x y z : D) : Option (List D) := x.seq.bind fun a => y.seq.bind fun b => z.seq.bind fun c => some (zipD3 a b c)
def mZipL3 (ma : MA) : MF := fun s => (ma s).bind fun a => match a.1 with
  | [x, y, z] => (frz a.2 x).bind fun q => (frz q.2 y).bind fun r => (frz r.2 z).bind fun t => (zL3 q.1 r.1 t.1).bind fun ds => some (ds, t.2)
  | _ => none
section
variable {K : PySem.W.Frag}
end
end Mi

/-! x[i] += e on a list of the def's own. -/
namespace Mi
open PySem PySem.Spec PyProof.Rows L2 Evl RZ
def rGetL0 : V → V → Hp → VK → Prop := fun o i H Q => ∃ p xs k v, o = .ref p ∧ i = .int k ∧ H p = some (.lst xs) ∧ 0 ≤ k ∧ xs[k.toNat]? = some v ∧ Q v H
/-- the index is not below 0, the items are ints -/
def mAugI (j : Nat) (f : Int → Int → Int) (mi me : ME) : MS := fun s => (lsAt s j).bind fun _ => (mi s).bind fun b => (bInt b.1).bind fun i => (lsAt b.2 j).bind fun ds => if 0 ≤ i then (match ds[i.toNat]? with
    | some (.int x) => (me b.2).bind fun c => (bInt c.1).bind fun y => (lsAt c.2 j).bind fun es => if i.toNat < es.length then (putAt c.2 j (es.set i.toNat (.int (f x y)))).bind fun s' => some (.nx, s') else none
    | _ => none) else none
section
variable {K : PySem.W.Frag}
end
def AuG (s : Sto) (j : Nat) (b : Bv) (A : Int → Int → Prop) : Prop := ∃ i ds x, b = .dat (.int i) ∧ lsAt s j = some ds ∧ 0 ≤ i ∧ ds[i.toNat]? = some (.int x) ∧ A i x
def AuP (s : Sto) (j : Nat) (i : Int) (b : Bv) (f : Int → Int) (A : Sto → Prop) : Prop := ∃ y es s', b = .dat (.int y) ∧ lsAt s j = some es ∧ i.toNat < es.length ∧ putAt s j (es.set i.toNat (.int (f y))) = some s' ∧ A s'
end Mi

namespace Mi
open PySem PySem.Spec PyProof.Rows L2 Evl
end Mi

/-! set(..) of a list of ints: the set that sorted() can walk. -/
namespace Mi
open PySem PySem.Spec PyProof.Rows L2 Evl
section
variable {P : Program} {w : World} {A : Around}
/-- the members after i items, and how many -/
def hasV (g : Nat → Int) (i : Nat) : Int → Bool := fun q => (firstMet g i).any fun z => z == q
def cntV (g : Nat → Int) (i : Nat) : Nat := (firstMet g i).length
abbrev nuS (w : World) : Obj := { cls := .type "set", dict := none, data := .set #[] 0 (.fresh 0 0 (!w.params.followText "set-order")) }
end
end Mi

/-! sorted(set(..)) and len(set(..)) of a list of ints. -/
namespace Mi
open PySem PySem.Spec PyProof.Rows L2 Evl
def insD (x : Int) : List Int → List Int
  | [] => [x]
  | y :: l => if x < y then x :: y :: l else if x = y then y :: l else y :: insD x l
def sdI : List Int → List Int
  | [] => []
  | x :: l => insD x (sdI l)
section
variable {X : Cx}
def rSetI (K : PySem.W.Frag) (w : World) : List V → Hp → VK → Prop := fun xs H Q => ∃ (p : Addr) (ns : List Int), xs = [.ref p] ∧ SqL K H p (ns.map V.int) ∧ ns.length < 1000 ∧ ∀ a, H a = none → Q (.ref a) (upd H a (SetO w a (fun k => decide (k ∈ ns)) (sdI ns).length))
def rLenS (w : World) : List V → Hp → VK → Prop := fun xs H Q => ∃ (a : Addr) (S : Int → Bool) (n : Nat), xs = [.ref a] ∧ H a = some (SetO w a S n) ∧ n < 1000 ∧ Q (.int (n : Int)) H
end

/-! ### the meanings -/
def setA (ma : ME) : Sto → Option (List Int × Sto) := fun s => (ma s).bind fun a => (look a.2 a.1).bind fun x => (D.seqL x).bind fun ds => (asI ds).bind fun ns => if ns.length < 64 then some (sdI ns, a.2) else none
def mSortSet (ma : ME) : MF := fun s => (setA ma s).bind fun r => some (iL r.1, r.2)
def mLenSet (ma : ME) : ME := fun s => (setA ma s).bind fun r => some (.dat (.int (r.1.length : Int)), r.2)
section
variable {K : PySem.W.Frag} {w : World} {te : TE} {me : ME}
end
section
variable {X : Cx} {e : Expr} {te : TE} {me : ME} {p p2 pos pos2 : Pos}
end
/-! walked -/
end Mi

/-! xs.pop() of an own list. -/
namespace Mi
open PySem PySem.Spec PyProof.Rows L2 Evl
def mPop (j : Nat) : ME := fun s => match s[j]? with
  | some (.own ds) => ds.getLast?.bind fun d => some (.dat d, s.set j (.own ds.dropLast))
  | _ => none
end Mi

/-! Defs that end with `return x`, x a list of their own: the caller owns what it gets. -/
namespace Mi
open PySem PySem.Spec PyProof.Rows L2 Evl
/-- the list that is returned: what of it the caller may rely on -/
structure GotL (K : PySem.W.Frag) (f : Fr) (H Hb : Hp) (p : Addr) (ds : List D) : Prop where
  h0 : Hb p = none
  h1 : f.P p = none
  h2 : f.os ≠ some p
  h3 : ∃ vs, H p = some (.lst vs) ∧ RepL K Hb vs ds
def SndSF (K : PySem.W.Frag) (ts : TS) (mp : MS) (j : Nat) : Prop := ∀ f σ H s Hb s' ds, Rw K f σ H s Hb → mp s = some (.nx, s') → s'[j]? = some (.own ds) → ∀ E : Ends,
  (∀ p σ' s2 H' Hb', Ex Hb Hb' → Rw K f σ' H' s2 Hb' → GotL K f H' Hb' p ds → E.rt (.ref p) H') → ts E σ H
structure PXBF (X : Cx) (body : List Stmt) (ts : TS) (mp : MS) (j : Nat) : Prop where
  pe : PSs X body ts
  sn : SndSF X.K ts mp j
section
variable {K : PySem.W.Frag} {t1 t2 : TS} {m1 m2 : MS} {j : Nat}
end
section
variable {X : Cx} {st : Stmt} {rest : List Stmt} {t1 t2 : TS} {m1 m2 : MS} {j : Nat}
end
/-- what such a def promises -/
def fnF (N n : Nat) (mp : MS) (j : Nat) : List SV → Option (List D) := fun ps => if ps.length = n then (mp (ps ++ List.replicate (N - n) .un)).bind fun r => match r.1, r.2[j]? with
  | .nx, some (.own ds) => some ds
  | _, _ => none
  else none
def spF (K : PySem.W.Frag) (m : List SV → Option (List D)) : Sp := fun vs H Q _ => ∃ (Hb : Hp) (ps : List SV) (ds : List D), Ex Hb H ∧ ArgsOk K H Hb none vs ps ∧ m ps = some ds ∧
  ∀ p H' Hb', PostM K H Hb none none H' Hb' → Hb' p = none → H p = none → (∃ ws, H' p = some (.lst ws) ∧ RepL K Hb' ws ds) → Q (.ref p) H'
section
variable {K : PySem.W.Frag}
/-- the call, as a new list -/
def mCallF (m : List SV → Option (List D)) (ma : MA) : MF := fun s => (ma s).bind fun a => (cArgs none 0 a.1 a.2).bind fun c => (m c.1).bind fun ds => some (ds, c.2)
end
section
variable {P : Program} {w : World} {K : PySem.W.Frag} {mg : Str → Option Value} {base : Heap}
end
/-! walked -/
/-- a def's end -/
def OMF (x : Option (List D)) (Q : List D → Prop) : Prop := ∃ ds, x = some ds ∧ Q ds
end Mi

/-! a, b, c = x, y, z with plain local names. -/
namespace Mi
open PySem PySem.Spec PyProof.Rows L2 Evl
def mPar3 (i j l : Nat) (ma : MA) : MS := fun s => (ma s).bind fun a => (frzs a.2 a.1).bind fun q => match q.1 with
  | [x, y, z] => some (.nx, ((q.2.set i (.dat x)).set j (.dat y)).set l (.dat z))
  | _ => none
end Mi

/-! xs.extend(t) of an own list, where t is a tuple. -/
namespace PySem.AutoSeq1
end PySem.AutoSeq1
namespace Mi
open PySem PySem.Spec PyProof.Rows L2 Evl
def rExtendT (K : PySem.W.Frag) : V → List V → Hp → VK → Prop := fun x vs H Q => ∃ l b xs zs, x = .ref l ∧ vs = [.ref b] ∧ H l = some (.lst xs) ∧ SqT K H b zs ∧ xs.length + zs.length ≤ sizeLine ∧ Q .non (upd H l (.lst (xs ++ zs)))
def mExtT (j : Nat) (me : ME) : MS := fun s => (lsAt s j).bind fun _ => (me s).bind fun a => (look a.2 a.1).bind fun d => match d with
  | .tup es => (lsAt a.2 j).bind fun ds => if ds.length + es.length ≤ 16000000 then (putAt a.2 j (ds ++ es)).bind fun s' => some (.nx, s') else none
  | _ => none
end Mi

/-! x is True, x is not True (or False), where x is a truth value. -/
namespace Mi
open PySem PySem.Spec PyProof.Rows L2 Evl
def rIsB : R2 := fun x y H Q => ∃ b c, x = .bl b ∧ y = .bl c ∧ Q (.bl (b == c)) H
def rIsnB : R2 := fun x y H Q => ∃ b c, x = .bl b ∧ y = .bl c ∧ Q (.bl (!(b == c))) H
theorem op_isB {X : Cx} : OpR X (compareOp .Is) rIsB := by
  refine keepG ?_ ?_
  intro pins s σ H x y v u Q I rx ry h
  obtain ⟨b, c, rfl, rfl, q⟩ := h
  cases (show v = Value.bool b from rx)
  cases (show u = Value.bool c from ry)
  cases b <;> cases c
  · exact wpAny_is_self rfl ⟨.bl true, H, I, rfl, q⟩
  · exact wpAny_is_other rfl (fun z => nomatch z) ⟨.bl false, H, I, rfl, q⟩
  · exact wpAny_is_other rfl (fun z => nomatch z) ⟨.bl false, H, I, rfl, q⟩
  · exact wpAny_is_self rfl ⟨.bl true, H, I, rfl, q⟩
  walk_at "zz"
theorem op_isnB {X : Cx} : OpR X (compareOp .IsNot) rIsnB := by
  refine keepG ?_ ?_
  intro pins s σ H x y v u Q I rx ry h
  obtain ⟨b, c, rfl, rfl, q⟩ := h
  cases (show v = Value.bool b from rx)
  cases (show u = Value.bool c from ry)
  cases b <;> cases c
  · exact wpAny_isNot_self rfl ⟨.bl false, H, I, rfl, q⟩
  · exact wpAny_isNot_other rfl (fun z => nomatch z) ⟨.bl true, H, I, rfl, q⟩
  · exact wpAny_isNot_other rfl (fun z => nomatch z) ⟨.bl true, H, I, rfl, q⟩
  · exact wpAny_isNot_self rfl ⟨.bl false, H, I, rfl, q⟩
  walk_at "zz"
def isBD (x y : D) : Option D := match x, y with
  | .bl b, .bl c => some (.bl (b == c))
  | _, _ => none
def isnBD (x y : D) : Option D := match x, y with
  | .bl b, .bl c => some (.bl (!(b == c)))
  | _, _ => none
section
variable {K : PySem.W.Frag}
theorem r_isB : SndR K rIsB isBD := by
  refine keepG ?_ ?_
  intro H Hb v w x y z e rx ry hz Q q1 _
  cases x with
  | bl b =>
    cases y with
    | bl c => cases hz; exact ⟨b, c, rx.bl, ry.bl, q1 _ (.bl _)⟩
    | _ => cases hz
  | _ => cases hz
  walk_at "zz"
theorem r_isnB : SndR K rIsnB isnBD := by
  refine keepG ?_ ?_
  intro H Hb v w x y z e rx ry hz Q q1 _
  cases x with
  | bl b =>
    cases y with
    | bl c => cases hz; exact ⟨b, c, rx.bl, ry.bl, q1 _ (.bl _)⟩
    | _ => cases hz
  | _ => cases hz
  walk_at "zz"
end
theorem od_isB {b c : Bool} {P : D → Prop} (p : P (.bl (b == c))) : OD (isBD (.bl b) (.bl c)) P := ⟨_, rfl, p⟩
theorem od_isnB {b c : Bool} {P : D → Prop} (p : P (.bl (!(b == c)))) : OD (isnBD (.bl b) (.bl c)) P := ⟨_, rfl, p⟩
end Mi

/-! zip(*x) where x holds one thing: its tuples may be held. -/
namespace PySem
open Builtin
abbrev IsTupOf1 (h : Heap) (T : Addr) (a1 : Value) : Prop := h.get? T = some { cls := .type "tuple", data := .seq #[a1] }
abbrev IsZipAt (h : Heap) (z TI TO : Addr) (v : Value) (f : Bool) : Prop :=
  h.get? z = some { cls := .type "zip", dict := none, data := .fields #[v, .bool f, .bool false, .ref TI, .ref TO], slots := #[] }
/-- the cells of a zip over one iterator lie apart -/
structure ZipSep1 (z TI TO i1 : Addr) (fp1 : List Addr) : Prop where
  TIz : TI ≠ z
  TOz : TO ≠ z
  TITO : TI ≠ TO
  TIi1 : TI ≠ i1
  mem1 : i1 ∈ fp1
  zf1 : z ∉ fp1
  Tf1 : TO ∉ fp1
/-- what a zip keeps of the tuple that it gave last -/
def ZLast (v : Value) : Prop := v = .none ∨ ∃ T : Addr, v = rawInt T
section
variable {prog : Program} {w : World} {A : Around} {E : Value → Shared → Prop} {s : Shared} {z TI TO i1 : Addr} {fp1 : List Addr} {n1 i : Nat} {P1 : Nat → Value → Prop} {St1 : Nat → Heap → Prop} {v a1 : Value} {f : Bool}
/-! zip(v) begins -/
abbrev gzT1 (h : Heap) (o1 : Obj) : Heap := (h.push o1).push { cls := .type "tuple", data := .seq #[.ref h.objs.size] }
abbrev gzO1 (h : Heap) (o1 : Obj) : Heap := (gzT1 h o1).push { cls := .type "tuple", data := .seq #[.none] }
abbrev gzZ1 (h : Heap) (o1 : Obj) : Heap := (gzO1 h o1).push { cls := .type "zip", data := .fields #[.none, .bool false, .bool false, .ref (h.push o1).objs.size, .ref (gzT1 h o1).objs.size] }
end
end PySem
namespace Mi
open PySem PySem.Spec PyProof.Rows L2 Evl RZ
def ItzS (K : PySem.W.Frag) (t : Bool) (a : Addr) (n : Nat) : It :=
  ⟨fun i H => ∃ (xs : List V) (x : V), SqA K t H a xs ∧ xs.length = n ∧ xs[i]? = some x,
    fun i H v H' => ∃ T x, v = .ref T ∧ H T = none ∧ H' = upd H T (.tup [x]) ∧ (∀ xs, SqA K t H a xs → xs[i]? = some x),
    fun i H => ∃ xs : List V, SqA K t H a xs ∧ xs.length = n ∧ n ≤ i⟩
def iZipS (K : PySem.W.Frag) (te : TE) : TI := fun σ H R => te σ H fun x H1 => ∃ t l b a xs, x = .ref l ∧ SqA K t H1 l [.ref a] ∧ SqA K b H1 a xs ∧ R (ItzS K b a xs.length) H1
/-- the rows of zip(*x), where x holds one row -/
def zS (x : D) : Option (List D) := match x.seq with
  | some [d] => d.seq.bind fun ds => some (ds.map fun e => .tup [e])
  | _ => none
def iZS (me : ME) : MI := fun s => (me s).bind fun a => (frz a.2 a.1).bind fun q => (zS q.1).bind fun ds => some (ds, q.2)
section
variable {K : PySem.W.Frag}
end
end Mi
namespace Mi
open PySem PySem.Spec PyProof.Rows L2 Evl
/-! min and max of a tuple of one integer -/
def rOne (K : PySem.W.Frag) : List V → Hp → VK → Prop := fun vs H Q => ∃ (a : Addr) (i : Int), vs = [V.ref a] ∧ SqT K H a [V.int i] ∧ Q (.int i) H
def oneD : List D → Option D
  | [.tup [.int i]] => some (.int i)
  | _ => none
end Mi

/-! sum(rows, []) of a list of lists. -/
namespace PySem
open Sem (wp)
/-- k of the lists from the i-th on, one behind the other -/
def catA (Ls : Nat → Array Value) : Nat → Nat → Array Value
  | _, 0 => #[]
  | i, k + 1 => Ls i ++ catA Ls (i + 1) k
section
variable {prog : Program} {w : World} {A : Around} {R : Result → Shared → Prop} {I : Addr} {fp wr : List Addr} {G : Array GenState → Array GenState → Prop} {n : Nat} {P : Nat → Value → Prop} {St : Nat → Shared → Prop}
end
section
variable {prog : Program} {w : World} {A : Around} {E : Value → Shared → Prop} {s : Shared}
end
end PySem
namespace Mi
open PySem PySem.Spec PyProof.Rows L2 Evl
def rSumL (K : PySem.W.Frag) : List V → Hp → VK → Prop := fun vs H Q => ∃ (l p0 : Addr) (rows : List (Addr × List V)), vs = [V.ref l, V.ref p0] ∧ H p0 = some (.lst []) ∧ SqL K H l (rows.map fun r => V.ref r.1) ∧ (∀ r ∈ rows, H r.1 = some (.lst r.2)) ∧
  (rows.flatMap fun r => r.2).length ≤ sizeLine ∧ (rows = [] → Q (.ref p0) H) ∧ (rows ≠ [] → ∀ p, H p = none → Q (.ref p) (upd H p (.lst (rows.flatMap fun r => r.2))))
/-- the rows of a list of lists, one behind the other -/
def rowsD : List D → Option (List D)
  | [] => some []
  | .lst a :: r => (rowsD r).bind fun z => some (a ++ z)
  | _ => none
def mSumL (ma : MA) : ME := fun s => (ma s).bind fun a => match a.1 with
  | [x, .dat (.lst [])] => (look a.2 x).bind fun d => match d with
    | .lst rs => (rowsD rs).bind fun z => if z.length ≤ 1000000 then some (.dat (.lst z), a.2) else none
    | _ => none
  | _ => none
section
variable {K : PySem.W.Frag}
end
end Mi

/-! == and != of lists whose items hold instances with an own __eq__. -/
namespace GQ
open PySem PySem.SeqAt
open AutoSeq1 (wpAny_loadPart')
open MeetsSeq MeetsSeq2 MeetsSeq3 SeqRoads2
section
variable {prog : Program} {w : World} {A : Around} {R : Result → Shared → Prop}
end
section
variable {prog : Program} {w : World} {A : Around} {E : Value → Shared → Prop} {s : Shared}
end
end GQ
namespace Mi
open PySem PySem.Spec PyProof.Rows L2 Evl
/-- == is True (neg: != is False) -/
def RcH (X : Cx) (neg : Bool) (n : Nat) (D : Eqv) : Prop :=
  ∀ (A : Around) (pins : List (Addr × Obj)) (s : Shared) (σ : L2.St) (H : Hp) (x y : V) (u v : Value), Sub X n A → Inv X pins σ H s → RelV x u → RelV y v → D x y H →
    wpAny (model X.prog X.w) A (richCompare (if neg then .NotEq else .Eq) u v) (fun r s' => r = .bool (!neg) ∧ ∃ H', Inv X pins σ H' s' ∧ Ext H H') X.xe s
section
variable {X : Cx} {n : Nat} {D : Eqv}
/-- up to n levels of lists and tuples above -/
def GrD (K : PySem.W.Frag) (B : Eqv) : Nat → Eqv
  | 0 => B
  | n + 1 => fun x y H => (GrD K B n x y H ∨ DList (GrD K B n) x y H) ∨ DTup K (GrD K B n) x y H
end
/-- what the own == says of a thing and itself -/
def okI (c : Nat) (m : Mf) : D → Bool
  | .ins c' ds => decide (c' = c) && match m [.dat (.ins c' ds), .dat (.ins c' ds)] with
    | some (.bl true, _) => true
    | _ => false
  | .non => true
  | .bl _ => true
  | .int _ => true
  | .str _ => true
  | _ => false
def okS (c : Nat) (m : Mf) : Nat → D → Bool
  | 0, d => okI c m d
  | k + 1, d => match d with
    | .tup ds => ds.all (okS c m k)
    | .lst ds => ds.all (okS c m k)
    | d => okI c m d
def RI (K : PySem.W.Frag) (c : Nat) (m : Mf) (a b : Addr) (H : Hp) : Prop := ∃ Hb ds fin, Ex Hb H ∧ Rep K Hb (.ref a) (.ins c ds) ∧ Rep K Hb (.ref b) (.ins c ds) ∧ m [.dat (.ins c ds), .dat (.ins c ds)] = some (.bl true, fin)
section
variable {K : PySem.W.Frag} {H Hb : Hp}
def BaS (K : PySem.W.Frag) (c : Nat) (C : Addr) (m : Mf) : Eqv := fun x y H => DFlat x y H ∨ DIns C (RI K c m) x y H
end
/-- == (neg: !=) of two lists -/
def rEqW (neg : Bool) (D : Eqv) : R2 := fun x y H Q => (D x y H ∧ ∀ H', Ext H H' → Q (.bl (!neg)) H') ∨ ∃ a b xs ys, x = .ref a ∧ y = .ref b ∧ H a = some (.lst xs) ∧ H b = some (.lst ys) ∧ xs.length ≠ ys.length ∧ Q (.bl neg) H
mutual
def sameD : D → D → Bool
  | .non, .non => true
  | .bl a, .bl b => decide (a = b)
  | .int a, .int b => decide (a = b)
  | .str a, .str b => decide (a = b)
  | .tup a, .tup b => samesD a b
  | .lst a, .lst b => samesD a b
  | .fro a, .fro b => samesD a b
  | .ins c a, .ins d b => decide (c = d) && samesD a b
  | _, _ => false
def samesD : List D → List D → Bool
  | [], [] => true
  | a :: as, b :: bs => sameD a b && samesD as bs
  | _, _ => false
end
mutual
theorem same_eq : ∀ {a b : D}, sameD a b = true → a = b
  | .non, b, h => by cases b <;> simp_all [sameD]
  | .bl a, b, h => by cases b <;> simp_all [sameD]
  | .int a, b, h => by cases b <;> simp_all [sameD]
  | .str a, b, h => by cases b <;> simp_all [sameD]
  | .tup a, b, h => by cases b <;> simp_all [sameD] <;> exact sames_eq h
  | .lst a, b, h => by cases b <;> simp_all [sameD] <;> exact sames_eq h
  | .fro a, b, h => by cases b <;> simp_all [sameD] <;> exact sames_eq h
  | .ins c a, b, h => by cases b <;> simp_all [sameD] <;> exact sames_eq h.2
theorem sames_eq : ∀ {a b : List D}, samesD a b = true → a = b
  | [], b, h => by cases b <;> simp_all [samesD]
  | a :: as, b, h => by
    cases b with
    | nil => simp [samesD] at h
    | cons b bs =>
      simp only [samesD, Bool.and_eq_true] at h
      rw [same_eq h.1, sames_eq h.2]
end
mutual
theorem same_rf : ∀ a : D, sameD a a = true
  | .non => rfl
  | .bl a => by simp [sameD]
  | .int a => by simp [sameD]
  | .str a => by simp [sameD]
  | .tup a => sames_rf a
  | .lst a => sames_rf a
  | .fro a => sames_rf a
  | .ins c a => by simp [sameD, sames_rf a]
theorem sames_rf : ∀ a : List D, samesD a a = true
  | [] => rfl
  | a :: as => by simp [samesD, same_rf a, sames_rf as]
end
def eqW (neg : Bool) (c : Nat) (m : Mf) (k : Nat) : D → D → Option D := fun x y => match x, y with
  | .lst as, .lst bs => if as.length ≠ bs.length then some (.bl neg) else if as.all (okS c m k) = true ∧ samesD as bs = true then some (.bl (!neg)) else none
  | _, _ => none
/-- the operands as data, ahead -/
def mEqW (neg : Bool) (c : Nat) (m : Mf) (k : Nat) (ma mb : ME) : ME := fun s => (ma s).bind fun a => (mb a.2).bind fun b => (frz b.2 a.1).bind fun x => (frz x.2 b.1).bind fun y => (eqW neg c m k x.1 y.1).bind fun z => some (.dat z, y.2)
section
variable {P : Program} {w : World} {K : PySem.W.Frag} {mg : Str → Option Value} {base : Heap}
end
/-! walked -/
end Mi

namespace Mi
open PySem PySem.Spec PyProof.Rows L2 Evl
section
variable {X : Cx} {i o : Expr} {ti : TE} {mi : ME} {pos : Pos}
end
end Mi

/-! Dicts of a def's own whose keys are tuples of three ints. -/
namespace Mi
open PySem PySem.Spec PyProof.Rows L2 Evl
def isIV : Value → Bool
  | .int _ _ => true
  | _ => false
/-- no constant of the module is a tuple of three ints -/
def noSt (K : PySem.W.Frag) : Bool := K.all fun p => match p.2.data with
  | .seq its _ => !(its.toList.length == 3 && its.toList.all isIV)
  | _ => true
def keyT : D → Option (List Key)
  | .tup [.int a, .int b, .int c] => some [.inl a, .inl b, .inl c]
  | _ => none
def txAt (s : Sto) (j : Nat) : Option (List (List Key × D)) := match s[j]? with
  | some (.box (.dct es)) => some es
  | _ => none
def getT : List (List Key × D) → List Key → Option D
  | [], _ => none
  | (k, d) :: r, q => if k = q then some d else getT r q
def putT (es : List (List Key × D)) (k : List Key) (d : D) : List (List Key × D) := if (es.any fun e => decide (e.1 = k)) = true then es.map (fun e => if e.1 = k then (e.1, d) else e) else es ++ [(k, d)]
section
variable {K : PySem.W.Frag} {f : Fr} {σ : L2.St} {H H' Hb Hb' : Hp} {s s' : Sto}
end
/-! readings and meanings -/
def mTNew (j : Nat) : MS := fun s => some (.nx, s.set j (.box (.dct [])))
def mTGet (j : Nat) (mi : ME) : ME := fun s => (txAt s j).bind fun _ => (mi s).bind fun b => (look b.2 b.1).bind fun y => (keyT y).bind fun k => (txAt b.2 j).bind fun es => (getT es k).bind fun d => some (.dat d, b.2)
def mTGet2 (j : Nat) (mi mx : ME) : ME := fun s => (txAt s j).bind fun _ => (mi s).bind fun b => (mx b.2).bind fun c => (look c.2 b.1).bind fun y => (keyT y).bind fun k => (txAt c.2 j).bind fun es => some (match getT es k with | some d => .dat d | none => c.1, c.2)
def mTIn (neg : Bool) (mi : ME) (j : Nat) : ME := fun s => (mi s).bind fun b => (look b.2 b.1).bind fun y => (keyT y).bind fun k => (txAt b.2 j).bind fun es => some (.dat (.bl (if neg then !(getT es k).isSome else (getT es k).isSome)), b.2)
def mTPut (j : Nat) (mi mv : ME) : MS := fun s => (mv s).bind fun a => (frz a.2 a.1).bind fun q => (txAt q.2 j).bind fun _ => (mi q.2).bind fun b => (look b.2 b.1).bind fun y => (keyT y).bind fun k => (txAt b.2 j).bind fun es => if es.length < 16000000 then some (.nx, b.2.set j (.box (.dct (putT es k q.1)))) else none
section
variable {K : PySem.W.Frag}
end
/-! the rules -/
section
variable {X : Cx} {T : Wsh} {o i e value : Expr} {pos pos' tpos : Pos} {ti tv tx : TE} {mi mv mx : ME}
end
end Mi

/-! sorted(..) of a dict with tuples as keys; such a dict that a def returns. -/
namespace Mi
open PySem PySem.Spec PyProof.Rows L2 Evl
def tpK (l : List Int) : List Key := l.map Sum.inl
def rSortT : List V → Hp → VK → Prop := fun xs H Q => ∃ (a : Addr) (kvs : List (List Key × V)) (ks : List (List Int)), xs = [.ref a] ∧ Rd H a (.dT kvs) ∧ kvs.map (·.1) = ks.map tpK ∧ (∀ k ∈ ks, k ≠ []) ∧
  ∀ (bs : List Addr) (p : Addr), Paired (fun (k : List Int) (b : Addr) => H b = some (.tup (k.map V.int))) (ks.mergeSort leL) bs → H p = none → Q (.ref p) (upd H p (.lst (bs.map V.ref)))
def encT (b : List Int × Addr) : PyData := (D.tup (iL b.1)).py
section
variable {K : PySem.W.Frag} {f : Fr} {σ : L2.St} {H H' Hb Hb' : Hp} {s s' : Sto}
end
/-- the keys as rows of ints -/
def keysP : List (List Key × D) → Option (List (List Int))
  | [] => some []
  | ([.inl a, .inl b, .inl c], _) :: r => (keysP r).bind fun l => some ([a, b, c] :: l)
  | _ => none
/-- sorted(d), d a dict of the slot j -/
def mTKeysS (j : Nat) : MF := fun s => (txAt s j).bind fun es => (keysP es).bind fun ks => some ((ks.mergeSort leL).map fun k => .tup (iL k), s)
section
variable {K : PySem.W.Frag}
/-! a dict that a def returns -/
structure GotT (K : PySem.W.Frag) (f : Fr) (H Hb : Hp) (p : Addr) (es : List (List Key × D)) : Prop where
  h0 : Hb p = none
  h1 : f.P p = none
  h2 : f.os ≠ some p
  h3 : ∃ kvs, H p = some (.dT kvs) ∧ RepP K Hb kvs es
def SndST (K : PySem.W.Frag) (ts : TS) (mp : MS) (j : Nat) : Prop := ∀ f σ H s Hb s' es, Rw K f σ H s Hb → mp s = some (.nx, s') → s'[j]? = some (.box (.dct es)) → ∀ E : Ends,
  (∀ p σ' s2 H' Hb', Ex Hb Hb' → Rw K f σ' H' s2 Hb' → GotT K f H' Hb' p es → E.rt (.ref p) H') → ts E σ H
structure PXBT (X : Cx) (body : List Stmt) (ts : TS) (mp : MS) (j : Nat) : Prop where
  pe : PSs X body ts
  sn : SndST X.K ts mp j
end
section
variable {X : Cx} {st : Stmt} {rest : List Stmt} {t1 t2 : TS} {m1 m2 : MS} {j : Nat}
end
def fnT (N n : Nat) (mp : MS) (j : Nat) : List SV → Option (List (List Key × D)) := fun ps => if ps.length = n then (mp (ps ++ List.replicate (N - n) .un)).bind fun r => match r.1, r.2[j]? with
  | .nx, some (.box (.dct es)) => some es
  | _, _ => none
  else none
def spT (K : PySem.W.Frag) (m : List SV → Option (List (List Key × D))) : Sp := fun vs H Q _ => ∃ (Hb : Hp) (ps : List SV) (es : List (List Key × D)), Ex Hb H ∧ ArgsOk K H Hb none vs ps ∧ m ps = some es ∧
  ∀ p H' Hb', PostM K H Hb none none H' Hb' → Hb' p = none → H p = none → (∃ kvs, H' p = some (.dT kvs) ∧ RepP K Hb' kvs es) → Q (.ref p) H'
section
variable {K : PySem.W.Frag}
/-- d = f(..): the caller's own dict -/
def mSetT (m : List SV → Option (List (List Key × D))) (ma : MA) (i : Nat) : MS := fun s => (ma s).bind fun a => (cArgs none 0 a.1 a.2).bind fun c => (m c.1).bind fun es => some (.nx, c.2.set i (.box (.dct es)))
end
section
variable {P : Program} {w : World} {K : PySem.W.Frag} {mg : Str → Option Value} {base : Heap}
end
/-! walked -/
def dP (es : List (List Int × D)) : List (List Key × D) := es.map fun p => (tpK p.1, p.2)
def getP : List (List Int × D) → List Int → Option D
  | [], _ => none
  | (k, d) :: r, q => if k = q then some d else getP r q
def putP (es : List (List Int × D)) (k : List Int) (d : D) : List (List Int × D) := if (es.any fun e => decide (e.1 = k)) = true then es.map (fun e => if e.1 = k then (e.1, d) else e) else es ++ [(k, d)]
section
variable {s s1 : Sto} {j : Nat} {P : Bv → Sto → Prop} {mi mx mv : ME} {es : List (List Int × D)}
def TGt (s : Sto) (j : Nat) (y : D) (A : D → Prop) : Prop := ∃ k es d, keyT y = some k ∧ s[j]? = some (.box (.dct es)) ∧ getT es k = some d ∧ A d
def TGo (s : Sto) (j : Nat) (y : D) (A : Option D → Prop) : Prop := ∃ k es, keyT y = some k ∧ s[j]? = some (.box (.dct es)) ∧ A (getT es k)
def TPt (s : Sto) (j : Nat) (y d : D) (A : Sto → Prop) : Prop := ∃ k es s', keyT y = some k ∧ s[j]? = some (.box (.dct es)) ∧ es.length < 16000000 ∧ SetTo s j (.box (.dct (putT es k d))) s' ∧ A s'
def HasT (s : Sto) (j : Nat) (A : Prop) : Prop := (∃ es, s[j]? = some (.box (.dct es))) ∧ A
def OMT (x : Option (List (List Key × D))) (Q : List (List Key × D) → Prop) : Prop := ∃ ds, x = some ds ∧ Q ds
end
end Mi

/-! Texts that are walked, tables of the module, a table that a def displays. -/
namespace Mi
open PySem PySem.Spec PyProof.Rows L2 Evl StX
/-! ### a dict of the module with texts as keys -/
def tabD (tab : List (Str × D)) (y : D) : Option D := match y with
  | .str x => tab.lookup x
  | _ => none
def mTab (tab : List (Str × D)) (mi : ME) : ME := fun s => (mi s).bind fun b => (look b.2 b.1).bind fun y => (tabD tab y).bind fun d => some (.dat d, b.2)
def TabOk (K : PySem.W.Frag) (w : World) (a : Addr) (tab : List (Str × D)) : Prop := ∀ x d, tab.lookup x = some d → ∃ v, KDct K w a x v ∧ ∀ Hb : Hp, Rep K Hb v d
theorem tabD_of {tab : List (Str × D)} {y d : D} (h : tabD tab y = some d) : ∃ x, y = .str x ∧ tab.lookup x = some d := by
  refine keepG ?_ ?_
  unfold tabD at h
  cases y with
  | str x => exact ⟨x, rfl, h⟩
  | _ => cases h
  walk_at "zz"
theorem RepC.str {K : PySem.W.Frag} {H Hb : Hp} {v : V} {x : Str} (h : RepC K H Hb v (.str x)) : v = .str x := by
  refine keepG ?_ ?_
  rcases h with h | ⟨l, vs, es, rfl, q, h1, h2⟩
  · cases h; rfl
  · cases q
  walk_at "zz"
section
variable {K : PySem.W.Frag}
theorem snd_tab {w : World} {a : Addr} {tab : List (Str × D)} {ti : TE} {mi : ME} (ht : TabOk K w a tab) (hi : SndE K ti mi) : SndE K (tOp (rIxD K w) (tC (.ref a)) ti) (mTab tab mi) := by
  refine keepG ?_ ?_
  intro f σ H s Hb b s' R h Q q
  obtain ⟨b1, h1, h⟩ := bnd h
  obtain ⟨y, h2, h⟩ := bnd h
  obtain ⟨d, h3, h⟩ := bnd h
  cases h
  refine hi f σ H s Hb _ _ R h1 _ fun v H1 Hb1 e1 R1 r1 => ?_
  obtain ⟨x, rfl, hl⟩ := tabD_of h3
  have hv := (look_ok R1 r1 h2).str
  subst hv
  obtain ⟨v', k1, k2⟩ := ht x d hl
  exact ⟨a, x, v', rfl, rfl, k1, q _ _ _ e1 R1 (k2 Hb1)⟩
  walk_at "zz"
/-! ### a def that displays such a table -/
def kvsC (tab : List (Str × Str)) : List (Key × V) := tab.map fun p => (Sum.inr p.1, V.str p.2)
def tabC (tab : List (Str × Str)) : List (Str × D) := tab.map fun p => (p.1, D.str p.2)
def spB (tab : List (Str × Str)) : Sp := fun vs H Q _ => vs = [] ∧ ∀ p, H p = none → Q (.ref p) (upd H p (.dK (kvsC tab)))
def trsC (tab : List (Str × Str)) : List (TE × TE) := tab.map fun p => (tC (.str p.1), tC (.str p.2))
theorem tPairs_C {σ : L2.St} {H : Hp} : ∀ {tab : List (Str × Str)} {Q : List (V × V) → Hp → Prop}, Q (tab.map fun p => (V.str p.1, V.str p.2)) H → tPairs (trsC tab) σ H Q
  | [], _, q => q
  | p :: r, Q, q => tPairs_C (tab := r) (Q := fun ps H3 => Q ((V.str p.1, V.str p.2) :: ps) H3) q
theorem disp_C {tab : List (Str × Str)} (hn : (tab.map (·.1)).Nodup) (hl : tab.length ≤ 15) {σ : L2.St} {H : Hp} {Q : VK} (q : ∀ p, H p = none → Q (.ref p) (upd H p (.dK (kvsC tab)))) : tDisp (trsC tab) σ H Q := by
  refine keepG ?_ ?_
  intro p hp
  refine tPairs_C ⟨upd_same, kvsC tab, ?_, by unfold kvsC; rw [List.length_map]; exact hl, ?_⟩
  · unfold kvsC
    rw [List.map_map]
    rfl
  · rw [show mergeK [] (kvsC tab) = kvsC tab from merge_all (kvsC tab) [] (by
      rw [List.nil_append]
      unfold kvsC
      rw [List.map_map]
      rw [show (tab.map (Prod.fst ∘ fun p : Str × Str => ((Sum.inr p.1 : Key), V.str p.2))) = (tab.map (·.1)).map Sum.inr by rw [List.map_map]; rfl]
      exact List.pairwise_map.mpr (List.Pairwise.imp (fun h z => h (Sum.inr.inj z)) hn)), upd_upd]
    exact q p hp
  walk_at "zz"
theorem kvsC_get {Hb : Hp} : ∀ {tab : List (Str × Str)} {x : Str} {d : D}, (tabC tab).lookup x = some d → ∃ v, valV (kvsC tab) (Sum.inr x) = some v ∧ Rep K Hb v d
  | [], _, _, h => by cases h
  | (k, y) :: r, x, d, h => by
    have h : List.lookup x ((k, D.str y) :: tabC r) = some d := h
    rw [List.lookup_cons] at h
    cases e : x == k with
    | true =>
      rw [e] at h
      cases h
      exact ⟨.str y, valV_pos (by rw [eq_of_beq e]), .str y⟩
    | false =>
      rw [e] at h
      obtain ⟨v, h1, h2⟩ := kvsC_get (tab := r) h
      exact ⟨v, by rw [show kvsC ((k, y) :: r) = (Sum.inr k, V.str y) :: kvsC r from rfl, valV_neg (fun z => by rw [Sum.inr.inj z] at e; simp at e)]; exact h1, h2⟩
theorem snd_tabB {tab : List (Str × Str)} {ti : TE} {mi : ME} {E : XK} (hi : SndE K ti mi) : SndE K (tDGet (tCall (spB tab) [] E tNil) ti) (mTab (tabC tab) mi) := by
  refine keepG ?_ ?_
  intro f σ H s Hb b s' R h Q q
  obtain ⟨b1, h1, h⟩ := bnd h
  obtain ⟨y, h2, h⟩ := bnd h
  obtain ⟨d, h3, h⟩ := bnd h
  cases h
  obtain ⟨x, rfl, hl⟩ := tabD_of h3
  refine ⟨rfl, fun p hp0 => ?_⟩
  obtain ⟨z0, z1, z2⟩ := R.fresh hp0
  have n5 : ∀ (j : Nat) (sv : SV), s[j]? = some sv → sv.owns = true → σ[j]? ≠ some (some (.ref p)) := fun j sv g o e => by
    obtain ⟨l, ws, q1, _, _, q4⟩ := R.owned g o
    rw [q1] at e
    cases e
    rw [hp0] at q4
    cases q4
  have R0 := R.bumpO (o := .dK (kvsC tab)) z0 z1 z2 n5
  have G0 := R0.guard z0 z1 z2 upd_same n5
  have hB : f.B p = none := fresh_back R.up z0
  refine hi _ σ _ s Hb _ _ G0 h1 _ fun v H1 Hb1 e1 G1 r1 => ?_
  have c3 := (look_ok G1 r1 h2).str
  subst c3
  obtain ⟨R1, m0, m3, m5⟩ := G1.unguard z1 hB
  obtain ⟨v', g1, g2⟩ := kvsC_get (K := K) (Hb := Hb1) hl
  exact ⟨p, v', rfl, .inl ⟨kvsC tab, Sum.inr x, .inl m3, rfl, g1.symm⟩, q _ _ _ e1 R1 g2⟩
  walk_at "zz"
/-! ### texts -/
def txD (x : Str) : List D := x.cps.toList.map fun c => .str ⟨#[c]⟩
def iTxt (ma : ME) : MI := fun s => (ma s).bind fun a => (look a.2 a.1).bind fun y => match y with
  | .str x => some (txD x, a.2)
  | _ => none
theorem it_str (x : Str) (Hb1 : Hp) : ItOk K (Its x) Hb1 (txD x) := by
  refine keepG ?_ ?_
  intro f σ H2 s Hb2 e R i
  refine ⟨fun d hd => ?_, fun hi => ?_⟩
  · unfold txD at hd
    rw [List.getElem?_map] at hd
    obtain ⟨c, hc, rfl⟩ := Option.map_eq_some_iff.mp hd
    rw [Array.getElem?_toList] at hc
    refine ⟨(Array.getElem?_eq_some_iff.mp hc).1, fun y H' z => ?_⟩
    obtain ⟨rfl, c', hc', rfl⟩ := z
    rw [hc] at hc'
    cases hc'
    exact ⟨Hb2, Ex.refl _, R, .str _⟩
  · unfold txD at hi
    rw [List.length_map, Array.length_toList] at hi
    exact hi
  walk_at "zz"
theorem snd_iTxt {te : TE} {me : ME} (he : SndE K te me) : SndI K (iStr te) (iTxt me) := by
  refine keepG ?_ ?_
  intro f σ H s Hb items s' R h Rk q
  obtain ⟨a, h1, h⟩ := bnd h
  obtain ⟨y, h2, h⟩ := bnd h
  cases y with
  | str x =>
    cases h
    refine he f σ H s Hb _ _ R h1 _ fun v H1 Hb1 e1 R1 r1 => ?_
    exact ⟨x, (look_ok R1 r1 h2).str, q _ _ _ e1 R1 (it_str x Hb1)⟩
  | _ => cases h
  walk_at "zz"
/-- x[i] of a text -/
def ixS (x y : D) : Option D := match x, y with
  | .str z, .int i => if z.length ≤ 1000 then (atI z.cps.toList i).map fun c => .str ⟨#[c]⟩ else none
  | _, _ => none
theorem r_ixS : SndR K rIxS ixS := by
  refine keepG ?_ ?_
  intro H Hb v w x y z e rx ry hz Q q1 q2
  unfold ixS at hz
  split at hz
  · rename_i t i
    by_cases hl : t.length ≤ 1000
    · rw [if_pos hl] at hz
      obtain ⟨c, hc, rfl⟩ := Option.map_eq_some_iff.mp hz
      exact ⟨t, i, c, rx.str, ry.int, Nat.le_trans hl (by decide), hc, q1 _ (.str _)⟩
    · rw [if_neg hl] at hz
      cases hz
  · cases hz
  walk_at "zz"
/-- len(x) of a text -/
def lenS (xs : List D) : Option D := match xs with
  | [.str z] => if z.length ≤ 1000 then some (.int z.length) else none
  | _ => none
def rLenT (K : PySem.W.Frag) : List V → Hp → VK → Prop := fun xs H Q => ∃ x n, xs = [x] ∧ LenV K x H n ∧ Q (.int n) H
theorem c_lenS : SndC K (rLenT K) lenS := by
  refine keepG ?_ ?_
  intro H Hb vs xs z e rx hz Q q1 q2
  unfold lenS at hz
  split at hz
  · rename_i t
    obtain ⟨hl, hz⟩ := ite_some hz
    cases hz
    obtain ⟨v, rfl, r⟩ := reps1 rx
    have := r.str
    subst this
    exact ⟨.str t, t.length, rfl, ⟨Nat.le_trans hl (by decide), rfl⟩, q1 _ (.int _)⟩
  · cases hz
  walk_at "zz"
/-- xs.index(x), texts -/
def asSt : List D → Option (List Str)
  | [] => some []
  | .str x :: r => (asSt r).bind fun l => some (x :: l)
  | _ => none
theorem asSt_of {Hb : Hp} : ∀ {ds : List D} {xs : List Str} {vs : List V}, asSt ds = some xs → RepL K Hb vs ds → vs = xs.map V.str
  | [], _, _, h, r => by cases h; cases r; rfl
  | .str x :: r, _, _, h, rr => by
    obtain ⟨l, h1, h⟩ := bnd h
    cases h
    cases rr with
    | cons a t =>
      cases a
      rw [asSt_of h1 t]
      rfl
def idxT : List Str → Str → Option Nat
  | [], _ => none
  | n :: ns, i => if n = i then some 0 else (idxT ns i).map (· + 1)
theorem idxT_at : ∀ {ns : List Str} {i : Str} {k : Nat}, idxT ns i = some k → ns[k]? = some i ∧ ∀ (m : Nat) (z : Str), m < k → ns[m]? = some z → z ≠ i
  | [], _, _, h => by cases h
  | n :: ns, i, k, h => by
    unfold idxT at h
    by_cases e : n = i
    · rw [if_pos e] at h
      cases h
      exact ⟨by rw [e]; rfl, fun m z hm => absurd hm (Nat.not_lt_zero _)⟩
    · rw [if_neg e] at h
      obtain ⟨j, hj, rfl⟩ := Option.map_eq_some_iff.mp h
      obtain ⟨h1, h2⟩ := idxT_at hj
      refine ⟨by rw [List.getElem?_cons_succ]; exact h1, fun m z hm hz => ?_⟩
      cases m with
      | zero => cases hz; exact e
      | succ m => exact h2 m z (by omega) (by rw [List.getElem?_cons_succ] at hz; exact hz)
def mIdxT (mo ma : ME) : ME := fun s => (mo s).bind fun a => (look a.2 a.1).bind fun x0 => (D.seqL x0).bind fun _ => (ma a.2).bind fun b => (look b.2 a.1).bind fun x => (look b.2 b.1).bind fun y => (D.seqL x).bind fun ds => (asSt ds).bind fun ns => match y with
  | .str z => (idxT ns z).bind fun k => some (.dat (.int k), b.2)
  | _ => none
theorem snd_idxT {to ta : TE} {mo ma : ME} (ho : SndE K to mo) (ha : SndE K ta ma) : SndE K (tBM K "list" (rIndex K) to (tCons ta tNil)) (mIdxT mo ma) := by
  refine keepG ?_ ?_
  intro f σ H s Hb b s' R h Q q
  obtain ⟨a, h1, h⟩ := bnd h
  obtain ⟨x0, h2, h⟩ := bnd h
  obtain ⟨ds0, h3, h⟩ := bnd h
  obtain ⟨b1, h4, h⟩ := bnd h
  obtain ⟨x, h5, h⟩ := bnd h
  obtain ⟨y, h6, h⟩ := bnd h
  obtain ⟨ds, h8, h⟩ := bnd h
  obtain ⟨ns, h9, h⟩ := bnd h
  cases y with
  | str z =>
    obtain ⟨k, h10, h⟩ := bnd h
    cases h
    refine ho f σ H s Hb _ _ R h1 _ fun v H1 Hb1 e1 R1 r1 => ?_
    obtain ⟨l, vs, rfl, g1, _⟩ := (look_ok R1 r1 h2).seqL R1.hb h3
    refine ⟨.inl ⟨rfl, _, g1⟩, ?_⟩
    refine ha f σ H1 _ Hb1 _ _ R1 h4 _ fun w H2 Hb2 e2 R2 r2 => ?_
    obtain ⟨l2, ws, el, g3, g4⟩ := (look_ok R2 (r1.up e2) h5).seqL R2.hb h8
    cases el
    rw [asSt_of h9 g4] at g3
    have hw := (look_ok R2 r2 h6).str
    subst hw
    obtain ⟨c1, c2⟩ := idxT_at h10
    refine ⟨l, ns.map V.str, .str z, k, .str z, rfl, rfl, g3, rfl, ?_, by rw [List.getElem?_map, c1]; rfl, by show (z == z) = true; exact beq_self_eq_true z, fun m z' hm hz => ?_, q _ H2 Hb2 (e1.trans e2) R2 (.int _)⟩
    · rw [List.all_map]
      exact List.all_eq_true.mpr fun _ _ => rfl
    · rw [List.getElem?_map] at hz
      obtain ⟨z2, hz1, rfl⟩ := Option.map_eq_some_iff.mp hz
      show (z2 == z) = false
      exact beq_eq_false_iff_ne.mpr (c2 m z2 hm hz1)
  | _ => cases h
  walk_at "zz"
/-- (x, *ys) -/
def mTupSt (me ml : ME) : ME := fun s => (me s).bind fun a => (frz a.2 a.1).bind fun q => (ml q.2).bind fun b => (look b.2 b.1).bind fun y => (D.seq y).bind fun ds => if ds.length < 1000000 then some (.dat (.tup (q.1 :: ds)), b.2) else none
theorem snd_tupSt {te tl : TE} {me ml : ME} (he : SndE K te me) (hl : SndE K tl ml) : SndE K (tTup (tCons te (tStar K tl tNil))) (mTupSt me ml) := by
  refine keepG ?_ ?_
  intro f σ H s Hb b s' R h Q q
  obtain ⟨a, h1, h⟩ := bnd h
  obtain ⟨d, h2, h⟩ := bnd h
  obtain ⟨b1, h3, h⟩ := bnd h
  obtain ⟨y, h4, h⟩ := bnd h
  obtain ⟨ds, h5, h⟩ := bnd h
  obtain ⟨hz, h⟩ := ite_some h
  cases h
  refine he f σ H s Hb _ _ R h1 _ fun v H1 Hb1 e1 R1 r1 => ?_
  obtain ⟨Hb2, e2, R2, r2⟩ := frz_ok R1 r1 h2
  refine hl f σ H1 _ Hb2 _ _ R2 h3 _ fun w H3 Hb3 e3 R3 r3 => ?_
  obtain ⟨p, ws, rfl, g1, g2⟩ := (look_ok R3 r3 h4).seq R3.hb h5
  refine ⟨p, ws, rfl, g1.symm, ?_⟩
  show (v :: (ws ++ [])).length ≤ sizeLine ∧ _
  rw [List.append_nil]
  refine ⟨by rw [List.length_cons, g2.len, sizeLine_eq]; omega, fun p2 hp => ?_⟩
  have n := R3.new (.tup (v :: ws)) hp
  exact q _ _ _ (((e1.trans e2).trans e3).trans n.1) n.2 (.tup (.inl upd_same) ((RepL.cons (Rep.up r2 e3) g2).up n.1))
  walk_at "zz"
/-- x, y = [..], e -/
def mParLP (mf : MF) (me : ME) (i j : Nat) : MS := fun s => (mf s).bind fun a => (me a.2).bind fun b => match b.1 with
  | .dat d => some (.nx, (b.2.set i (.own a.1)).set j (.dat d))
  | _ => none
theorem snd_parLP {T : Wsh} {te tg : TE} {mf : MF} {me : ME} (i j : Nat) (h1 : SndF K te mf) (h2 : SndE K tg me) : SndS K T (tPar i j (tCons te (tCons tg tNil))) (mParLP mf me i j) := by
  refine keepG ?_ ?_
  intro f σ H s Hb o s' R h E q
  obtain ⟨a, g1, h⟩ := bnd h
  obtain ⟨b, g2, h⟩ := bnd h
  obtain ⟨bv, bs⟩ := b
  cases bv with
  | slot j => cases h
  | dat d =>
    cases h
    refine h1 f σ H s Hb _ _ R g1 _ fun p H1 Hb1 e1 R1 n => ?_
    obtain ⟨n0, n1, n2, ⟨vs, n3, n4⟩, n5⟩ := n
    have G1 := R1.guard n0 n1 n2 n3 n5
    refine h2 _ σ H1 _ Hb1 _ _ G1 g2 _ fun v H2 Hb2 e2 G2 r2 => ?_
    have hB : f.B p = none := fresh_back R1.up n0
    obtain ⟨R2, w0, w3, w5⟩ := G2.unguard n1 hB
    exact ⟨_, _, rfl, q _ _ _ (e1.trans e2) ((R2.setOwn i w0 n1 n2 w3 (n4.up e2) w5).set j r2)⟩
  walk_at "zz"
end
/-! the rules -/
section
variable {X : Cx} {K : PySem.W.Frag} {T : Wsh} {a b e o i : Expr} {pos p : Pos} {ta tb te ti to : TE} {ma mb me mi mo : ME}
theorem d_tab {x : Str} {w : World} {ad : Addr} {tab : List (Str × D)} (hm : X.mg x = some (.ref ad)) (ht : TabOk K w ad tab) (hi : PX X i ti mi) (hK : X.K = K := by rfl) (hw : X.w = w := by rfl) (hs : PlainIx i := by exact fun _ _ => rfl) (hg : Gl X x := by rfl) (hd : (x == ("__debug__" : Str)) = false := by decide) :
    PX X (.Subscript (.Name x p) i pos) (tOp (rIxD K w) (tC (.ref ad)) ti) (mTab tab mi) := by
  refine keepG ?_ ?_
  subst hK hw
  exact ⟨pe_ix ix_kdict (pe_glob hg hm rfl hd) hi.pe hs, snd_tab ht hi.sn⟩
  walk_at "zz"
theorem d_iTxt {tg : Expr} (h : PX X e te me) : PXI X tg e (iStr te) (iTxt me) := ⟨pi_str h.pe, snd_iTxt h.sn⟩
theorem d_ixS (ha : PX X a ta ma) (hb : PX X b tb mb) (hs : PlainIx b := by exact fun _ _ => rfl) : PX X (.Subscript a b pos) (tOp rIxS ta tb) (mBin ixS ma mb) := ⟨pe_ix ix_str ha.pe hb.pe hs, snd_bin r_ixS ha.sn hb.sn⟩
theorem call_lenT : CallR X (.builtin "len") (rLenT X.K) := call_len
theorem d_indexT {apos cpos : Pos} (ho : PX X o to mo) (he : PX X e te me) (hbase : attributeBase o "index" X.env (eval o X.env) = eval o X.env := by rfl)
    (hfew : ((backTo cpos (starEach (e :: []) X.env)).all (fun x => !x.1) && (backToKw cpos (keywordEach [] X.env)).all (fun x => x.1.isSome) && decide ((e :: ([] : List Expr)).length + ([] : List Keyword).length + (if ([] : List Keyword).isEmpty then 0 else 1) < 30)) = true := by rfl)
    (hline : (apos.endLine == cpos.line) = true := by rfl) (hs : starEach (e :: []) X.env = (false, eval e X.env) :: starEach [] X.env := by rfl) (hplain : (backTo cpos (starEach [] X.env)).any (·.1) = false := by rfl) (hK : X.K = K := by rfl) :
    PX X (.Call (.Attribute o "index" apos) [e] [] cpos) (tBM K "list" (rIndex K) to (tCons te tNil)) (mIdxT mo me) := by
  refine keepG ?_ ?_
  subst hK
  exact ⟨pe_bm PySem.F.plainAttrs_list PySem.F.slot_list_index PySem.F.type_list_index mt_index ho.pe (pa_cons he.pe pa_nil hs) hbase hfew hline hs hplain, snd_idxT ho.sn he.sn⟩
  walk_at "zz"
theorem d_tupSt {x1} {p2 : Pos} (ha : PX X a ta ma) (hb : PX X b tb mb) (hs : starEach (a :: [.Starred b p2]) X.env = (false, eval a X.env) :: starEach [.Starred b p2] X.env := by rfl) (hs2 : starEach (.Starred b p2 :: []) X.env = (true, eval b X.env) :: starEach [] X.env := by rfl) (hK : X.K = K := by rfl) :
    PX X (.Tuple [a, .Starred b p2] x1 pos) (tTup (tCons ta (tStar K tb tNil))) (mTupSt ma mb) := by
  refine keepG ?_ ?_
  subst hK
  exact ⟨pe_tup (pa_cons ha.pe (pa_star hb.pe pa_nil hs2) hs), snd_tupSt ha.sn hb.sn⟩
  walk_at "zz"
theorem d_parLP (i j : Nat) {mf : MF} {x y : Str} {px py pt : Pos} {kt k2 pt2} (hc : X.calm = true) (hN : X.N.Nodup) (hij : i ≠ j) (h1 : PXF X a ta mf) (h2 : PX X b tb mb) (ha : PA X [a, b] (tCons ta (tCons tb tNil))) (hw : swappedStores [.Tuple [.Name x px, .Name y py] kt pt] (.Tuple [a, b] k2 pt2) X.env = pure (some [x, y])) (hi : X.N[i]? = some x := by rfl) (hj : X.N[j]? = some y := by rfl)
    (hx : X.env.scope.names.lookup x = some .local := by rfl) (hy : X.env.scope.names.lookup y = some .local := by rfl)
    (hs : swapsWithSole [.Tuple [.Name x px, .Name y py] kt pt] (.Tuple [a, b] k2 pt2) pos.line X.env = pure false := by rfl) :
    PXS X T (.Assign [.Tuple [.Name x px, .Name y py] kt pt] (.Tuple [a, b] k2 pt2) pos) (tPar i j (tCons ta (tCons tb tNil))) (mParLP mf mb i j) := ⟨ps_par hc hN hi hj hij hx hy ha hw hs, snd_parLP i j h1.sn h2.sn⟩
theorem d_asgX {W : WX} {g : TG} {mg : MG} {ws : List Nat} {tg : Expr} {xe : XE} (he : PXE X W e te xe) (hg : PXG X tg g mg ws) (hs : swapsWithSole [tg] e pos.line X.env = pure false := by rfl) (hw : swappedStores [tg] e X.env = pure none := by rfl)
    (h1 : (assignEach [tg] X.env).map (·.2) = [assign tg X.env] := by rfl) : PXS X (wshOf X.K W) (.Assign [tg] e pos) (tAsg te g) (mAsgX xe mg) := ⟨ps_asg he.pe hg.pe hs hw h1, snd_asgX he.sn hg.sn⟩
end
section
variable {P : Program} {w : World} {K : PySem.W.Frag} {mg : Str → Option Value} {base : Heap}
theorem d_tabB {X : Cx} {CX : CXT} {k : Nat} {f : Addr} {fd : FuncData} {tab : List (Str × Str)} {x : Str} {i : Expr} {ti : TE} {mi : ME} {p pos pos2 : Pos} (hu : X.A.units + 1 < cLine) (F : FnOk P w K mg base CX k f fd [] (spB tab)) (hr : Room k X.A) (hm : mg x = some (.ref f)) (hk : PySem.W.keepIn K (.ref f) = true) (hb : Binds K fd [] []) (hx : Passes CX X E0) (hi : PX X i ti mi)
    (e1 : X.prog = P := by rfl) (e2 : X.w = w := by rfl) (e3 : X.K = K := by rfl) (e4 : X.mg = mg := by rfl) (e5 : X.base = base := by rfl)
    (hg : Gl X x := by rfl) (hdb : (x == ("__debug__" : Str)) = false := by decide) (hs : NoSl i := by exact fun _ _ => rfl) :
    PX X (.Subscript (.Call (.Name x p) [] [] pos) i pos2) (tDGet (tCall (spB tab) [] E0 tNil) ti) (mTab (tabC tab) mi) := by
  refine keepG ?_ ?_
  subst e1 e2 e3 e4 e5
  exact ⟨pe_dget hu (pe_call0 F hr hg hm hk hb .nil hx hdb) hi.pe hs, snd_tabB hi.sn⟩
  walk_at "zz"
theorem fn_okB {x qual : Str} {st : Stmt} {f : Addr} {fd : FuncData} {N : List Str} {k : Nat} {tab : List (Str × Str)} (F : Fun K x qual st f fd) (S : FnScope N [] (defScope st)) (hn : (tab.map (·.1)).Nodup) (hl : tab.length ≤ 15)
    (h : ∀ (cdv : Value) (A : Around) (outer : List Env) (s : Shared) (H : Hp) (E : XK), Room k (A.deeper (envOfC qual (defScope st) s.heap.objs.size f cdv)) → PSs (cxOf CX0 P w K mg base N qual (defScope st) f cdv A outer s H E).nox (defBody st) (tRet (tDisp (trsC tab)))) : FnOk P w K mg base CX0 (k + 1) f fd [] (spB tab) := by
  refine keepG ?_ ?_
  refine F.ok S (fun vs H Q E h => ?_) (fun cdv A outer s H vs Q E hr hs => ?_)
  · rw [h.1]
    rfl
  · obtain ⟨rfl, q⟩ := hs
    exact ⟨_, h cdv A outer s H E hr, disp_C hn hl q⟩
  walk_at "zz"
end
/-! walked -/
section
variable {s : Sto} {P : Bv → Sto → Prop} {mi me ml mo ma mb : ME}
def TabIs (tab : List (Str × D)) (y : D) (A : D → Prop) : Prop := ∃ d, tabD tab y = some d ∧ A d
theorem oe_tab {tab : List (Str × D)} (h : OE (mi s) fun b s1 => OD (look s1 b) fun y => TabIs tab y fun d => P (.dat d) s1) : OE (mTab tab mi s) P := by
  refine keepG ?_ ?_
  obtain ⟨b, s1, e1, y, e2, d, e3, p⟩ := h
  refine ⟨_, _, ?_, p⟩
  unfold mTab
  rw [e1]
  show (look s1 b).bind _ = _
  rw [e2]
  show (tabD tab y).bind _ = _
  rw [e3]
  rfl
  walk_at "zz"
theorem tab_i {tab : List (Str × D)} {x : Str} {d : D} {A : D → Prop} (h : tab.lookup x = some d) (a : A d) : TabIs tab (.str x) A := ⟨d, h, a⟩
theorem of_txt {P : List D → Sto → Prop} (h : OE (me s) fun b s1 => OD (look s1 b) fun y => ∃ x, y = .str x ∧ P (txD x) s1) : OF (iTxt me s) P := by
  refine keepG ?_ ?_
  obtain ⟨b, s1, e1, y, e2, x, rfl, p⟩ := h
  refine ⟨_, _, ?_, p⟩
  unfold iTxt
  rw [e1]
  show (look s1 b).bind _ = _
  rw [e2]
  rfl
  walk_at "zz"
theorem od_ixS {z : Str} {i : Int} {c : Nat} {P : D → Prop} (hl : z.length ≤ 1000) (h : atI z.cps.toList i = some c) (p : P (.str ⟨#[c]⟩)) : OD (ixS (.str z) (.int i)) P := ⟨_, by show (if z.length ≤ 1000 then _ else _) = _; rw [if_pos hl, h]; rfl, p⟩
theorem od_lenS {z : Str} {P : D → Prop} (hl : z.length ≤ 1000) (p : P (.int z.length)) : OD (lenS [.str z]) P := ⟨_, by show (if z.length ≤ 1000 then _ else _) = _; rw [if_pos hl], p⟩
def IdxTs (x y : D) (A : Int → Prop) : Prop := ∃ (ds : List D) (ns : List Str) (z : Str) (k : Nat), D.seqL x = some ds ∧ asSt ds = some ns ∧ y = .str z ∧ idxT ns z = some k ∧ A k
theorem oe_idxT (h : OE (mo s) fun a s1 => OD (look s1 a) fun x0 => (∃ ds, D.seqL x0 = some ds) ∧ OE (ma s1) fun b s2 => OD (look s2 a) fun x => OD (look s2 b) fun y => IdxTs x y fun k => P (.dat (.int k)) s2) : OE (mIdxT mo ma s) P := by
  refine keepG ?_ ?_
  obtain ⟨a, s1, e1, x0, e2, ⟨d0, e3⟩, b, s2, e4, x, e5, y, e6, ds, ns, z, k, e7, e8, rfl, e9, p⟩ := h
  refine ⟨_, _, ?_, p⟩
  unfold mIdxT
  rw [e1]
  show (look s1 a).bind _ = _
  rw [e2]
  show (D.seqL x0).bind _ = _
  rw [e3]
  show (ma s1).bind _ = _
  rw [e4]
  show (look s2 a).bind _ = _
  rw [e5]
  show (look s2 b).bind _ = _
  rw [e6]
  show (D.seqL x).bind _ = _
  rw [e7]
  show (asSt ds).bind _ = _
  rw [e8]
  show (idxT ns z).bind _ = _
  rw [e9]
  rfl
  walk_at "zz"
theorem oe_tupSt (h : OE (me s) fun a s1 => OZ (frz s1 a) fun d s2 => OE (ml s2) fun b s3 => OD (look s3 b) fun y => OI (D.seq y) fun ds => ds.length < 1000000 ∧ P (.dat (.tup (d :: ds))) s3) : OE (mTupSt me ml s) P := by
  refine keepG ?_ ?_
  obtain ⟨a, s1, e1, d, s2, e2, b, s3, e3, y, e4, ds, e5, hl, p⟩ := h
  refine ⟨_, _, ?_, p⟩
  unfold mTupSt
  rw [e1]
  show (frz s1 a).bind _ = _
  rw [e2]
  show (ml s2).bind _ = _
  rw [e3]
  show (look s3 b).bind _ = _
  rw [e4]
  show (D.seq y).bind _ = _
  rw [e5]
  show (if ds.length < 1000000 then _ else _) = _
  rw [if_pos hl]
  walk_at "zz"
theorem os_parLP {mf : MF} {i j : Nat} {P : Out → Sto → Prop} (h : OF (mf s) fun ds s1 => OE (me s1) fun b s2 => ∃ d, b = .dat d ∧ ∃ s3, SetTo s2 i (.own ds) s3 ∧ ∃ s4, SetTo s3 j (.dat d) s4 ∧ P .nx s4) : OS (mParLP mf me i j s) P := by
  refine keepG ?_ ?_
  obtain ⟨ds, s1, e1, b, s2, e2, d, rfl, s3, st, s4, st2, p⟩ := h
  refine ⟨.nx, s4, ?_, p⟩
  unfold mParLP
  rw [e1]
  show ((me s1).bind _) = _
  rw [e2]
  show some (Out.nx, (s2.set i (.own ds)).set j (.dat d)) = _
  rw [st.eq, st2.eq]
  walk_at "zz"
end
/-! tuples of texts of the module -/
def sL (xs : List Str) : List D := xs.map D.str
def allStr : List Value → List Str → Bool
  | [], [] => true
  | .str i _ :: us, n :: ns => decide (i = n) && allStr us ns
  | _, _ => false
def tupS (o : Obj) (ns : List Str) : Bool := ((match o.cls with
  | .type n => decide (n = "tuple")
  | _ => false) && match o.data with
  | .seq its _ => decide (its.size ≤ 1000) && allStr its.toList ns
  | _ => false) && o.dict.isNone
theorem allStr_ok : ∀ {us : List Value} {ns : List Str}, allStr us ns = true → Vals (ns.map V.str) us
  | [], [], _ => .nil
  | .str i t :: us, n :: ns, h => by
    have h : (decide (i = n) && allStr us ns) = true := h
    rw [Bool.and_eq_true] at h
    have := of_decide_eq_true h.1
    subst this
    exact .cons ⟨t, rfl⟩ (allStr_ok h.2)
  | [], _ :: _, h => by cases h
  | u :: us, [], h => by cases u <;> cases h
  | .none :: _, _ :: _, h => by cases h
  | .bool _ :: _, _ :: _, h => by cases h
  | .int _ _ :: _, _ :: _, h => by cases h
  | .ref _ :: _, _ :: _, h => by cases h
  | .type _ :: _, _ :: _, h => by cases h
  | .bytes _ _ :: _, _ :: _, h => by cases h
  | .float _ _ :: _, _ :: _, h => by cases h
  | .builtin _ :: _, _ :: _, h => by cases h
theorem RepL.of_strs {K : PySem.W.Frag} {Hb : Hp} : ∀ xs : List Str, RepL K Hb (xs.map V.str) (sL xs)
  | [] => .nil
  | x :: xs => .cons (.str x) (RepL.of_strs xs)
theorem rep_tupS {K : PySem.W.Frag} {Hb : Hp} {a : Addr} {o : Obj} {ns : List Str} (hk : K.lookup a = some o) (h : tupS o ns = true) : Rep K Hb (.ref a) (.tup (sL ns)) := by
  refine keepG ?_ ?_
  unfold tupS at h
  rw [Bool.and_eq_true] at h
  obtain ⟨h, _⟩ := h
  rw [Bool.and_eq_true] at h
  obtain ⟨h1, h2⟩ := h
  cases hc : o.cls with
  | type n =>
    rw [hc] at h1
    have h1 := of_decide_eq_true h1
    subst h1
    cases hd : o.data with
    | seq its n =>
      rw [hd] at h2
      rw [Bool.and_eq_true] at h2
      have hz := of_decide_eq_true h2.1
      exact .tup (.inr ⟨o, its, n, hk, hc, hd, Nat.le_trans hz (by rw [sizeLine_eq]; omega), allStr_ok h2.2⟩) (RepL.of_strs ns)
    | _ => rw [hd] at h2; cases h2
  | _ => rw [hc] at h1; cases h1
  walk_at "zz"
theorem tupS_cls {o : Obj} {ns : List Str} (h : tupS o ns = true) : o.cls = .type "tuple" ∧ o.dict = none := by
  refine keepG ?_ ?_
  unfold tupS at h
  rw [Bool.and_eq_true] at h
  obtain ⟨h, h0⟩ := h
  rw [Bool.and_eq_true] at h
  obtain ⟨h1, h2⟩ := h
  refine ⟨?_, Option.isNone_iff_eq_none.mp h0⟩
  cases hc : o.cls with
  | type n =>
    rw [hc] at h1
    rw [of_decide_eq_true h1]
  | _ => rw [hc] at h1; cases h1
  walk_at "zz"
theorem tabOk_nil {K : PySem.W.Frag} {w : World} {a : Addr} : TabOk K w a [] := fun x d h => by cases h
theorem tabOk_cons {K : PySem.W.Frag} {w : World} {a : Addr} {es : Array DictEntry} {n : Nat} {x y : Str} {u : Tok} {tab : List (Str × D)} (hl : K.lookup a = some ⟨.type "dict", none, .dict es n, #[]⟩) (hk : PySem.W.KeysLit w.params es.toList) (h : PySem.W.nsIn K a x = some (some (.str y u))) (r : TabOk K w a tab) : TabOk K w a ((x, .str y) :: tab) := by
  refine keepG ?_ ?_
  intro z d hz
  rw [List.lookup_cons] at hz
  cases e : z == x with
  | true =>
    rw [e] at hz
    cases hz
    have := eq_of_beq e
    subst this
    exact ⟨.str y, ⟨es, n, _, hl, hk, h, ⟨u, rfl⟩⟩, fun Hb => .str y⟩
  | false =>
    rw [e] at hz
    exact r z d hz
  walk_at "zz"
end Mi

/-! zip(text, list or tuple), t.index(text) of a tuple of texts, in and not in with texts. -/
namespace Mi
open PySem PySem.Spec PyProof.Rows L2 Evl RZ
def ItzX (K : PySem.W.Frag) (x : Str) (t2 : Bool) (b : Addr) (n2 : Nat) : It :=
  ⟨fun i H => ∃ (ys : List V) (y : V), SqA K t2 H b ys ∧ ys.length = n2 ∧ i < x.cps.size ∧ ys[i]? = some y,
    fun i H v H' => ∃ T c y, v = .ref T ∧ H T = none ∧ H' = upd H T (.tup [.str ⟨#[c]⟩, y]) ∧ x.cps[i]? = some c ∧ (∀ ys, SqA K t2 H b ys → ys[i]? = some y),
    fun i H => ∃ ys : List V, SqA K t2 H b ys ∧ ys.length = n2 ∧ (x.cps.size ≤ i ∨ n2 ≤ i)⟩
theorem isS_obj {h : Heap} {it : Addr} {ty : String} {x : Str} {t : Tok} {i : Nat} (q : h.IsStrIter it ty x t i) : ∃ o, h.get? it = some o ∧ ∀ q, o.data ≠ .cell q := by
  refine keepG ?_ ?_
  obtain ⟨o, e, _, d⟩ := q
  exact ⟨o, e, fun v q => by rw [d] at q; cases q⟩
  walk_at "zz"
theorem isS_keep {h h' : Heap} {it : Addr} {ty : String} {x : Str} {t : Tok} {i : Nat} (q : h.IsStrIter it ty x t i) (k : ∀ o, h.get? it = some o → h'.get? it = some o) : h'.IsStrIter it ty x t i := by
  refine keepG ?_ ?_
  obtain ⟨o, e, d⟩ := q
  exact ⟨o, k o e, d⟩
  walk_at "zz"
theorem turn_zipX {P : Program} {w : World} {K : PySem.W.Frag} {elts : List Expr} {kk : Nat} {tpos : Pos} {x : Str} {t : Tok} {t2 : Bool} {b z TI TO i1 i2 : Addr} {n2 : Nat} (S : ZipSep2 z TI TO i1 i2 [i1] [i2, b]) (hb : b ≠ i2) :
    L2.Turn P w K (.Tuple elts kk tpos) (ItzX K x t2 b n2) [z, TI, TO, i1, i2] z (fun i h => IsZip h z TI TO .none ∧ IsTupOf2 h TI (.ref i1) (.ref i2) ∧ (∃ x y, IsTupOf2 h TO x y) ∧ h.IsStrIter i1 (strIterType x) x t i ∧ ItA t2 h i2 b i ∧ i ≤ x.cps.size ∧ i ≤ n2) where
  mem := by simp
  obj := fun i h st q hq => by
    obtain ⟨hz, hTI, ⟨x, y, hTO⟩, h1, h2, _⟩ := st
    have e' : q = z ∨ q = TI ∨ q = TO ∨ q = i1 ∨ q = i2 := by simpa using hq
    rcases e' with k | k | k | k | k
    · rw [k]; exact ⟨_, hz, fun v q => nomatch q⟩
    · rw [k]; exact ⟨_, hTI, fun v q => nomatch q⟩
    · rw [k]; exact ⟨_, hTO, fun v q => nomatch q⟩
    · rw [k]; exact isS_obj h1
    · rw [k]; exact itA_obj h2
  keep := fun i h h' st k => by
    obtain ⟨hz, hTI, ⟨x, y, hTO⟩, h1, h2, l⟩ := st
    exact ⟨k z (by simp) _ hz, k TI (by simp) _ hTI, ⟨x, y, k TO (by simp) _ hTO⟩, isS_keep h1 fun o q => k i1 (by simp) o q, itA_keep h2 fun o q => k i2 (by simp) o q, l⟩
  item := by
    intro X hP hw hK hc i pins s σ H E I hf st hg
    subst hP hw hK
    obtain ⟨hz, hTI, ⟨x0, y0, hTO⟩, h1, h2, l1, l2⟩ := st
    obtain ⟨ys, y, hqy, m2, hx, hy⟩ := hg
    obtain ⟨its2, rv2, p2⟩ := inv_sqA I hqy
    obtain ⟨v2, hv2, ry⟩ := rv2.get hy
    have hzl : z < s.heap.objs.size := Heap.lt_size hz
    have D1 := Draws.text (prog := X.prog) (w := X.w) (A := X.A.in1) (I.ok.hd hc) i1 x t
    have D2 := draws_A (prog := X.prog) (w := X.w) (A := X.A.in1) (I.ok.hd hc) t2 i2 b hb its2.toArray
    have lt2 : i < its2.toArray.size := by have h1 := (List.getElem?_eq_some_iff.mp hv2).1; simpa using h1
    refine wpAny_pyNext_zipD2_item S D1 D2 hz hTI hTO h1 ⟨h2, p2⟩ hx lt2 fun w1 w2 h' tk y1 y2 z' TO' s1' s2' hT hsz hk => ?_
    obtain ⟨c, u, hcx, q1⟩ := y1
    have q2 : w2 = v2 := by
      have e1 : its2.toArray[i]? = some w2 := y2
      have e2 : its2.toArray[i]? = some v2 := by simpa using hv2
      exact Option.some.inj (e1.symm.trans e2)
    subst q1 q2
    refine ⟨_, rfl, wpAny_letOwnedTupleGo_zip (s := { s with heap := h', toks := tk }) z' fun h'' z'' sb => ?_⟩
    have hT2 : h''.get? s.heap.objs.size = some { cls := .type "tuple", data := .seq #[.str ⟨#[c]⟩ u, w2] } := (sb.2 _ (Nat.ne_of_gt hzl)).trans hT
    have new : ObjOk X.prog X.w (upd H s.heap.objs.size (.tup [.str ⟨#[c]⟩, y])) h'' s.heap.objs.size (.tup [.str ⟨#[c]⟩, y]) :=
      ⟨by show 2 ≤ sizeLine; decide, [.str ⟨#[c]⟩ u, w2], .cons ⟨u, rfl⟩ (.cons ry .nil), ⟨_, hT2, rfl, _, rfl⟩⟩
    have I1 : Inv X pins σ (upd H s.heap.objs.size (.tup [.str ⟨#[c]⟩, y])) { s with heap := h'', toks := tk } :=
      I.turnedNew (t' := tk) (ch := [z, TI, TO, i1, i2]) (fun q o hb q' => (sb.2 q (fun r => hb (by simp [r]))).trans (hk q o (fun r => hb (by simp [r])) (fun r => hb (by simp [r])) (fun r => hb (by simp [r])) (fun r => hb (by simp [r])) q')) hf (Nat.le_refl _) new
    have ln2 := (List.getElem?_eq_some_iff.mp hy).1
    refine ⟨.ref s.heap.objs.size, _, I1, rfl, ⟨_, c, y, rfl, I.hok.fresh (Nat.le_refl _), rfl, hcx, fun l hl => by rw [inv_sqA_inj I hl hqy]; exact hy⟩, ⟨z'', ?_, ⟨.str ⟨#[c]⟩ u, w2, ?_⟩, ?_, ?_, by omega, by omega⟩, fun q hq => ?_⟩
    · exact (sb.2 _ S.TIz).trans (hk _ _ S.TIz S.TITO S.TIi1 S.TIi2 hTI)
    · exact (sb.2 _ S.TOz).trans TO'
    · exact isS_keep s1' fun o q => (sb.2 _ S.zi1.symm).trans q
    · exact itA_keep s2'.1 fun o q => (sb.2 _ S.zi2.symm).trans q
    · have hlt : q < s.heap.objs.size := by
        have e' : q = z ∨ q = TI ∨ q = TO ∨ q = i1 ∨ q = i2 := by simpa using hq
        rcases e' with k | k | k | k | k
        · rw [k]; exact hzl
        · rw [k]; exact Heap.lt_size hTI
        · rw [k]; exact Heap.lt_size hTO
        · rw [k]; obtain ⟨o, e, _⟩ := isS_obj h1; exact Heap.lt_size e
        · rw [k]; exact itA_lt h2
      rw [upd_ne (Nat.ne_of_lt hlt)]
      exact (hf q hq).1
  done := by
    intro X hP hw hK hc i pins s σ H E I hf st hg
    subst hP hw hK
    obtain ⟨hz, hTI, ⟨x0, y0, hTO⟩, h1, h2, l1, l2⟩ := st
    obtain ⟨ys, hqy, m2, hend⟩ := hg
    obtain ⟨its2, rv2, p2⟩ := inv_sqA I hqy
    have r2 := rv2.length
    have D1 := Draws.text (prog := X.prog) (w := X.w) (A := X.A.in1) (I.ok.hd hc) i1 x t
    have D2 := draws_A (prog := X.prog) (w := X.w) (A := X.A.in1) (I.ok.hd hc) t2 i2 b hb its2.toArray
    exact wpAny_pyNext_zipD2_end S D1 D2 hz hTI hTO h1 ⟨h2, p2⟩ l1 (by simp; omega) (by simp; omega) fun h' tk hk => ⟨rfl, I.turnedL (t' := tk) (ch := [z, TI, TO, i1, i2]) (fun q o hb q' =>
      hk q o (fun r => hb (by simp [r])) (fun r => hb (by simp [r])) (fun r => hb (by simp [r])) (fun r => hb (by simp [r])) q') hf⟩
  self := fun A i s Q E st h => wpAny_pyIter_zip st.1 h
def iZipX (K : PySem.W.Frag) (ta : TA) : TI := fun σ H R => ta σ H fun vs H1 => ∃ x t2 b ys, vs = [.str x, .ref b] ∧ SqA K t2 H1 b ys ∧ R (ItzX K x t2 b ys.length) H1
theorem pi_zipX {X : Cx} {e e2 : Expr} {ta : TA} {p pos tpos : Pos} {elts : List Expr} {kk : Nat} (hg : Gl X "zip") (hm : X.mg "zip" = none) (ha : PA X [e, e2] ta)
    (hs : starEach [e, e2] X.env = (false, eval e X.env) :: starEach [e2] X.env := by rfl) (hpl : (backTo pos (starEach [e2] X.env)).any (·.1) = false := by rfl) :
    PI X (.Tuple elts kk tpos) (.Call (.Name "zip" p) [e, e2] [] pos) (iZipX X.K ta) := by
  refine keepG ?_ ?_
  refine ⟨fun pins s σ H R I h => ?_⟩
  refine Call_ (ld_blt I hg hm PyProof.Rows.boot_zip (PyProof.Rows.callWith_type1 (thn (ha.run pos pins s σ H _ I h) fun us s1 ⟨vs, H1, I1, r1, q1⟩ => ?_) hs hpl))
  obtain ⟨x, t2, b, ys, ex, hqy, q⟩ := q1
  subst ex
  cases r1 with
  | cons r rr =>
    cases rr with
    | cons r' rr =>
      cases rr
      obtain ⟨t, rfl⟩ := r
      cases r'
      have fresh5 : ∀ c, c ∈ [s1.heap.objs.size + 4, s1.heap.objs.size + 2, s1.heap.objs.size + 3, s1.heap.objs.size, s1.heap.objs.size + 1] → FpOk X pins H1 c := fun c hcm => by
        have e' : c = s1.heap.objs.size + 4 ∨ c = s1.heap.objs.size + 2 ∨ c = s1.heap.objs.size + 3 ∨ c = s1.heap.objs.size ∨ c = s1.heap.objs.size + 1 := by simpa using hcm
        have hle : s1.heap.objs.size ≤ c := by
          rcases e' with z | z | z | z | z
          · rw [z]; exact Nat.le_add_right _ _
          · rw [z]; exact Nat.le_add_right _ _
          · rw [z]; exact Nat.le_add_right _ _
          · rw [z]; exact Nat.le_refl _
          · rw [z]; exact Nat.le_add_right _ _
        exact I1.fpOk hle (I1.hok.fresh hle)
      obtain ⟨its2, rv2, p2⟩ := inv_sqA I1 hqy
      have lb := isA_lt p2
      refine zip_begins2 (begins_text x t) (begins_A t2 b its2.toArray) trivial p2 fun h' hz hTI hTO h1 h2 hsz hk => wpAny_pyIter_zip hz ?_
      have I2 : Inv X pins σ H1 { s1 with heap := h' } := I1.kept (t' := s1.toks) hk
      have one : ∀ (N x : Addr), x < N → ∀ y ∈ [x], y < N := fun N x hx y hy => by
        have : y = x := by simpa using hy
        rw [this]; exact hx
      exact ⟨s1.heap.objs.size + 4, [s1.heap.objs.size + 4, s1.heap.objs.size + 2, s1.heap.objs.size + 3, s1.heap.objs.size, s1.heap.objs.size + 1], _, _, H1, rfl, I2,
        turn_zipX (zip_sep2 (fp1 := []) (fun _ h => nomatch h) (one _ _ lb)) (Nat.ne_of_lt (Nat.lt_succ_of_lt lb)), ⟨hz, hTI, ⟨_, _, hTO⟩, ⟨_, h1, rfl, rfl⟩, itA_new h2, Nat.zero_le _, Nat.zero_le _⟩, fresh5, q⟩
  walk_at "zz"
def zX (x y : D) : Option (List D) := match x with
  | .str z => y.seq.bind fun b => some (zipD (txD z) b)
  | _ => none
def iZX (ma : MA) : MI := fun s => (ma s).bind fun a => match a.1 with
  | [x, y] => (frz a.2 x).bind fun q => (frz q.2 y).bind fun r => (zX q.1 r.1).bind fun ds => some (ds, r.2)
  | _ => none
section
variable {K : PySem.W.Frag}
theorem txD_len (x : Str) : (txD x).length = x.cps.size := by unfold txD; rw [List.length_map, Array.length_toList]
theorem it_zipX {x : Str} {t2 : Bool} {b : Addr} {ws : List V} {es : List D} {Hb1 : Hp} (h' : SqA K t2 Hb1 b ws) (r' : RepL K Hb1 ws es) : ItOk K (ItzX K x t2 b ws.length) Hb1 (zipD (txD x) es) := by
  refine keepG ?_ ?_
  intro f σ H2 s Hb2 e R i
  have h3 : SqA K t2 H2 b ws := ex_A (e.trans R.hb) h'
  refine ⟨fun d hd => ?_, fun hi => ⟨ws, h3, rfl, ?_⟩⟩
  · obtain ⟨d1, y, hx, hy, rfl⟩ := zipD_at hd
    unfold txD at hx
    rw [List.getElem?_map] at hx
    obtain ⟨c, hc, rfl⟩ := Option.map_eq_some_iff.mp hx
    rw [Array.getElem?_toList] at hc
    obtain ⟨w, hw, rw'⟩ := r'.get hy
    refine ⟨⟨ws, w, h3, rfl, (Array.getElem?_eq_some_iff.mp hc).1, hw⟩, fun z H' q => ?_⟩
    obtain ⟨T, c', w', rfl, hT, rfl, q1, q2⟩ := q
    rw [hc] at q1
    cases q1
    have e2 := (q2 ws h3).symm.trans hw
    cases e2
    have n := R.new (.tup [.str ⟨#[c]⟩, w]) hT
    exact ⟨_, n.1, n.2, .tup (.inl upd_same) (.cons (.str _) (.cons ((rw'.up e).up n.1) .nil))⟩
  · rw [zipD_len, txD_len] at hi
    rw [r'.len]
    omega
  walk_at "zz"
theorem snd_iZX {ta : TA} {ma : MA} (ha : SndA K ta ma) : SndI K (iZipX K ta) (iZX ma) := by
  refine keepG ?_ ?_
  intro f σ H s Hb items s' R h Rk q
  obtain ⟨a, h1, h⟩ := bnd h
  obtain ⟨bs, s1⟩ := a
  match bs, h with
  | [x, y], h =>
    obtain ⟨c, h2, h⟩ := bnd h
    obtain ⟨c', h3, h⟩ := bnd h
    obtain ⟨ds, h4, h⟩ := bnd h
    cases h
    refine ha f σ H s Hb _ _ R h1 _ fun vs H1 Hb1 e1 R1 r1 => ?_
    match vs, r1 with
    | [v, w], r1 =>
      obtain ⟨Hb2, e2, R2, r2⟩ := frz_ok R1 r1.1 h2
      obtain ⟨Hb3, e3, R3, r3⟩ := frz_ok R2 (r1.2.1.up e2) h3
      obtain ⟨x1, sx⟩ := c
      obtain ⟨y1, sy⟩ := c'
      have r2 : Rep K Hb2 v x1 := r2
      have r3 : Rep K Hb3 w y1 := r3
      unfold zX at h4
      cases x1 with
      | str z =>
        obtain ⟨bs, g2, h4⟩ := bnd h4
        cases h4
        obtain ⟨t2, m, ws, rfl, k3, k4⟩ := rep_seqA r3 g2
        cases r2
        exact ⟨z, t2, m, ws, rfl, ex_A R3.hb k3, q _ _ _ ((e1.trans e2).trans e3) R3 (it_zipX k3 k4)⟩
      | _ => cases h4
  walk_at "zz"
theorem d_iZX {X : Cx} {e e2 : Expr} {ta : TA} {ma : MA} {p pos tpos : Pos} {elts : List Expr} {kk : Nat} (hm : X.mg "zip" = none) (h : PXA X [e, e2] ta ma) (hK : X.K = K := by rfl) (hg : Gl X "zip" := by rfl) (hs : starEach [e, e2] X.env = (false, eval e X.env) :: starEach [e2] X.env := by rfl) (hpl : (backTo pos (starEach [e2] X.env)).any (·.1) = false := by rfl) :
    PXI X (.Tuple elts kk tpos) (.Call (.Name "zip" p) [e, e2] [] pos) (iZipX K ta) (iZX ma) := by
  refine keepG ?_ ?_
  subst hK
  exact ⟨pi_zipX hg hm h.pe hs hpl, snd_iZX h.sn⟩
  walk_at "zz"
theorem asSt_sL : ∀ l : List Str, asSt (sL l) = some l := fun l => by
  induction l with
  | nil => rfl
  | cons x l ih =>
    show (asSt (sL l)).bind _ = _
    rw [ih]
    rfl
/-- t.index(x) of a tuple of texts -/
def rIndexTT (K : PySem.W.Frag) : V → List V → Hp → VK → Prop := fun x xs H Q => ∃ p, ∃ ys : List Str, ∃ z j, x = .ref p ∧ xs = [.str z] ∧ SqT K H p (ys.map V.str) ∧ ys[j]? = some z ∧ (∀ m, m < j → ys[m]? ≠ some z) ∧ Q (.int (j : Nat)) H
def mIdxTC (ns : List Str) (ma : ME) : ME := fun s => (ma s).bind fun b => (look b.2 b.1).bind fun y => match y with
  | .str z => (idxT ns z).bind fun k => some (.dat (.int k), b.2)
  | _ => none
theorem snd_idxTC {ta : TE} {ma : ME} {l : Addr} {o : Obj} {ns : List Str} (hk : K.lookup l = some o) (ht : tupS o ns = true) (ha : SndE K ta ma) : SndE K (tBM K "tuple" (rIndexTT K) (tC (.ref l)) (tCons ta tNil)) (mIdxTC ns ma) := by
  refine keepG ?_ ?_
  intro f σ H s Hb b s' R h Q q
  obtain ⟨b1, h4, h⟩ := bnd h
  obtain ⟨y, h6, h⟩ := bnd h
  cases y with
  | str z =>
    obtain ⟨k, h10, h⟩ := bnd h
    cases h
    refine ⟨.inr (.inl ⟨rfl, o, hk, tupS_cls ht⟩), ?_⟩
    refine ha f σ H _ Hb _ _ R h4 _ fun w H2 Hb2 e2 R2 r2 => ?_
    have hw := (look_ok R2 r2 h6).str
    subst hw
    obtain ⟨c1, c2⟩ := idxT_at h10
    have g4 : SqT K H2 l (ns.map V.str) := by
      have g : Rep K Hb (.ref l) (.tup (sL ns)) := rep_tupS hk ht
      generalize hx : sL ns = xs at g
      cases g with
      | tup g1 g2 =>
        subst hx
        rw [asSt_of (asSt_sL ns) g2] at g1
        exact ex_t R2.hb (ex_t e2 g1.t)
    exact ⟨l, ns, z, k, rfl, rfl, g4, c1, fun m hm hz => c2 m z hm hz rfl, q _ H2 Hb2 e2 R2 (.int _)⟩
  | _ => cases h
  walk_at "zz"
/-- in, not in: texts and ints among texts -/
def inS (neg : Bool) : D → D → Option D := fun x y => y.seq.bind fun ds => (asSt ds).bind fun ns => match x with
  | .str z => some (.bl (if neg then !decide (z ∈ ns) else decide (z ∈ ns)))
  | .int _ => some (.bl neg)
  | _ => none
theorem inV_str (i : Str) (ns : List Str) : inV (.str i) (ns.map V.str) = decide (i ∈ ns) := by
  refine keepG ?_ ?_
  unfold inV
  rw [List.any_map]
  induction ns with
  | nil => rfl
  | cons n ns ih =>
    rw [List.any_cons, ih]
    show ((n == i) || _) = _
    by_cases h : n = i
    · simp [h]
    · have h' : ¬ i = n := fun e => h e.symm
      simp [h, h']
  walk_at "zz"
theorem inV_strI (i : Int) (ns : List Str) : inV (.int i) (ns.map V.str) = false := by
  refine keepG ?_ ?_
  unfold inV
  rw [List.any_map]
  induction ns with
  | nil => rfl
  | cons n ns ih =>
    rw [List.any_cons, ih]
    rfl
  walk_at "zz"
theorem r_inS (neg : Bool) : SndR K (rIn K neg) (inS neg) := by
  refine keepG ?_ ?_
  intro H Hb v w x y z e rx ry hz Q q1 q2
  obtain ⟨ds, h1, hz⟩ := bnd hz
  obtain ⟨ns, h2, hz⟩ := bnd hz
  obtain ⟨l, ws, rfl, g1, g2⟩ := ry.seq e h1
  rw [asSt_of h2 g2] at g1
  cases x with
  | int i =>
    cases hz
    have hv := rx.int
    subst hv
    refine ⟨l, _, rfl, g1, rfl, flat_strs ns, ?_⟩
    rw [inV_strI]
    cases neg <;> exact q1 _ (.bl _)
  | str i =>
    cases hz
    have hv := rx.str
    subst hv
    refine ⟨l, _, rfl, g1, rfl, flat_strs ns, ?_⟩
    rw [inV_str]
    exact q1 _ (.bl _)
  | _ => cases hz
  walk_at "zz"
end
section
variable {X : Cx} {K : PySem.W.Frag} {a b e o i : Expr} {pos p : Pos} {ta te to : TE} {ma me mo : ME}
theorem d_indexTC {apos cpos : Pos} {x : Str} {l : Addr} {ob : Obj} {ns : List Str} (hm : X.mg x = some (.ref l)) (hk : K.lookup l = some ob) (ht : tupS ob ns = true) (he : PX X e te me) (hK : X.K = K := by rfl) (hg : Gl X x := by rfl) (hd : (x == ("__debug__" : Str)) = false := by decide) (hbase : attributeBase (.Name x p) "index" X.env (eval (.Name x p) X.env) = eval (.Name x p) X.env := by rfl)
    (hfew : ((backTo cpos (starEach (e :: []) X.env)).all (fun x => !x.1) && (backToKw cpos (keywordEach [] X.env)).all (fun x => x.1.isSome) && decide ((e :: ([] : List Expr)).length + ([] : List Keyword).length + (if ([] : List Keyword).isEmpty then 0 else 1) < 30)) = true := by rfl)
    (hline : (apos.endLine == cpos.line) = true := by rfl) (hs : starEach (e :: []) X.env = (false, eval e X.env) :: starEach [] X.env := by rfl) (hplain : (backTo cpos (starEach [] X.env)).any (·.1) = false := by rfl) :
    PX X (.Call (.Attribute (.Name x p) "index" apos) [e] [] cpos) (tBM K "tuple" (rIndexTT K) (tC (.ref l)) (tCons te tNil)) (mIdxTC ns me) := by
  refine keepG ?_ ?_
  subst hK
  exact ⟨pe_bm PySem.F.plainAttrs_tuple PySem.F.slot_tuple_index PySem.F.type_tuple_index mt_tup_index (pe_glob hg hm rfl hd) (pa_cons he.pe pa_nil hs) hbase hfew hline hs hplain, snd_idxTC hk ht he.sn⟩
  walk_at "zz"
end
/-! walked -/
section
variable {s : Sto} {P : Bv → Sto → Prop} {mo ma : ME}
theorem of_iZX {mas : MA} {s : Sto} {P : List D → Sto → Prop} (h : OA (mas s) fun bs s1 => Two bs fun x y => OZ (frz s1 x) fun d s2 => OZ (frz s2 y) fun e s3 => OI (zX d e) fun ds => P ds s3) : OF (iZX mas s) P := by
  refine keepG ?_ ?_
  obtain ⟨bs, s1, e1, x, y, rfl, d, s2, e2, e, s3, e3, ds, e4, p⟩ := h
  refine ⟨_, _, ?_, p⟩
  unfold iZX
  rw [e1]
  show (frz s1 x).bind _ = _
  rw [e2]
  show (frz s2 y).bind _ = _
  rw [e3]
  show (zX d e).bind _ = _
  rw [e4]
  rfl
  walk_at "zz"
theorem oi_zX {z : Str} {e : D} {bs : List D} {P : List D → Prop} (h2 : e.seq = some bs) (p : P (zipD (txD z) bs)) : OI (zX (.str z) e) P := ⟨_, by unfold zX; rw [h2]; rfl, p⟩
def IdxS (ns : List Str) (y : D) (A : Int → Prop) : Prop := ∃ (z : Str) (k : Nat), y = .str z ∧ idxT ns z = some k ∧ A k
theorem oe_idxTC {ns : List Str} (h : OE (ma s) fun b s2 => OD (look s2 b) fun y => IdxS ns y fun k => P (.dat (.int k)) s2) : OE (mIdxTC ns ma s) P := by
  refine keepG ?_ ?_
  obtain ⟨b, s2, e4, y, e6, z, k, rfl, e9, p⟩ := h
  refine ⟨_, _, ?_, p⟩
  unfold mIdxTC
  rw [e4]
  show (look s2 b).bind _ = _
  rw [e6]
  show (idxT ns z).bind _ = _
  rw [e9]
  rfl
  walk_at "zz"
theorem od_inSS {neg : Bool} {z : Str} {ns : List Str} {P : D → Prop} (p : P (.bl (if neg then !decide (z ∈ ns) else decide (z ∈ ns)))) : OD (inS neg (.str z) (.tup (sL ns))) P := ⟨_, by
  show (asSt (sL ns)).bind _ = _
  rw [asSt_sL]
  rfl, p⟩
theorem od_inSI {neg : Bool} {z : Int} {ns : List Str} {P : D → Prop} (p : P (.bl neg)) : OD (inS neg (.int z) (.tup (sL ns))) P := ⟨_, by
  show (asSt (sL ns)).bind _ = _
  rw [asSt_sL]
  rfl, p⟩
end
end Mi

namespace Mine
open PySem PySem.Spec PyProof.Rows L2 Evl Mi
/-! ### the text: its defs, their derivations, their meanings (written by gen.py from the program itself) -/
def topS (i : Nat) : Stmt := PySem.Challenge.pw_rangekeep_k26_records_as_cells.main.body.getD i (.Pass ⟨0, 0, 0, 0⟩)
abbrev st_Lrefill : Stmt := topS 22
abbrev N_Lrefill : List Str := ["script", "k", "cell"]
theorem sc_Lrefill : FnScope N_Lrefill ["script", "k"] (defScope st_Lrefill) := ⟨rfl, rfl, rfl, by decide +kernel, rfl, by decide +kernel, by decide +kernel⟩
abbrev st_Ldraw : Stmt := topS 23
abbrev N_Ldraw : List Str := ["state", "script", "size", "digit"]
theorem sc_Ldraw : FnScope N_Ldraw ["state", "script", "size"] (defScope st_Ldraw) := ⟨rfl, rfl, rfl, by decide +kernel, rfl, by decide +kernel, by decide +kernel⟩
abbrev st_Lfact : Stmt := topS 25
abbrev N_Lfact : List Str := ["state", "script", "kind", "size", "count"]
theorem sc_Lfact : FnScope N_Lfact ["state", "script", "kind"] (defScope st_Lfact) := ⟨rfl, rfl, rfl, by decide +kernel, rfl, by decide +kernel, by decide +kernel⟩
abbrev st_Lfacts : Stmt := topS 24
abbrev N_Lfacts : List Str := []
theorem sc_Lfacts : FnScope N_Lfacts [] (defScope st_Lfacts) := ⟨rfl, rfl, rfl, by decide +kernel, rfl, by decide +kernel, by decide +kernel⟩
abbrev st_Lrecord : Stmt := topS 26
abbrev N_Lrecord : List Str := ["state", "script", "word", "kind"]
theorem sc_Lrecord : FnScope N_Lrecord ["state", "script"] (defScope st_Lrecord) := ⟨rfl, rfl, rfl, by decide +kernel, rfl, by decide +kernel, by decide +kernel⟩
abbrev st_cells_of_count_ : Stmt := topS 17
abbrev N_cells_of_count_ : List Str := ["count", "cells"]
theorem sc_cells_of_count_ : FnScope N_cells_of_count_ ["count"] (defScope st_cells_of_count_) := ⟨rfl, rfl, rfl, by decide +kernel, rfl, by decide +kernel, by decide +kernel⟩
abbrev st_count_of_ : Stmt := topS 15
abbrev N_count_of_ : List Str := ["number"]
theorem sc_count_of_ : FnScope N_count_of_ ["number"] (defScope st_count_of_) := ⟨rfl, rfl, rfl, by decide +kernel, rfl, by decide +kernel, by decide +kernel⟩
abbrev st_cells_of : Stmt := topS 14
abbrev N_cells_of : List Str := ["record", "cells", "kind", "fact"]
theorem sc_cells_of : FnScope N_cells_of ["record"] (defScope st_cells_of) := ⟨rfl, rfl, rfl, by decide +kernel, rfl, by decide +kernel, by decide +kernel⟩
abbrev st_is_whole : Stmt := topS 4
abbrev N_is_whole : List Str := ["value"]
theorem sc_is_whole : FnScope N_is_whole ["value"] (defScope st_is_whole) := ⟨rfl, rfl, rfl, by decide +kernel, rfl, by decide +kernel, by decide +kernel⟩
abbrev st_fits_ : Stmt := topS 13
abbrev N_fits_ : List Str := ["kind", "fact", "least"]
theorem sc_fits_ : FnScope N_fits_ ["kind", "fact"] (defScope st_fits_) := ⟨rfl, rfl, rfl, by decide +kernel, rfl, by decide +kernel, by decide +kernel⟩
abbrev st_is_record : Stmt := topS 12
abbrev N_is_record : List Str := ["value", "kinds", "kind", "fact"]
theorem sc_is_record : FnScope N_is_record ["value"] (defScope st_is_record) := ⟨rfl, rfl, rfl, by decide +kernel, rfl, by decide +kernel, by decide +kernel⟩
abbrev st_Lcount_cells : Stmt := topS 27
abbrev N_Lcount_cells : List Str := ["count"]
theorem sc_Lcount_cells : FnScope N_Lcount_cells ["count"] (defScope st_Lcount_cells) := ⟨rfl, rfl, rfl, by decide +kernel, rfl, by decide +kernel, by decide +kernel⟩
abbrev st_Lcells : Stmt := topS 28
abbrev N_Lcells : List Str := ["record", "kinds", "cells", "k", "count"]
theorem sc_Lcells : FnScope N_Lcells ["record"] (defScope st_Lcells) := ⟨rfl, rfl, rfl, by decide +kernel, rfl, by decide +kernel, by decide +kernel⟩
abbrev st_RangekeepError_init : Stmt := inClass (topS 1) 0
abbrev N_RangekeepError_init : List Str := ["self", "place"]
theorem sc_RangekeepError_init : FnScope N_RangekeepError_init ["self", "place"] (defScope st_RangekeepError_init) := ⟨rfl, rfl, rfl, by decide +kernel, rfl, by decide +kernel, by decide +kernel⟩
abbrev st_read_count_ : Stmt := topS 19
abbrev N_read_count_ : List Str := ["cells", "at", "last", "count", "cell"]
theorem sc_read_count_ : FnScope N_read_count_ ["cells", "at"] (defScope st_read_count_) := ⟨rfl, rfl, rfl, by decide +kernel, rfl, by decide +kernel, by decide +kernel⟩
abbrev st_number_of_ : Stmt := topS 16
abbrev N_number_of_ : List Str := ["count"]
theorem sc_number_of_ : FnScope N_number_of_ ["count"] (defScope st_number_of_) := ⟨rfl, rfl, rfl, by decide +kernel, rfl, by decide +kernel, by decide +kernel⟩
abbrev st_read_record : Stmt := topS 18
abbrev N_read_record : List Str := ["cells", "word", "facts", "at", "kind", "count", "end", "fact"]
theorem sc_read_record : FnScope N_read_record ["cells"] (defScope st_read_record) := ⟨rfl, rfl, rfl, by decide +kernel, rfl, by decide +kernel, by decide +kernel⟩
abbrev st_law : Stmt := topS 29
abbrev N_law : List Str := ["script", "state", "record", "cells", "kinds", "at", "edges", "k", "other", "right", "wrong"]
theorem sc_law : FnScope N_law ["script"] (defScope st_law) := ⟨rfl, rfl, rfl, by decide +kernel, rfl, by decide +kernel, by decide +kernel⟩
abbrev dc_BASE : D := .int 1024
abbrev dc_COUNT : D := .str "c"
abbrev dc_LIMIT : D := .int 1099511627776
abbrev dc_LONGEST_FACT : D := .int 5
abbrev dc_WORDS : D := .tup (sL ["time", "orbit", "clock", "key", "tag"])
abbrev dc_FACTS : List (Str × Str) := [("time", "c"), ("orbit", "ccnnnnnnnnn"), ("clock", "cnn"), ("key", "cc"), ("tag", "ccc")]
abbrev tb_Lfacts : List (Str × Str) := [("time", "c"), ("orbit", "ccnnnnnnnnn"), ("clock", "cnn"), ("key", "cc"), ("tag", "ccc")]
def m_Lrefill : Mf := fnM 3 2 ((mSeq (mAsg (mC (.int 0)) (gNm 2))
    (mSeq (mIf (mTru (mVar 0)) (mAsg (mBin ixD (mVar 0) (mBin (intOp modI) (mVar 1) (mBi lenD (aCons (mVar 0) aNil)))) (gNm 2)) mNext)
    (mSeq (mIf (mTest (mBin (cmpI ltI) (mVar 2) (mC (.int 0)))) (mAsg (mBin (intOp subI) (mC (.int 1)) (mBin mulD (mC (.int 2)) (mVar 2))) (gNm 2)) mNext)
    (mSeq (mIf (mAnd (mTest (mBin (cmpI geI) (mVar 2) (mBin (intOp powI) (mC (.int 10)) (mC (.int 18))))) (mTest (mBin (cmpI ltI) (mVar 1) (mBi lenD (aCons (mVar 0) aNil))))) (mRet (mVar 2)) mNext)
    (mRet (mBin (intOp modI) (mBi intD (aCons (mBin addD (mBin mulD (mBi intD (aCons (mBin addD (mBin addD (mBin mulD (mVar 2) (mC (.int 48271))) (mBin mulD (mVar 1) (mC (.int 69621)))) (mC (.int 12345))) aNil)) (mC (.int 40692))) (mC (.int 7))) aNil)) (mC (.int 2147483399)))))))))
def m_Ldraw : Mf := fnM 4 3 ((mSeq (mIf (mTest (mBin eqD (mBin ixD (mVar 0) (mC (.int 1))) (mC (.int 0)))) (mSeq (mSet 0 (mC (.int 1)) (mCall m_Lrefill none (aCons (mVar 1) (aCons (mBin ixD (mVar 0) (mC (.int 0))) aNil))))
    (mSet 0 (mC (.int 0)) (mBin addD (mBin ixD (mVar 0) (mC (.int 0))) (mC (.int 1))))) mNext)
    (mSeq (mAsg (mBin (intOp modI) (mBi intD (aCons (mBin ixD (mVar 0) (mC (.int 1))) aNil)) (mVar 2)) (gNm 3))
    (mSeq (mSet 0 (mC (.int 1)) (mBin (intOp fdivI) (mBin ixD (mVar 0) (mC (.int 1))) (mVar 2)))
    (mRet (mVar 3))))))
def m_Lfact : Mf := fnM 5 3 ((mSeq (mAsg (mBin ixD (mF (mLst (aCons (mC (.int 1)) (aCons (mC (.int 2)) (aCons (mC (.int 1024)) (aCons (mC (.int 1025)) (aCons (mC (.int 1048576)) (aCons (mBin (intOp powI) (mC (.int 2)) (mC (.int 30))) (aCons (mBin (intOp powI) (mC (.int 2)) (mC (.int 40))) aNil))))))))) (mCall m_Ldraw (some 0) (aCons (mVar 0) (aCons (mVar 1) (aCons (mC (.int 7)) aNil))))) (gNm 3))
    (mSeq (mAsg (mCall m_Ldraw (some 0) (aCons (mVar 0) (aCons (mVar 1) (aCons (mVar 3) aNil)))) (gNm 4))
    (mSeq (mIf (mTest (mBin eqD (mCall m_Ldraw (some 0) (aCons (mVar 0) (aCons (mVar 1) (aCons (mC (.int 3)) aNil)))) (mC (.int 1)))) (mAsg (mBin (intOp subI) (mVar 3) (mC (.int 1))) (gNm 4)) mNext)
    (mSeq (mIf (mAnd (mTest (mBin eqD (mVar 2) (mC (.str "n")))) (mTest (mBin eqD (mCall m_Ldraw (some 0) (aCons (mVar 0) (aCons (mVar 1) (aCons (mC (.int 2)) aNil)))) (mC (.int 1))))) (mRet (mUn negD (mVar 4))) mNext)
    (mRet (mVar 4)))))))
def m_Lrecord : Mf := fnM 4 2 ((mSeq (mAsg (mBin ixD (mF (mLst (aCons (mC (.str "time")) (aCons (mC (.str "orbit")) (aCons (mC (.str "clock")) (aCons (mC (.str "key")) (aCons (mC (.str "tag")) aNil))))))) (mCall m_Ldraw (some 0) (aCons (mVar 0) (aCons (mVar 1) (aCons (mC (.int 5)) aNil))))) (gNm 2))
    (mRet (mBi tupleD (aCons (mBin addD (mF (mLst (aCons (mVar 2) aNil))) (mF (mLc (iTxt (mTab (tabC tb_Lfacts) (mVar 2))) (gNm 3) mYes (mCall m_Lfact (some 0) (aCons (mVar 0) (aCons (mVar 1) (aCons (mVar 3) aNil)))) [3]))) aNil)))))
def m_cells_of_count_ : Mf := fnM 2 1 ((mSeq (mAsgF (mLst aNil) 1)
    (mSeq (mWhile (fun _ => 1000) (mTest (mBin (cmpI geI) (mVar 0) (mC dc_BASE))) (mSeq (mApp 1 (mBin addD (mC dc_BASE) (mBin (intOp modI) (mVar 0) (mC dc_BASE))))
    (mAug 0 (intOp fdivI) (mC dc_BASE))))
    (mRet (mBin addD (mVar 1) (mF (mLst (aCons (mVar 0) aNil))))))))
def m_count_of_ : Mf := fnM 1 1 ((mRet (mIfE (mTest (mBin (cmpI geI) (mVar 0) (mC (.int 0)))) (mBin mulD (mC (.int 2)) (mVar 0)) (mBin (intOp subI) (mBin mulD (mUn negD (mC (.int 2))) (mVar 0)) (mC (.int 1))))))
def m_cells_of : Mf := fnM 4 1 ((mSeq (mAsgF (mLst (aCons (mBin addD (mIdxTC ["time", "orbit", "clock", "key", "tag"] (mBin ixD (mVar 0) (mC (.int 0)))) (mC (.int 1))) aNil)) 1)
    (mSeq (mFor (iZX (aCons (mTab (tabC dc_FACTS) (mBin ixD (mVar 0) (mC (.int 0)))) (aCons (mSl slD (mVar 0) (oSome (mC (.int 1))) oNone) aNil))) (gTp 2 (gsCons (gNm 2) (gsCons (gNm 3) gsNil))) (mExt 1 (mCall m_cells_of_count_ none (aCons (mIfE (mTest (mBin eqD (mVar 2) (mC dc_COUNT))) (mVar 3) (mCall m_count_of_ none (aCons (mVar 3) aNil))) aNil))))
    (mRet (mVar 1)))))
def m_is_whole : Mf := fnM 1 1 ((mRet (mAndV (mBi (isiD "int") (aCons (mVar 0) aNil)) (mNotV (mBi (isiD "bool") (aCons (mVar 0) aNil))))))
def m_fits_ : Mf := fnM 3 2 ((mSeq (mAsg (mIfE (mTest (mBin eqD (mVar 0) (mC dc_COUNT))) (mC (.int 0)) (mBin (intOp subI) (mC (.int 1)) (mC dc_LIMIT))) (gNm 2))
    (mRet (mAndV (mCall m_is_whole none (aCons (mVar 1) aNil)) (mChain (cmpI leI) (cmpI ltI) (mVar 2) (mVar 1) (mC dc_LIMIT))))))
def m_is_record : Mf := fnM 4 1 ((mSeq (mIf (mOr (mNot (mTru (mBi (isiD "tuple") (aCons (mVar 0) aNil)))) (mOr (mTest (mBin eqD (mBi lenD (aCons (mVar 0) aNil)) (mC (.int 0)))) (mTest (mBin (inS true) (mBin ixD (mVar 0) (mC (.int 0))) (mC dc_WORDS))))) (mRet (mC (.bl false))) mNext)
    (mSeq (mAsg (mTab (tabC dc_FACTS) (mBin ixD (mVar 0) (mC (.int 0)))) (gNm 1))
    (mRet (mAndV (mBin eqD (mBi lenD (aCons (mVar 0) aNil)) (mBin addD (mC (.int 1)) (mBi lenS (aCons (mVar 1) aNil)))) (mBi allD (aCons (mF (mLc (iZX (aCons (mVar 1) (aCons (mSl slD (mVar 0) (oSome (mC (.int 1))) oNone) aNil))) (gTp 2 (gsCons (gNm 2) (gsCons (gNm 3) gsNil))) mYes (mCall m_fits_ none (aCons (mVar 2) (aCons (mVar 3) aNil))) [2, 3])) aNil)))))))
def m_Lcount_cells : Nat → Mf
  | 0 => fun _ => none
  | dep + 1 => fnM 1 1 ((mSeq (mIf (mTest (mBin (cmpI ltI) (mVar 0) (mC (.int 1024)))) (mRet (mF (mLst (aCons (mVar 0) aNil)))) mNext)
    (mRet (mBin addD (mF (mLst (aCons (mBin addD (mC (.int 1024)) (mBin (intOp modI) (mBi intD (aCons (mVar 0) aNil)) (mC (.int 1024)))) aNil))) (mCall (m_Lcount_cells dep) none (aCons (mBin (intOp fdivI) (mVar 0) (mC (.int 1024))) aNil))))))
def m_Lcells : Mf := fnM 5 1 ((mSeq (mAsg (mTab (tabC tb_Lfacts) (mBin ixD (mVar 0) (mC (.int 0)))) (gNm 1))
    (mSeq (mAsg (mF (mLst (aCons (mBin addD (mIdxT (mF (mLst (aCons (mC (.str "time")) (aCons (mC (.str "orbit")) (aCons (mC (.str "clock")) (aCons (mC (.str "key")) (aCons (mC (.str "tag")) aNil))))))) (mBin ixD (mVar 0) (mC (.int 0)))) (mC (.int 1))) aNil))) (gNm 2))
    (mSeq (mFor (iR1 (aCons (mBi lenS (aCons (mVar 1) aNil)) aNil)) (gNm 3) (mSeq (mAsg (mBin ixD (mVar 0) (mBin addD (mVar 3) (mC (.int 1)))) (gNm 4))
    (mSeq (mIf (mTest (mBin eqD (mBin ixS (mVar 1) (mVar 3)) (mC (.str "n")))) (mAsg (mBin ixD (mF (mLst (aCons (mBin mulD (mC (.int 2)) (mVar 4)) (aCons (mBin (intOp subI) (mBin mulD (mUn negD (mC (.int 2))) (mVar 4)) (mC (.int 1))) aNil)))) (mBi intD (aCons (mBin (cmpI ltI) (mVar 4) (mC (.int 0))) aNil))) (gNm 4)) mNext)
    (mAsg (mBin addD (mVar 2) (mCall (m_Lcount_cells 10) none (aCons (mVar 4) aNil))) (gNm 2)))))
    (mRet (mVar 2))))))
def m_read_count_ : MfX := fnX 5 2 ((mSeq (mAsg (mVar 1) (gNm 2))
    (mSeq (mWhile (fun _ => 1000) (mAnd (mTest (mBin (cmpI ltI) (mVar 2) (mBi lenD (aCons (mVar 0) aNil)))) (mTest (mBin (cmpI geI) (mBin ixD (mVar 0) (mVar 2)) (mC dc_BASE)))) (mSeq (mAug 2 (intOp plusI) (mC (.int 1)))
    (mIf (mTest (mBin eqD (mBin (intOp subI) (mVar 2) (mVar 1)) (mC dc_LONGEST_FACT))) (mRaise 2 (mVar 1)) mNext)))
    (mSeq (mIf (mTest (mBin eqD (mVar 2) (mBi lenD (aCons (mVar 0) aNil)))) (mRaise 2 (mVar 2)) mNext)
    (mSeq (mIf (mAnd (mTest (mBin (cmpI gtI) (mVar 2) (mVar 1))) (mTest (mBin eqD (mBin ixD (mVar 0) (mVar 2)) (mC (.int 0))))) (mRaise 2 (mVar 1)) mNext)
    (mSeq (mAsg (mC (.int 0)) (gNm 3))
    (mSeq (mFor (iRev (mSl slD (mVar 0) (oSome (mVar 1)) (oSome (mBin addD (mVar 2) (mC (.int 1)))))) (gNm 4) (mAsg (mBin addD (mBin mulD (mVar 3) (mC dc_BASE)) (mBin (intOp modI) (mVar 4) (mC dc_BASE))) (gNm 3)))
    (mRet (mTup (aCons (mVar 3) (aCons (mBin addD (mVar 2) (mC (.int 1))) aNil)))))))))))
def m_number_of_ : Mf := fnM 1 1 ((mRet (mIfE (mTest (mBin eqD (mBin (intOp modI) (mVar 0) (mC (.int 2))) (mC (.int 0)))) (mBin (intOp fdivI) (mVar 0) (mC (.int 2))) (mBin (intOp fdivI) (mUn negD (mBin addD (mVar 0) (mC (.int 1)))) (mC (.int 2))))))
def m_read_record : MfX := fnX 8 1 ((mSeq (mIf (mOr (mTest (mBin eqD (mBi lenD (aCons (mVar 0) aNil)) (mC (.int 0)))) (mNot (mTest (mChain (cmpI leI) (cmpI leI) (mC (.int 1)) (mBin ixD (mVar 0) (mC (.int 0))) (mBi lenD (aCons (mC dc_WORDS) aNil)))))) (mRaise 2 (mC (.int 0))) mNext)
    (mSeq (mAsg (mBin ixD (mC dc_WORDS) (mBin (intOp subI) (mBin ixD (mVar 0) (mC (.int 0))) (mC (.int 1)))) (gNm 1))
    (mSeq (mParLP (mLst aNil) (mC (.int 1)) 2 3)
    (mSeq (mFor (iTxt (mTab (tabC dc_FACTS) (mVar 1))) (gNm 4) (mSeq (mAsgX (xCall m_read_count_ (xCons (xE (mVar 0)) (xCons (xE (mVar 3)) xNil))) (gTp 2 (gsCons (gNm 5) (gsCons (gNm 6) gsNil))))
    (mSeq (mAsg (mIfE (mTest (mBin eqD (mVar 4) (mC dc_COUNT))) (mVar 5) (mCall m_number_of_ none (aCons (mVar 5) aNil))) (gNm 7))
    (mSeq (mIf (mNot (mTru (mCall m_fits_ none (aCons (mVar 4) (aCons (mVar 7) aNil))))) (mRaise 2 (mVar 3)) mNext)
    (mSeq (mApp 2 (mVar 7))
    (mAsg (mVar 6) (gNm 3)))))))
    (mSeq (mIf (mTest (mBin (cmpI ltI) (mVar 3) (mBi lenD (aCons (mVar 0) aNil)))) (mRaise 2 (mVar 3)) mNext)
    (mRet (mTupSt (mVar 1) (mVar 2)))))))))
def m_law : Mf := fnM 11 1 ((mSeq (mAsgF (mLst (aCons (mC (.int 0)) (aCons (mC (.int 0)) aNil))) 1)
    (mSeq (mAsg (mCall m_Lrecord (some 0) (aCons (mVar 1) (aCons (mVar 0) aNil))) (gNm 2))
    (mSeq (mAsg (mCall m_cells_of none (aCons (mVar 2) aNil)) (gNm 3))
    (mSeq (mIf (mOr (mTest (mBin isnBD (mCall m_is_record none (aCons (mVar 2) aNil)) (mC (.bl true)))) (mOr (mTest (mBin neD (mVar 3) (mCall m_Lcells none (aCons (mVar 2) aNil)))) (mTest (mBin neD (mCallQ m_read_record (aCons (mF (mBiF listF (aCons (mVar 3) aNil))) aNil)) (mVar 2))))) (mRet (mC (.bl false))) mNext)
    (mSeq (mAsg (mTab (tabC tb_Lfacts) (mBin ixD (mVar 2) (mC (.int 0)))) (gNm 4))
    (mSeq (mAsg (mBin addD (mC (.int 1)) (mCall m_Ldraw (some 0) (aCons (mVar 1) (aCons (mVar 0) (aCons (mBi lenS (aCons (mVar 4) aNil)) aNil))))) (gNm 5))
    (mSeq (mAsg (mF (mLst (aCons (mBin (intOp subI) (mBin (intOp powI) (mC (.int 2)) (mC (.int 40))) (mC (.int 1))) (aCons (mBin (intOp powI) (mC (.int 2)) (mC (.int 40))) (aCons (mUn negD (mC (.int 1))) (aCons (mBin (intOp subI) (mC (.int 1)) (mBin (intOp powI) (mC (.int 2)) (mC (.int 40)))) (aCons (mUn negD (mBin (intOp powI) (mC (.int 2)) (mC (.int 40)))) (aCons (mC (.str "7")) (aCons (mC (.bl true)) aNil))))))))) (gNm 6))
    (mSeq (mAsg (mCall m_Ldraw (some 0) (aCons (mVar 1) (aCons (mVar 0) (aCons (mC (.int 7)) aNil)))) (gNm 7))
    (mSeq (mAsg (mBin addD (mBin addD (mSl slD (mVar 2) oNone (oSome (mVar 5))) (mTup (aCons (mBin ixD (mVar 6) (mVar 7)) aNil))) (mSl slD (mVar 2) (oSome (mBin addD (mVar 5) (mC (.int 1)))) oNone)) (gNm 8))
    (mSeq (mAsg (mOrV (mBin eqD (mVar 7) (mC (.int 0))) (mAndV (mBin (inD false) (mVar 7) (mTup (aCons (mC (.int 2)) (aCons (mC (.int 3)) aNil)))) (mBin eqD (mBin ixS (mVar 4) (mBin (intOp subI) (mVar 5) (mC (.int 1)))) (mC (.str "n"))))) (gNm 9))
    (mSeq (mIf (mOr (mNot (mTru (mBi (isiD "bool") (aCons (mCall m_is_record none (aCons (mVar 8) aNil)) aNil)))) (mTest (mBin neD (mCall m_is_record none (aCons (mVar 8) aNil)) (mVar 9)))) (mRet (mC (.bl false))) mNext)
    (mSeq (mIf (mAnd (mTru (mVar 9)) (mTest (mBin neD (mCallQ m_read_record (aCons (mCall m_cells_of none (aCons (mVar 8) aNil)) aNil)) (mVar 8)))) (mRet (mC (.bl false))) mNext)
    (mSeq (mAsg (mBin ixD (mF (mLst (aCons (mTup aNil) (aCons (mSl slD (mVar 2) oNone (oSome (mUn negD (mC (.int 1))))) (aCons (mBin addD (mVar 2) (mTup (aCons (mC (.int 0)) aNil))) (aCons (mBin addD (mTup (aCons (mC (.str "Time")) aNil)) (mSl slD (mVar 2) (oSome (mC (.int 1))) oNone)) (aCons (mBin addD (mTup (aCons (mC (.int 1)) aNil)) (mSl slD (mVar 2) (oSome (mC (.int 1))) oNone)) aNil))))))) (mCall m_Ldraw (some 0) (aCons (mVar 1) (aCons (mVar 0) (aCons (mC (.int 5)) aNil))))) (gNm 10))
    (mRet (mBin isBD (mCall m_is_record none (aCons (mVar 10) aNil)) (mC (.bl false))))))))))))))))))
/-- what the top has left for these -/
structure Txt (w : World) (K : PySem.W.Frag) (mg : Str → Option Value) : Prop where
  ok : True
  b_all : mg "all" = none
  b_bool : mg "bool" = none
  b_int : mg "int" = none
  b_isinstance : mg "isinstance" = none
  b_len : mg "len" = none
  b_list : mg "list" = none
  b_range : mg "range" = none
  b_reversed : mg "reversed" = none
  b_tuple : mg "tuple" = none
  b_zip : mg "zip" = none
  t_FACTS : ∃ a, mg "FACTS" = some (.ref a) ∧ TabOk K w a (tabC dc_FACTS)
  x_WORDS : ∃ a o, mg "WORDS" = some (.ref a) ∧ K.lookup a = some o ∧ tupS o ["time", "orbit", "clock", "key", "tag"] = true
  c_BASE : ∃ (v : V) (u : Value), mg "BASE" = some u ∧ RelV v u ∧ ∀ Hb : Hp, Rep K Hb v dc_BASE
  c_COUNT : ∃ (v : V) (u : Value), mg "COUNT" = some u ∧ RelV v u ∧ ∀ Hb : Hp, Rep K Hb v dc_COUNT
  c_LIMIT : ∃ (v : V) (u : Value), mg "LIMIT" = some u ∧ RelV v u ∧ ∀ Hb : Hp, Rep K Hb v dc_LIMIT
  c_LONGEST_FACT : ∃ (v : V) (u : Value), mg "LONGEST_FACT" = some u ∧ RelV v u ∧ ∀ Hb : Hp, Rep K Hb v dc_LONGEST_FACT
  c_WORDS : ∃ (v : V) (u : Value), mg "WORDS" = some u ∧ RelV v u ∧ ∀ Hb : Hp, Rep K Hb v dc_WORDS
section
variable {P : Program} {w : World} {K : PySem.W.Frag} {mg : Str → Option Value} {base : Heap}
theorem ok_Lrefill (T : Txt w K mg) {f : Addr} {fd : FuncData} (F : Fun K "_law_refill" "_law_refill" st_Lrefill f fd) : FnOk P w K mg base CX0 1 f fd ["script", "k"] (spM K m_Lrefill) := by
  refine keepG ?_ ?_
  exact fn_okM F sc_Lrefill (by decide) rfl fun cdv A outer s H E hr => ⟨_, (d_bC (d_set 2 sc_Lrefill.nd (d_int))
    (d_bC (d_ifS (d_truT (K := K) (d_var 0)) (d_b1 (d_set 2 sc_Lrefill.nd (d_ix (K := K) (d_var 0) (d_op op_mod r_mod (d_var 1) (d_biB (rc := rLenP K) call_lenP c_len T.b_len (by decide +kernel) (d_cons (d_var 0) d_nil)))))) d_b0)
    (d_bC (d_ifS (d_cmpT op_lt r_B0 (nomark _) (d_var 2) (d_int)) (d_b1 (d_set 2 sc_Lrefill.nd (d_op op_sub r_sub (d_int) (d_op (r := rMulP K) op_mulP r_mulP (d_int) (d_var 2))))) d_b0)
    (d_bC (d_ifS (d_wT (d_andW (d_cmpT op_ge r_B0 (nomark _) (d_var 2) (d_op op_pow r_pow (d_int) (d_int))) (d_and1 (d_cmpT op_lt r_B0 (nomark _) (d_var 1) (d_biB (rc := rLenP K) call_lenP c_len T.b_len (by decide +kernel) (d_cons (d_var 0) d_nil)))))) (d_b1 (d_ret (d_var 2))) d_b0)
    (d_b1 (d_ret (d_op op_mod r_mod (d_biT call_intP c_int T.b_int (by decide +kernel) (d_cons (d_op (r := rAddP K) op_addP r_addP (d_op (r := rMulP K) op_mulP r_mulP (d_biT call_intP c_int T.b_int (by decide +kernel) (d_cons (d_op (r := rAddP K) op_addP r_addP (d_op (r := rAddP K) op_addP r_addP (d_op (r := rMulP K) op_mulP r_mulP (d_var 2) (d_int)) (d_op (r := rMulP K) op_mulP r_mulP (d_var 1) (d_int))) (d_int)) d_nil)) (d_int)) (d_int)) d_nil)) (d_int))))))))⟩
  walk_at "zz"
theorem ok_Ldraw (T : Txt w K mg) {f_Lrefill : Addr} {fd_Lrefill : FuncData} (G_Lrefill : FnOk P w K mg base CX0 1 f_Lrefill fd_Lrefill ["script", "k"] (spM K m_Lrefill)) (g_Lrefill : mg "_law_refill" = some (.ref f_Lrefill)) (k_Lrefill : PySem.W.keepIn K (.ref f_Lrefill) = true) (b_Lrefill : Binds K fd_Lrefill ["script", "k"] []) {f : Addr} {fd : FuncData} (F : Fun K "_law_draw" "_law_draw" st_Ldraw f fd) : FnOk P w K mg base CX0 2 f fd ["state", "script", "size"] (spM K m_Ldraw) := by
  refine keepG ?_ ?_
  exact fn_okM F sc_Ldraw (by decide) rfl fun cdv A outer s H E hr => ⟨_, (d_bC (d_ifS (d_cmpT (r := rEqD K) (op_eqD hr.units) r_eq (nomark _) (d_ix (K := K) (d_var 0) (d_int)) (d_int)) (d_bC (d_setIx 0 (d_call none G_Lrefill (hr.mono (by decide)) g_Lrefill k_Lrefill b_Lrefill pass0 (d_cons (d_var 1) (d_cons (d_ix (K := K) (d_var 0) (d_int)) d_nil))) (d_int))
    (d_b1 (d_setIx 0 (d_op (r := rAddP K) op_addP r_addP (d_ix (K := K) (d_var 0) (d_int)) (d_int)) (d_int)))) d_b0)
    (d_bC (d_set 3 sc_Ldraw.nd (d_op op_mod r_mod (d_biT call_intP c_int T.b_int (by decide +kernel) (d_cons (d_ix (K := K) (d_var 0) (d_int)) d_nil)) (d_var 2)))
    (d_bC (d_setIx 0 (d_op op_fdivW r_fdiv (d_ix (K := K) (d_var 0) (d_int)) (d_var 2)) (d_int))
    (d_b1 (d_ret (d_var 3))))))⟩
  walk_at "zz"
theorem ok_Lfact (T : Txt w K mg) {f_Ldraw : Addr} {fd_Ldraw : FuncData} (G_Ldraw : FnOk P w K mg base CX0 2 f_Ldraw fd_Ldraw ["state", "script", "size"] (spM K m_Ldraw)) (g_Ldraw : mg "_law_draw" = some (.ref f_Ldraw)) (k_Ldraw : PySem.W.keepIn K (.ref f_Ldraw) = true) (b_Ldraw : Binds K fd_Ldraw ["state", "script", "size"] []) {f : Addr} {fd : FuncData} (F : Fun K "_law_fact" "_law_fact" st_Lfact f fd) : FnOk P w K mg base CX0 3 f fd ["state", "script", "kind"] (spM K m_Lfact) := by
  refine keepG ?_ ?_
  exact fn_okM F sc_Lfact (by decide) rfl fun cdv A outer s H E hr => ⟨_, (d_bC (d_set 3 sc_Lfact.nd (d_ix (K := K) (d_F (d_lst (d_cons (d_int) (d_cons (d_int) (d_cons (d_int) (d_cons (d_int) (d_cons (d_int) (d_cons (d_op op_pow r_pow (d_int) (d_int)) (d_cons (d_op op_pow r_pow (d_int) (d_int)) d_nil))))))))) (d_call (some 0) G_Ldraw (hr.mono (by decide)) g_Ldraw k_Ldraw b_Ldraw pass0 (d_cons (d_var 0) (d_cons (d_var 1) (d_cons (d_int) d_nil))))))
    (d_bC (d_set 4 sc_Lfact.nd (d_call (some 0) G_Ldraw (hr.mono (by decide)) g_Ldraw k_Ldraw b_Ldraw pass0 (d_cons (d_var 0) (d_cons (d_var 1) (d_cons (d_var 3) d_nil)))))
    (d_bC (d_ifS (d_cmpT (r := rEqD K) (op_eqD hr.units) r_eq (nomark _) (d_call (some 0) G_Ldraw (hr.mono (by decide)) g_Ldraw k_Ldraw b_Ldraw pass0 (d_cons (d_var 0) (d_cons (d_var 1) (d_cons (d_int) d_nil)))) (d_int)) (d_b1 (d_set 4 sc_Lfact.nd (d_op op_sub r_sub (d_var 3) (d_int)))) d_b0)
    (d_bC (d_ifS (d_wT (d_andW (d_cmpT (r := rEqD K) (op_eqD hr.units) r_eq (nomark _) (d_var 2) (d_str)) (d_and1 (d_cmpT (r := rEqD K) (op_eqD hr.units) r_eq (nomark _) (d_call (some 0) G_Ldraw (hr.mono (by decide)) g_Ldraw k_Ldraw b_Ldraw pass0 (d_cons (d_var 0) (d_cons (d_var 1) (d_cons (d_int) d_nil)))) (d_int))))) (d_b1 (d_ret (d_un un_neg r_neg (d_var 4)))) d_b0)
    (d_b1 (d_ret (d_var 4)))))))⟩
  walk_at "zz"
theorem ok_Lfacts (T : Txt w K mg) {f : Addr} {fd : FuncData} (F : Fun K "_law_facts" "_law_facts" st_Lfacts f fd) : FnOk P w K mg base CX0 1 f fd [] (spB tb_Lfacts) := fn_okB F sc_Lfacts (by decide) (by decide) fun cdv A outer s H E hr => (pss_one (ps_ret (pe_disp (pps_cons pe_str pe_str (pps_cons pe_str pe_str (pps_cons pe_str pe_str (pps_cons pe_str pe_str (pps_cons pe_str pe_str pps_nil))))) rfl rfl (by simp) (by decide))))
theorem ok_Lrecord (T : Txt w K mg) {f_Ldraw : Addr} {fd_Ldraw : FuncData} (G_Ldraw : FnOk P w K mg base CX0 2 f_Ldraw fd_Ldraw ["state", "script", "size"] (spM K m_Ldraw)) (g_Ldraw : mg "_law_draw" = some (.ref f_Ldraw)) (k_Ldraw : PySem.W.keepIn K (.ref f_Ldraw) = true) (b_Ldraw : Binds K fd_Ldraw ["state", "script", "size"] []) {f_Lfact : Addr} {fd_Lfact : FuncData} (G_Lfact : FnOk P w K mg base CX0 3 f_Lfact fd_Lfact ["state", "script", "kind"] (spM K m_Lfact)) (g_Lfact : mg "_law_fact" = some (.ref f_Lfact)) (k_Lfact : PySem.W.keepIn K (.ref f_Lfact) = true) (b_Lfact : Binds K fd_Lfact ["state", "script", "kind"] []) {f_Lfacts : Addr} {fd_Lfacts : FuncData} (G_Lfacts : FnOk P w K mg base CX0 1 f_Lfacts fd_Lfacts [] (spB tb_Lfacts)) (g_Lfacts : mg "_law_facts" = some (.ref f_Lfacts)) (k_Lfacts : PySem.W.keepIn K (.ref f_Lfacts) = true) (b_Lfacts : Binds K fd_Lfacts [] []) {f : Addr} {fd : FuncData} (F : Fun K "_law_record" "_law_record" st_Lrecord f fd) : FnOk P w K mg base CX0 4 f fd ["state", "script"] (spM K m_Lrecord) := by
  refine keepG ?_ ?_
  exact fn_okM F sc_Lrecord (by decide) rfl fun cdv A outer s H E hr => ⟨_, (d_bC (d_set 2 sc_Lrecord.nd (d_ix (K := K) (d_F (d_lst (d_cons (d_str) (d_cons (d_str) (d_cons (d_str) (d_cons (d_str) (d_cons (d_str) d_nil))))))) (d_call (some 0) G_Ldraw (hr.mono (by decide)) g_Ldraw k_Ldraw b_Ldraw pass0 (d_cons (d_var 0) (d_cons (d_var 1) (d_cons (d_int) d_nil))))))
    (d_b1 (d_ret (d_biT (rc := rTupleP K) call_tupleP c_tuple T.b_tuple (by decide +kernel) (d_cons (d_op (r := rAddP K) op_addP r_addP (d_F (d_lst (d_cons (d_var 2) d_nil))) (d_F (d_lc rfl sc_Lrecord.nd (blkOk_by (own := [("kind", 3)]) (N := N_Lrecord) (sc := defScope st_Lrecord) (by decide +kernel)) (d_iTxt (d_tabB (units_1 hr) G_Lfacts (hr.mono (by decide)) g_Lfacts k_Lfacts b_Lfacts pass0 (d_var 2))) (fun _ _ _ _ _ => (d_gN 3 sc_Lrecord.nd)) (fun _ _ _ _ _ => d_ts0) (fun _ _ _ _ _ => (d_call (some 0) G_Lfact (hr.mono (by decide)) g_Lfact k_Lfact b_Lfact pass0 (d_cons (d_var 0) (d_cons (d_var 1) (d_cons (d_var 3) d_nil))))) (by decide) (by rfl)))) d_nil)))))⟩
  walk_at "zz"
theorem ok_cells_of_count_ (T : Txt w K mg) {f : Addr} {fd : FuncData} (F : Fun K "_cells_of_count" "_cells_of_count" st_cells_of_count_ f fd) : FnOk P w K mg base CX0 1 f fd ["count"] (spM K m_cells_of_count_) := by
  refine keepG ?_ ?_
  obtain ⟨v_BASE, u_BASE, c1_BASE, c2_BASE, c3_BASE⟩ := T.c_BASE
  exact fn_okM F sc_cells_of_count_ (by decide) rfl fun cdv A outer s H E hr => ⟨_, (d_bC (d_setF 1 sc_cells_of_count_.nd (d_lst d_nil))
    (d_bC (d_while (fun _ => 1000) PassesOwn.never (d_cmpT op_ge r_B0 (nomark _) (d_var 0) (d_glob c1_BASE c2_BASE c3_BASE)) (d_bC (d_app (K := K) 1 (d_op (r := rAddP K) op_addP r_addP (d_glob c1_BASE c2_BASE c3_BASE) (d_op op_mod r_mod (d_var 0) (d_glob c1_BASE c2_BASE c3_BASE))))
    (d_b1 (d_aug 0 sc_cells_of_count_.nd iop_fdivW r_fdiv (d_glob c1_BASE c2_BASE c3_BASE)))))
    (d_b1 (d_ret (d_op (r := rAddP K) op_addP r_addP (d_var 1) (d_F (d_lst (d_cons (d_var 0) d_nil))))))))⟩
  walk_at "zz"
theorem ok_count_of_ (T : Txt w K mg) {f : Addr} {fd : FuncData} (F : Fun K "_count_of" "_count_of" st_count_of_ f fd) : FnOk P w K mg base CX0 1 f fd ["number"] (spM K m_count_of_) := by
  refine keepG ?_ ?_
  exact fn_okM F sc_count_of_ (by decide) rfl fun cdv A outer s H E hr => ⟨_, (d_b1 (d_ret (d_if (d_cmpT op_ge r_B0 (nomark _) (d_var 0) (d_int)) (d_op (r := rMulP K) op_mulP r_mulP (d_int) (d_var 0)) (d_op op_sub r_sub (d_op (r := rMulP K) op_mulP r_mulP (d_un un_neg r_neg (d_int)) (d_var 0)) (d_int)))))⟩
  walk_at "zz"
theorem ok_cells_of (T : Txt w K mg) {f_cells_of_count_ : Addr} {fd_cells_of_count_ : FuncData} (G_cells_of_count_ : FnOk P w K mg base CX0 1 f_cells_of_count_ fd_cells_of_count_ ["count"] (spM K m_cells_of_count_)) (g_cells_of_count_ : mg "_cells_of_count" = some (.ref f_cells_of_count_)) (k_cells_of_count_ : PySem.W.keepIn K (.ref f_cells_of_count_) = true) (b_cells_of_count_ : Binds K fd_cells_of_count_ ["count"] []) {f_count_of_ : Addr} {fd_count_of_ : FuncData} (G_count_of_ : FnOk P w K mg base CX0 1 f_count_of_ fd_count_of_ ["number"] (spM K m_count_of_)) (g_count_of_ : mg "_count_of" = some (.ref f_count_of_)) (k_count_of_ : PySem.W.keepIn K (.ref f_count_of_) = true) (b_count_of_ : Binds K fd_count_of_ ["number"] []) {f : Addr} {fd : FuncData} (F : Fun K "cells_of" "cells_of" st_cells_of f fd) : FnOk P w K mg base CX0 2 f fd ["record"] (spM K m_cells_of) := by
  refine keepG ?_ ?_
  obtain ⟨ad_FACTS, t1_FACTS, t2_FACTS⟩ := T.t_FACTS
  obtain ⟨xa_WORDS, xo_WORDS, ix1_WORDS, ix2_WORDS, ix3_WORDS⟩ := T.x_WORDS
  obtain ⟨v_COUNT, u_COUNT, c1_COUNT, c2_COUNT, c3_COUNT⟩ := T.c_COUNT
  exact fn_okM F sc_cells_of (by decide) rfl fun cdv A outer s H E hr => ⟨_, (d_bC (d_setF 1 sc_cells_of.nd (d_lst (d_cons (d_op (r := rAddP K) op_addP r_addP (d_indexTC ix1_WORDS ix2_WORDS ix3_WORDS (d_ix (K := K) (d_var 0) (d_int))) (d_int)) d_nil)))
    (d_bC (d_for rfl PassesOwn.never (d_iZX T.b_zip (d_cons (d_tab t1_FACTS t2_FACTS (d_ix (K := K) (d_var 0) (d_int))) (d_cons (d_sl (K := K) (d_var 0) (d_oS (d_int)) d_oN) d_nil))) (d_gT (K := K) rfl (d_gsC (d_gN 2 sc_cells_of.nd) (d_gsC (d_gN 3 sc_cells_of.nd) d_gs0))) (d_b1 (d_ext (K := K) 1 (d_call none G_cells_of_count_ (hr.mono (by decide)) g_cells_of_count_ k_cells_of_count_ b_cells_of_count_ pass0 (d_cons (d_if (d_cmpT (r := rEqD K) (op_eqD hr.units) r_eq (nomark _) (d_var 2) (d_glob c1_COUNT c2_COUNT c3_COUNT)) (d_var 3) (d_call none G_count_of_ (hr.mono (by decide)) g_count_of_ k_count_of_ b_count_of_ pass0 (d_cons (d_var 3) d_nil))) d_nil)))))
    (d_b1 (d_ret (d_var 1)))))⟩
  walk_at "zz"
theorem ok_is_whole (T : Txt w K mg) {f : Addr} {fd : FuncData} (F : Fun K "is_whole" "is_whole" st_is_whole f fd) : FnOk P w K mg base CX0 1 f fd ["value"] (spM K m_is_whole) := by
  refine keepG ?_ ?_
  exact fn_okM F sc_is_whole (by decide) rfl fun cdv A outer s H E hr => ⟨_, (d_b1 (d_ret (d_and (d_isi (K := K) (T := "int") T.b_isinstance T.b_int (d_var 0) (by decide +kernel)) (d_one (d_not (d_isi (K := K) (T := "bool") T.b_isinstance T.b_bool (d_var 0) (by decide +kernel)))))))⟩
  walk_at "zz"
theorem ok_fits_ (T : Txt w K mg) {f_is_whole : Addr} {fd_is_whole : FuncData} (G_is_whole : FnOk P w K mg base CX0 1 f_is_whole fd_is_whole ["value"] (spM K m_is_whole)) (g_is_whole : mg "is_whole" = some (.ref f_is_whole)) (k_is_whole : PySem.W.keepIn K (.ref f_is_whole) = true) (b_is_whole : Binds K fd_is_whole ["value"] []) {f : Addr} {fd : FuncData} (F : Fun K "_fits" "_fits" st_fits_ f fd) : FnOk P w K mg base CX0 2 f fd ["kind", "fact"] (spM K m_fits_) := by
  refine keepG ?_ ?_
  obtain ⟨v_COUNT, u_COUNT, c1_COUNT, c2_COUNT, c3_COUNT⟩ := T.c_COUNT
  obtain ⟨v_LIMIT, u_LIMIT, c1_LIMIT, c2_LIMIT, c3_LIMIT⟩ := T.c_LIMIT
  exact fn_okM F sc_fits_ (by decide) rfl fun cdv A outer s H E hr => ⟨_, (d_bC (d_set 2 sc_fits_.nd (d_if (d_cmpT (r := rEqD K) (op_eqD hr.units) r_eq (nomark _) (d_var 0) (d_glob c1_COUNT c2_COUNT c3_COUNT)) (d_int) (d_op op_sub r_sub (d_int) (d_glob c1_LIMIT c2_LIMIT c3_LIMIT))))
    (d_b1 (d_ret (d_and (d_call none G_is_whole (hr.mono (by decide)) g_is_whole k_is_whole b_is_whole pass0 (d_cons (d_var 1) d_nil)) (d_one (d_chain op_le r_B0 op_lt r_B0 (d_var 2) (d_var 1) (d_glob c1_LIMIT c2_LIMIT c3_LIMIT)))))))⟩
  walk_at "zz"
theorem ok_is_record (T : Txt w K mg) {f_fits_ : Addr} {fd_fits_ : FuncData} (G_fits_ : FnOk P w K mg base CX0 2 f_fits_ fd_fits_ ["kind", "fact"] (spM K m_fits_)) (g_fits_ : mg "_fits" = some (.ref f_fits_)) (k_fits_ : PySem.W.keepIn K (.ref f_fits_) = true) (b_fits_ : Binds K fd_fits_ ["kind", "fact"] []) {f : Addr} {fd : FuncData} (F : Fun K "is_record" "is_record" st_is_record f fd) : FnOk P w K mg base CX0 3 f fd ["value"] (spM K m_is_record) := by
  refine keepG ?_ ?_
  obtain ⟨ad_FACTS, t1_FACTS, t2_FACTS⟩ := T.t_FACTS
  obtain ⟨v_WORDS, u_WORDS, c1_WORDS, c2_WORDS, c3_WORDS⟩ := T.c_WORDS
  exact fn_okM F sc_is_record (by decide) rfl fun cdv A outer s H E hr => ⟨_, (d_bC (d_ifS (d_wT (d_orW (d_notT (d_truT (K := K) (d_isi (K := K) (T := "tuple") T.b_isinstance T.b_tuple (d_var 0) (by decide +kernel)))) (d_orW (d_cmpT (r := rEqD K) (op_eqD hr.units) r_eq (nomark _) (d_biB (rc := rLenP K) call_lenP c_len T.b_len (by decide +kernel) (d_cons (d_var 0) d_nil)) (d_int)) (d_or1 (d_cmpT op_notIn_seq (r_inS true) (by with_unfolding_all rfl) (d_ix (K := K) (d_var 0) (d_int)) (d_glob c1_WORDS c2_WORDS c3_WORDS)))))) (d_b1 (d_ret (d_bl))) d_b0)
    (d_bC (d_set 1 sc_is_record.nd (d_tab t1_FACTS t2_FACTS (d_ix (K := K) (d_var 0) (d_int))))
    (d_b1 (d_ret (d_and (d_cmp (r := rEqD K) (op_eqD hr.units) r_eq (nomark _) (d_biB (rc := rLenP K) call_lenP c_len T.b_len (by decide +kernel) (d_cons (d_var 0) d_nil)) (d_op (r := rAddP K) op_addP r_addP (d_int) (d_biB (rc := rLenT K) call_lenT c_lenS T.b_len (by decide +kernel) (d_cons (d_var 1) d_nil)))) (d_one (d_biB (rc := rAll K) (cr_all rfl) c_all T.b_all (by decide +kernel) (d_cons (d_F (d_lc rfl sc_is_record.nd (blkOk_by (own := [("kind", 2), ("fact", 3)]) (N := N_is_record) (sc := defScope st_is_record) (by decide +kernel)) (d_iZX T.b_zip (d_cons (d_var 1) (d_cons (d_sl (K := K) (d_var 0) (d_oS (d_int)) d_oN) d_nil))) (fun _ _ _ _ _ => (d_gT (K := K) rfl (d_gsC (d_gN 2 sc_is_record.nd) (d_gsC (d_gN 3 sc_is_record.nd) d_gs0)))) (fun _ _ _ _ _ => d_ts0) (fun _ _ _ _ _ => (d_call none G_fits_ (hr.mono (by decide)) g_fits_ k_fits_ b_fits_ pass0 (d_cons (d_var 2) (d_cons (d_var 3) d_nil)))) (by decide) (by rfl))) d_nil))))))))⟩
  walk_at "zz"
theorem ok_Lcount_cells (T : Txt w K mg) {f : Addr} {fd : FuncData} (F : Fun K "_law_count_cells" "_law_count_cells" st_Lcount_cells f fd) (g_Lcount_cells : mg "_law_count_cells" = some (.ref f)) (k_Lcount_cells : PySem.W.keepIn K (.ref f) = true) (b_Lcount_cells : Binds K fd ["count"] []) : ∀ dep : Nat, FnOk P w K mg base CX0 (1 + dep) f fd ["count"] (spM K (m_Lcount_cells dep)) := by
  refine keepG ?_ ?_
  intro dep
  induction dep with
  | zero => exact fnOk_none
  | succ dep G_Lcount_cells => exact fn_okM F sc_Lcount_cells (by decide) rfl fun cdv A outer s H E hr => ⟨_, (d_bC (d_ifS (d_cmpT op_lt r_B0 (nomark _) (d_var 0) (d_int)) (d_b1 (d_ret (d_F (d_lst (d_cons (d_var 0) d_nil))))) d_b0)
    (d_b1 (d_ret (d_op (r := rAddP K) op_addP r_addP (d_F (d_lst (d_cons (d_op (r := rAddP K) op_addP r_addP (d_int) (d_op op_mod r_mod (d_biT call_intP c_int T.b_int (by decide +kernel) (d_cons (d_var 0) d_nil)) (d_int))) d_nil))) (d_call none G_Lcount_cells (hr.mono (by show _ ≤ 1 + dep; omega)) g_Lcount_cells k_Lcount_cells b_Lcount_cells pass0 (d_cons (d_op op_fdivW r_fdiv (d_var 0) (d_int)) d_nil))))))⟩
  walk_at "zz"
theorem ok_Lcells (T : Txt w K mg) {f_Lfacts : Addr} {fd_Lfacts : FuncData} (G_Lfacts : FnOk P w K mg base CX0 1 f_Lfacts fd_Lfacts [] (spB tb_Lfacts)) (g_Lfacts : mg "_law_facts" = some (.ref f_Lfacts)) (k_Lfacts : PySem.W.keepIn K (.ref f_Lfacts) = true) (b_Lfacts : Binds K fd_Lfacts [] []) {f_Lcount_cells : Addr} {fd_Lcount_cells : FuncData} (G_Lcount_cells : FnOk P w K mg base CX0 11 f_Lcount_cells fd_Lcount_cells ["count"] (spM K (m_Lcount_cells 10))) (g_Lcount_cells : mg "_law_count_cells" = some (.ref f_Lcount_cells)) (k_Lcount_cells : PySem.W.keepIn K (.ref f_Lcount_cells) = true) (b_Lcount_cells : Binds K fd_Lcount_cells ["count"] []) {f : Addr} {fd : FuncData} (F : Fun K "_law_cells" "_law_cells" st_Lcells f fd) : FnOk P w K mg base CX0 12 f fd ["record"] (spM K m_Lcells) := by
  refine keepG ?_ ?_
  exact fn_okM F sc_Lcells (by decide) rfl fun cdv A outer s H E hr => ⟨_, (d_bC (d_set 1 sc_Lcells.nd (d_tabB (units_1 hr) G_Lfacts (hr.mono (by decide)) g_Lfacts k_Lfacts b_Lfacts pass0 (d_ix (K := K) (d_var 0) (d_int))))
    (d_bC (d_set 2 sc_Lcells.nd (d_F (d_lst (d_cons (d_op (r := rAddP K) op_addP r_addP (d_indexT (d_F (d_lst (d_cons (d_str) (d_cons (d_str) (d_cons (d_str) (d_cons (d_str) (d_cons (d_str) d_nil))))))) (d_ix (K := K) (d_var 0) (d_int))) (d_int)) d_nil))))
    (d_bC (d_for rfl PassesOwn.never (d_iR1 T.b_range (d_cons (d_biB (rc := rLenT K) call_lenT c_lenS T.b_len (by decide +kernel) (d_cons (d_var 1) d_nil)) d_nil)) (d_gN 3 sc_Lcells.nd) (d_bC (d_set 4 sc_Lcells.nd (d_ix (K := K) (d_var 0) (d_op (r := rAddP K) op_addP r_addP (d_var 3) (d_int))))
    (d_bC (d_ifS (d_cmpT (r := rEqD K) (op_eqD hr.units) r_eq (nomark _) (d_ixS (d_var 1) (d_var 3)) (d_str)) (d_b1 (d_set 4 sc_Lcells.nd (d_ix (K := K) (d_F (d_lst (d_cons (d_op (r := rMulP K) op_mulP r_mulP (d_int) (d_var 4)) (d_cons (d_op op_sub r_sub (d_op (r := rMulP K) op_mulP r_mulP (d_un un_neg r_neg (d_int)) (d_var 4)) (d_int)) d_nil)))) (d_biT call_intP c_int T.b_int (by decide +kernel) (d_cons (d_cmp op_lt r_B0 (nomark _) (d_var 4) (d_int)) d_nil))))) d_b0)
    (d_b1 (d_set 2 sc_Lcells.nd (d_op (r := rAddP K) op_addP r_addP (d_var 2) (d_call none G_Lcount_cells (hr.mono (by decide)) g_Lcount_cells k_Lcount_cells b_Lcount_cells pass0 (d_cons (d_var 4) d_nil))))))))
    (d_b1 (d_ret (d_var 2))))))⟩
  walk_at "zz"
theorem ok_RangekeepError_init {f : Addr} {fd : FuncData} (F : Fun K "__init__" "RangekeepError.__init__" st_RangekeepError_init f fd) : FnOk P w K mg base CX0 1 f fd ["self", "place"] (spI K) := ok_init F sc_RangekeepError_init fun cdv A outer s H E => pss_one (ps_ost (d_var 0).pe (d_var 1).pe)
theorem ok_read_count_ (T : Txt w K mg) {fI : Addr} {C_InvalidFrame : Addr} (E_InvalidFrame : ExcOk K mg 2 C_InvalidFrame fI) {fd_RangekeepError_init : FuncData} (G_RangekeepError_init : FnOk P w K mg base CX0 1 fI fd_RangekeepError_init ["self", "place"] (spI K)) (b_RangekeepError_init : Binds K fd_RangekeepError_init ["self", "place"] []) {f : Addr} {fd : FuncData} (F : Fun K "_read_count" "_read_count" st_read_count_ f fd) : FnOk P w K mg base (L2.CX P w) 3 f fd ["cells", "at"] (spX K m_read_count_) := by
  refine keepG ?_ ?_
  obtain ⟨v_BASE, u_BASE, c1_BASE, c2_BASE, c3_BASE⟩ := T.c_BASE
  obtain ⟨v_LONGEST_FACT, u_LONGEST_FACT, c1_LONGEST_FACT, c2_LONGEST_FACT, c3_LONGEST_FACT⟩ := T.c_LONGEST_FACT
  exact fn_okX F sc_read_count_ (by decide) rfl fun cdv A outer s H E hr tk => ⟨_, (d_bC (d_set 2 sc_read_count_.nd (d_var 1))
    (d_bC (d_while (fun _ => 1000) PassesOwn.leaving (d_wT (d_andW (d_cmpT op_lt r_B0 (nomark _) (d_var 2) (d_biB (rc := rLenP K) call_lenP c_len T.b_len (by decide +kernel) (d_cons (d_var 0) d_nil))) (d_and1 (d_cmpT op_ge r_B0 (nomark _) (d_ix (K := K) (d_var 0) (d_var 2)) (d_glob c1_BASE c2_BASE c3_BASE))))) (d_bC (d_aug 2 sc_read_count_.nd iop_add r_add (d_int))
    (d_b1 (d_ifS (d_cmpT (r := rEqD K) (op_eqD hr.units) r_eq (nomark _) (d_op op_sub r_sub (d_var 2) (d_var 1)) (d_glob c1_LONGEST_FACT c2_LONGEST_FACT c3_LONGEST_FACT)) (d_b1 (d_raise E_InvalidFrame G_RangekeepError_init (hr.mono (by decide)) b_RangekeepError_init rfl tk (d_var 1))) d_b0))))
    (d_bC (d_ifS (d_cmpT (r := rEqD K) (op_eqD hr.units) r_eq (nomark _) (d_var 2) (d_biB (rc := rLenP K) call_lenP c_len T.b_len (by decide +kernel) (d_cons (d_var 0) d_nil))) (d_b1 (d_raise E_InvalidFrame G_RangekeepError_init (hr.mono (by decide)) b_RangekeepError_init rfl tk (d_var 2))) d_b0)
    (d_bC (d_ifS (d_wT (d_andW (d_cmpT op_gt r_B0 (nomark _) (d_var 2) (d_var 1)) (d_and1 (d_cmpT (r := rEqD K) (op_eqD hr.units) r_eq (nomark _) (d_ix (K := K) (d_var 0) (d_var 2)) (d_int))))) (d_b1 (d_raise E_InvalidFrame G_RangekeepError_init (hr.mono (by decide)) b_RangekeepError_init rfl tk (d_var 1))) d_b0)
    (d_bC (d_set 3 sc_read_count_.nd (d_int))
    (d_bC (d_for rfl PassesOwn.leaving (d_iRev (K := K) T.b_reversed (d_sl (K := K) (d_var 0) (d_oS (d_var 1)) (d_oS (d_op (r := rAddP K) op_addP r_addP (d_var 2) (d_int))))) (d_gN 4 sc_read_count_.nd) (d_b1 (d_set 3 sc_read_count_.nd (d_op (r := rAddP K) op_addP r_addP (d_op (r := rMulP K) op_mulP r_mulP (d_var 3) (d_glob c1_BASE c2_BASE c3_BASE)) (d_op op_mod r_mod (d_var 4) (d_glob c1_BASE c2_BASE c3_BASE))))))
    (d_b1 (d_ret (d_tup (d_cons (d_var 3) (d_cons (d_op (r := rAddP K) op_addP r_addP (d_var 2) (d_int)) d_nil)))))))))))⟩
  walk_at "zz"
theorem ok_number_of_ (T : Txt w K mg) {f : Addr} {fd : FuncData} (F : Fun K "_number_of" "_number_of" st_number_of_ f fd) : FnOk P w K mg base CX0 1 f fd ["count"] (spM K m_number_of_) := by
  refine keepG ?_ ?_
  exact fn_okM F sc_number_of_ (by decide) rfl fun cdv A outer s H E hr => ⟨_, (d_b1 (d_ret (d_if (d_cmpT (r := rEqD K) (op_eqD hr.units) r_eq (nomark _) (d_op op_mod r_mod (d_var 0) (d_int)) (d_int)) (d_op op_fdivW r_fdiv (d_var 0) (d_int)) (d_op op_fdivW r_fdiv (d_un un_neg r_neg (d_op (r := rAddP K) op_addP r_addP (d_var 0) (d_int))) (d_int)))))⟩
  walk_at "zz"
theorem ok_read_record (T : Txt w K mg) {fI : Addr} {C_InvalidFrame : Addr} (E_InvalidFrame : ExcOk K mg 2 C_InvalidFrame fI) {fd_RangekeepError_init : FuncData} (G_RangekeepError_init : FnOk P w K mg base CX0 1 fI fd_RangekeepError_init ["self", "place"] (spI K)) (b_RangekeepError_init : Binds K fd_RangekeepError_init ["self", "place"] []) {f_read_count_ : Addr} {fd_read_count_ : FuncData} (G_read_count_ : FnOk P w K mg base (L2.CX P w) 3 f_read_count_ fd_read_count_ ["cells", "at"] (spX K m_read_count_)) (g_read_count_ : mg "_read_count" = some (.ref f_read_count_)) (k_read_count_ : PySem.W.keepIn K (.ref f_read_count_) = true) (b_read_count_ : Binds K fd_read_count_ ["cells", "at"] []) {f_number_of_ : Addr} {fd_number_of_ : FuncData} (G_number_of_ : FnOk P w K mg base CX0 1 f_number_of_ fd_number_of_ ["count"] (spM K m_number_of_)) (g_number_of_ : mg "_number_of" = some (.ref f_number_of_)) (k_number_of_ : PySem.W.keepIn K (.ref f_number_of_) = true) (b_number_of_ : Binds K fd_number_of_ ["count"] []) {f_fits_ : Addr} {fd_fits_ : FuncData} (G_fits_ : FnOk P w K mg base CX0 2 f_fits_ fd_fits_ ["kind", "fact"] (spM K m_fits_)) (g_fits_ : mg "_fits" = some (.ref f_fits_)) (k_fits_ : PySem.W.keepIn K (.ref f_fits_) = true) (b_fits_ : Binds K fd_fits_ ["kind", "fact"] []) {f : Addr} {fd : FuncData} (F : Fun K "read_record" "read_record" st_read_record f fd) : FnOk P w K mg base (L2.CX P w) 4 f fd ["cells"] (spX K m_read_record) := by
  refine keepG ?_ ?_
  obtain ⟨ad_FACTS, t1_FACTS, t2_FACTS⟩ := T.t_FACTS
  obtain ⟨v_COUNT, u_COUNT, c1_COUNT, c2_COUNT, c3_COUNT⟩ := T.c_COUNT
  obtain ⟨v_WORDS, u_WORDS, c1_WORDS, c2_WORDS, c3_WORDS⟩ := T.c_WORDS
  exact fn_okX F sc_read_record (by decide) rfl fun cdv A outer s H E hr tk => ⟨_, (d_bC (d_ifS (d_wT (d_orW (d_cmpT (r := rEqD K) (op_eqD hr.units) r_eq (nomark _) (d_biB (rc := rLenP K) call_lenP c_len T.b_len (by decide +kernel) (d_cons (d_var 0) d_nil)) (d_int)) (d_or1 (d_notT (d_chainT op_le r_B0 op_le r_B0 (d_int) (d_ix (K := K) (d_var 0) (d_int)) (d_biB (rc := rLenP K) call_lenP c_len T.b_len (by decide +kernel) (d_cons (d_glob c1_WORDS c2_WORDS c3_WORDS) d_nil))))))) (d_b1 (d_raise E_InvalidFrame G_RangekeepError_init (hr.mono (by decide)) b_RangekeepError_init rfl tk (d_int))) d_b0)
    (d_bC (d_set 1 sc_read_record.nd (d_ix (K := K) (d_glob c1_WORDS c2_WORDS c3_WORDS) (d_op op_sub r_sub (d_ix (K := K) (d_var 0) (d_int)) (d_int))))
    (d_bC (d_parLP 2 3 rfl sc_read_record.nd (by decide) (d_lst d_nil) (d_int) (pa_cons (d_lst d_nil).pe (pa_cons (d_int).pe pa_nil)) (by rfl))
    (d_bC (d_for rfl PassesOwn.leaving (d_iTxt (d_tab t1_FACTS t2_FACTS (d_var 1))) (d_gN 4 sc_read_record.nd) (d_bC (d_asgX (dx_call G_read_count_ (hr.mono (by decide)) g_read_count_ k_read_count_ b_read_count_ tk (dx_cons (dx_E (d_var 0)) (dx_cons (dx_E (d_var 3)) dx_nil))) (d_gT (K := K) rfl (d_gsC (d_gN 5 sc_read_record.nd) (d_gsC (d_gN 6 sc_read_record.nd) d_gs0))))
    (d_bC (d_set 7 sc_read_record.nd (d_if (d_cmpT (r := rEqD K) (op_eqD hr.units) r_eq (nomark _) (d_var 4) (d_glob c1_COUNT c2_COUNT c3_COUNT)) (d_var 5) (d_call none G_number_of_ (hr.mono (by decide)) g_number_of_ k_number_of_ b_number_of_ pass0 (d_cons (d_var 5) d_nil))))
    (d_bC (d_ifS (d_notT (d_truT (K := K) (d_call none G_fits_ (hr.mono (by decide)) g_fits_ k_fits_ b_fits_ pass0 (d_cons (d_var 4) (d_cons (d_var 7) d_nil))))) (d_b1 (d_raise E_InvalidFrame G_RangekeepError_init (hr.mono (by decide)) b_RangekeepError_init rfl tk (d_var 3))) d_b0)
    (d_bC (d_app (K := K) 2 (d_var 7))
    (d_b1 (d_set 3 sc_read_record.nd (d_var 6))))))))
    (d_bC (d_ifS (d_cmpT op_lt r_B0 (nomark _) (d_var 3) (d_biB (rc := rLenP K) call_lenP c_len T.b_len (by decide +kernel) (d_cons (d_var 0) d_nil))) (d_b1 (d_raise E_InvalidFrame G_RangekeepError_init (hr.mono (by decide)) b_RangekeepError_init rfl tk (d_var 3))) d_b0)
    (d_b1 (d_ret (d_tupSt (d_var 1) (d_var 2)))))))))⟩
  walk_at "zz"
theorem ok_law (T : Txt w K mg) {f_Lrecord : Addr} {fd_Lrecord : FuncData} (G_Lrecord : FnOk P w K mg base CX0 4 f_Lrecord fd_Lrecord ["state", "script"] (spM K m_Lrecord)) (g_Lrecord : mg "_law_record" = some (.ref f_Lrecord)) (k_Lrecord : PySem.W.keepIn K (.ref f_Lrecord) = true) (b_Lrecord : Binds K fd_Lrecord ["state", "script"] []) {f_cells_of : Addr} {fd_cells_of : FuncData} (G_cells_of : FnOk P w K mg base CX0 2 f_cells_of fd_cells_of ["record"] (spM K m_cells_of)) (g_cells_of : mg "cells_of" = some (.ref f_cells_of)) (k_cells_of : PySem.W.keepIn K (.ref f_cells_of) = true) (b_cells_of : Binds K fd_cells_of ["record"] []) {f_Ldraw : Addr} {fd_Ldraw : FuncData} (G_Ldraw : FnOk P w K mg base CX0 2 f_Ldraw fd_Ldraw ["state", "script", "size"] (spM K m_Ldraw)) (g_Ldraw : mg "_law_draw" = some (.ref f_Ldraw)) (k_Ldraw : PySem.W.keepIn K (.ref f_Ldraw) = true) (b_Ldraw : Binds K fd_Ldraw ["state", "script", "size"] []) {f_Lfacts : Addr} {fd_Lfacts : FuncData} (G_Lfacts : FnOk P w K mg base CX0 1 f_Lfacts fd_Lfacts [] (spB tb_Lfacts)) (g_Lfacts : mg "_law_facts" = some (.ref f_Lfacts)) (k_Lfacts : PySem.W.keepIn K (.ref f_Lfacts) = true) (b_Lfacts : Binds K fd_Lfacts [] []) {f_is_record : Addr} {fd_is_record : FuncData} (G_is_record : FnOk P w K mg base CX0 3 f_is_record fd_is_record ["value"] (spM K m_is_record)) (g_is_record : mg "is_record" = some (.ref f_is_record)) (k_is_record : PySem.W.keepIn K (.ref f_is_record) = true) (b_is_record : Binds K fd_is_record ["value"] []) {f_Lcells : Addr} {fd_Lcells : FuncData} (G_Lcells : FnOk P w K mg base CX0 12 f_Lcells fd_Lcells ["record"] (spM K m_Lcells)) (g_Lcells : mg "_law_cells" = some (.ref f_Lcells)) (k_Lcells : PySem.W.keepIn K (.ref f_Lcells) = true) (b_Lcells : Binds K fd_Lcells ["record"] []) {f_read_record : Addr} {fd_read_record : FuncData} (G_read_record : FnOk P w K mg base (L2.CX P w) 4 f_read_record fd_read_record ["cells"] (spX K m_read_record)) (g_read_record : mg "read_record" = some (.ref f_read_record)) (k_read_record : PySem.W.keepIn K (.ref f_read_record) = true) (b_read_record : Binds K fd_read_record ["cells"] []) {f : Addr} {fd : FuncData} (F : Fun K "law" "law" st_law f fd) : FnOk P w K mg base CX0 13 f fd ["script"] (spM K m_law) := by
  refine keepG ?_ ?_
  exact fn_okM F sc_law (by decide) rfl fun cdv A outer s H E hr => ⟨_, (d_bC (d_setF 1 sc_law.nd (d_lst (d_cons (d_int) (d_cons (d_int) d_nil))))
    (d_bC (d_set 2 sc_law.nd (d_call (some 0) G_Lrecord (hr.mono (by decide)) g_Lrecord k_Lrecord b_Lrecord pass0 (d_cons (d_var 1) (d_cons (d_var 0) d_nil))))
    (d_bC (d_set 3 sc_law.nd (d_call none G_cells_of (hr.mono (by decide)) g_cells_of k_cells_of b_cells_of pass0 (d_cons (d_var 2) d_nil)))
    (d_bC (d_ifS (d_wT (d_orW (d_cmpT op_isnB r_isnB (nomark _) (d_call none G_is_record (hr.mono (by decide)) g_is_record k_is_record b_is_record pass0 (d_cons (d_var 2) d_nil)) (d_bl)) (d_orW (d_cmpT (r := rNeD K) (op_neD hr.units) r_ne (nomark _) (d_var 3) (d_call none G_Lcells (hr.mono (by decide)) g_Lcells k_Lcells b_Lcells pass0 (d_cons (d_var 2) d_nil))) (d_or1 (d_cmpT (r := rNeD K) (op_neD hr.units) r_ne (nomark _) (d_callQ G_read_record (hr.mono (by decide)) g_read_record k_read_record b_read_record (d_cons (d_F (d_biTF (rc := rListP K) call_listP c_listF T.b_list (by decide +kernel) (d_cons (d_var 3) d_nil))) d_nil)) (d_var 2)))))) (d_b1 (d_ret (d_bl))) d_b0)
    (d_bC (d_set 4 sc_law.nd (d_tabB (units_1 hr) G_Lfacts (hr.mono (by decide)) g_Lfacts k_Lfacts b_Lfacts pass0 (d_ix (K := K) (d_var 2) (d_int))))
    (d_bC (d_set 5 sc_law.nd (d_op (r := rAddP K) op_addP r_addP (d_int) (d_call (some 0) G_Ldraw (hr.mono (by decide)) g_Ldraw k_Ldraw b_Ldraw pass0 (d_cons (d_var 1) (d_cons (d_var 0) (d_cons (d_biB (rc := rLenT K) call_lenT c_lenS T.b_len (by decide +kernel) (d_cons (d_var 4) d_nil)) d_nil))))))
    (d_bC (d_set 6 sc_law.nd (d_F (d_lst (d_cons (d_op op_sub r_sub (d_op op_pow r_pow (d_int) (d_int)) (d_int)) (d_cons (d_op op_pow r_pow (d_int) (d_int)) (d_cons (d_un un_neg r_neg (d_int)) (d_cons (d_op op_sub r_sub (d_int) (d_op op_pow r_pow (d_int) (d_int))) (d_cons (d_un un_neg r_neg (d_op op_pow r_pow (d_int) (d_int))) (d_cons (d_str) (d_cons (d_bl) d_nil))))))))))
    (d_bC (d_set 7 sc_law.nd (d_call (some 0) G_Ldraw (hr.mono (by decide)) g_Ldraw k_Ldraw b_Ldraw pass0 (d_cons (d_var 1) (d_cons (d_var 0) (d_cons (d_int) d_nil)))))
    (d_bC (d_set 8 sc_law.nd (d_op (r := rAddP K) op_addP r_addP (d_op (r := rAddP K) op_addP r_addP (d_sl (K := K) (d_var 2) d_oN (d_oS (d_var 5))) (d_tup (d_cons (d_ix (K := K) (d_var 6) (d_var 7)) d_nil))) (d_sl (K := K) (d_var 2) (d_oS (d_op (r := rAddP K) op_addP r_addP (d_var 5) (d_int))) d_oN)))
    (d_bC (d_set 9 sc_law.nd (d_or (d_cmp (r := rEqD K) (op_eqD hr.units) r_eq (nomark _) (d_var 7) (d_int)) (d_one (d_and (d_cmp (r := rIn K false) op_in_seq (r_in false) (by with_unfolding_all rfl) (d_var 7) (d_tup (d_cons (d_int) (d_cons (d_int) d_nil)))) (d_one (d_cmp (r := rEqD K) (op_eqD hr.units) r_eq (nomark _) (d_ixS (d_var 4) (d_op op_sub r_sub (d_var 5) (d_int))) (d_str)))))))
    (d_bC (d_ifS (d_wT (d_orW (d_notT (d_truT (K := K) (d_isi (K := K) (T := "bool") T.b_isinstance T.b_bool (d_call none G_is_record (hr.mono (by decide)) g_is_record k_is_record b_is_record pass0 (d_cons (d_var 8) d_nil)) (by decide +kernel)))) (d_or1 (d_cmpT (r := rNeD K) (op_neD hr.units) r_ne (nomark _) (d_call none G_is_record (hr.mono (by decide)) g_is_record k_is_record b_is_record pass0 (d_cons (d_var 8) d_nil)) (d_var 9))))) (d_b1 (d_ret (d_bl))) d_b0)
    (d_bC (d_ifS (d_wT (d_andW (d_truT (K := K) (d_var 9)) (d_and1 (d_cmpT (r := rNeD K) (op_neD hr.units) r_ne (nomark _) (d_callQ G_read_record (hr.mono (by decide)) g_read_record k_read_record b_read_record (d_cons (d_call none G_cells_of (hr.mono (by decide)) g_cells_of k_cells_of b_cells_of pass0 (d_cons (d_var 8) d_nil)) d_nil)) (d_var 8))))) (d_b1 (d_ret (d_bl))) d_b0)
    (d_bC (d_set 10 sc_law.nd (d_ix (K := K) (d_F (d_lst (d_cons (d_tup d_nil) (d_cons (d_sl (K := K) (d_var 2) d_oN (d_oS (d_un un_neg r_neg (d_int)))) (d_cons (d_op (r := rAddP K) op_addP r_addP (d_var 2) (d_tup (d_cons (d_int) d_nil))) (d_cons (d_op (r := rAddP K) op_addP r_addP (d_tup (d_cons (d_str) d_nil)) (d_sl (K := K) (d_var 2) (d_oS (d_int)) d_oN)) (d_cons (d_op (r := rAddP K) op_addP r_addP (d_tup (d_cons (d_int) d_nil)) (d_sl (K := K) (d_var 2) (d_oS (d_int)) d_oN)) d_nil))))))) (d_call (some 0) G_Ldraw (hr.mono (by decide)) g_Ldraw k_Ldraw b_Ldraw pass0 (d_cons (d_var 1) (d_cons (d_var 0) (d_cons (d_int) d_nil))))))
    (d_b1 (d_ret (d_cmp op_isB r_isB (nomark _) (d_call none G_is_record (hr.mono (by decide)) g_is_record k_is_record b_is_record pass0 (d_cons (d_var 10) d_nil)) (d_bl)))))))))))))))))⟩
  walk_at "zz"
/-- all of it -/
theorem all_mk {l : PySem.W.OpenLaw} {w : World} {K : PySem.W.Frag} {h : Heap} {mg : Str → Option Value} {fa : Addr} (X : K.In h) (G : h.Ns mainGlobals mg) (hfa : mg "law" = some (.ref fa)) {fI : Addr}
    {C_InvalidFrame : Addr} {nm_InvalidFrame q_InvalidFrame : Str} {N_InvalidFrame : Addr} {bs_InvalidFrame bm_InvalidFrame : List Value} {sn_InvalidFrame : List Str} {su_InvalidFrame : List Value} {ab_InvalidFrame : Bool} {co_InvalidFrame : Option Bool} {dd_InvalidFrame : Option Addr} {e0_InvalidFrame e1_InvalidFrame e2_InvalidFrame e3_InvalidFrame e5_InvalidFrame : Option Value} (y_InvalidFrame : PySem.W.nsIn K mainGlobals "InvalidFrame" = some (some (.ref C_InvalidFrame))) (xL_InvalidFrame : K.lookup C_InvalidFrame = some (excClassObj nm_InvalidFrame q_InvalidFrame C_InvalidFrame N_InvalidFrame bs_InvalidFrame bm_InvalidFrame true sn_InvalidFrame su_InvalidFrame ab_InvalidFrame co_InvalidFrame dd_InvalidFrame e0_InvalidFrame e1_InvalidFrame e2_InvalidFrame e3_InvalidFrame e5_InvalidFrame "ValueError.__new__")) (xr_InvalidFrame : PySem.HandSPX.refsVE bm_InvalidFrame = true) (sa_InvalidFrame : PySem.W.findIn K (.ref C_InvalidFrame) "__setattr__" = some (some (.builtin "object.__setattr__"))) (ga_InvalidFrame : PySem.W.findIn K (.ref C_InvalidFrame) "__getattribute__" = some (some (.builtin "BaseException.__getattribute__"))) (gg_InvalidFrame : PySem.W.findIn K (.ref C_InvalidFrame) "__getattr__" = some none) (no_InvalidFrame : PySem.W.findIn K (.ref C_InvalidFrame) "place" = some none) (ni_InvalidFrame : PySem.W.findIn K (.ref C_InvalidFrame) "__init__" = some (some (.ref fI))) (kc_InvalidFrame : PySem.W.keepIn K (.ref C_InvalidFrame) = true) (ec_InvalidFrame : PySem.W.subIn K (.ref C_InvalidFrame) (.type "BaseException") = some true) (tc_InvalidFrame : PySem.W.typeIn K (.ref C_InvalidFrame) = some (.type "type")) (hd_InvalidFrame : PySem.W.hasDictIn K C_InvalidFrame = true) (ic_InvalidFrame : PySem.W.isClsIn K C_InvalidFrame = true) (sc_InvalidFrame : PySem.W.subIn K (.ref C_InvalidFrame) (.ref C_InvalidFrame) = some true)
    (tI : PySem.W.typeIn K (.ref fI) = some (.type "function"))
    {f0 : Addr} {od0 an0 : Option Addr} {sl0 : Array (Option Value)} {oc0 kV0 dc0 pm0 cd0 ct0 : Value} (a0 : PySem.W.nsIn K mainGlobals "_law_refill" = some (some (.ref f0))) (l0 : K.lookup f0 = some ⟨oc0, od0, .func (PySem.W.fnOf "_law_refill" "_law_refill" (defArgs st_Lrefill) (defBody st_Lrefill) (defScope st_Lrefill) .none kV0 dc0 pm0 an0 cd0 ct0), sl0⟩) (c0 : PySem.W.codeIn K cd0 "_law_refill" = true) (k0 : PySem.W.keepIn K (.ref f0) = true)
    {f1 : Addr} {od1 an1 : Option Addr} {sl1 : Array (Option Value)} {oc1 kV1 dc1 pm1 cd1 ct1 : Value} (a1 : PySem.W.nsIn K mainGlobals "_law_draw" = some (some (.ref f1))) (l1 : K.lookup f1 = some ⟨oc1, od1, .func (PySem.W.fnOf "_law_draw" "_law_draw" (defArgs st_Ldraw) (defBody st_Ldraw) (defScope st_Ldraw) .none kV1 dc1 pm1 an1 cd1 ct1), sl1⟩) (c1 : PySem.W.codeIn K cd1 "_law_draw" = true) (k1 : PySem.W.keepIn K (.ref f1) = true)
    {f2 : Addr} {od2 an2 : Option Addr} {sl2 : Array (Option Value)} {oc2 kV2 dc2 pm2 cd2 ct2 : Value} (a2 : PySem.W.nsIn K mainGlobals "_law_fact" = some (some (.ref f2))) (l2 : K.lookup f2 = some ⟨oc2, od2, .func (PySem.W.fnOf "_law_fact" "_law_fact" (defArgs st_Lfact) (defBody st_Lfact) (defScope st_Lfact) .none kV2 dc2 pm2 an2 cd2 ct2), sl2⟩) (c2 : PySem.W.codeIn K cd2 "_law_fact" = true) (k2 : PySem.W.keepIn K (.ref f2) = true)
    {f3 : Addr} {od3 an3 : Option Addr} {sl3 : Array (Option Value)} {oc3 kV3 dc3 pm3 cd3 ct3 : Value} (a3 : PySem.W.nsIn K mainGlobals "_law_facts" = some (some (.ref f3))) (l3 : K.lookup f3 = some ⟨oc3, od3, .func (PySem.W.fnOf "_law_facts" "_law_facts" (defArgs st_Lfacts) (defBody st_Lfacts) (defScope st_Lfacts) .none kV3 dc3 pm3 an3 cd3 ct3), sl3⟩) (c3 : PySem.W.codeIn K cd3 "_law_facts" = true) (k3 : PySem.W.keepIn K (.ref f3) = true)
    {f4 : Addr} {od4 an4 : Option Addr} {sl4 : Array (Option Value)} {oc4 kV4 dc4 pm4 cd4 ct4 : Value} (a4 : PySem.W.nsIn K mainGlobals "_law_record" = some (some (.ref f4))) (l4 : K.lookup f4 = some ⟨oc4, od4, .func (PySem.W.fnOf "_law_record" "_law_record" (defArgs st_Lrecord) (defBody st_Lrecord) (defScope st_Lrecord) .none kV4 dc4 pm4 an4 cd4 ct4), sl4⟩) (c4 : PySem.W.codeIn K cd4 "_law_record" = true) (k4 : PySem.W.keepIn K (.ref f4) = true)
    {f5 : Addr} {od5 an5 : Option Addr} {sl5 : Array (Option Value)} {oc5 kV5 dc5 pm5 cd5 ct5 : Value} (a5 : PySem.W.nsIn K mainGlobals "_cells_of_count" = some (some (.ref f5))) (l5 : K.lookup f5 = some ⟨oc5, od5, .func (PySem.W.fnOf "_cells_of_count" "_cells_of_count" (defArgs st_cells_of_count_) (defBody st_cells_of_count_) (defScope st_cells_of_count_) .none kV5 dc5 pm5 an5 cd5 ct5), sl5⟩) (c5 : PySem.W.codeIn K cd5 "_cells_of_count" = true) (k5 : PySem.W.keepIn K (.ref f5) = true)
    {f6 : Addr} {od6 an6 : Option Addr} {sl6 : Array (Option Value)} {oc6 kV6 dc6 pm6 cd6 ct6 : Value} (a6 : PySem.W.nsIn K mainGlobals "_count_of" = some (some (.ref f6))) (l6 : K.lookup f6 = some ⟨oc6, od6, .func (PySem.W.fnOf "_count_of" "_count_of" (defArgs st_count_of_) (defBody st_count_of_) (defScope st_count_of_) .none kV6 dc6 pm6 an6 cd6 ct6), sl6⟩) (c6 : PySem.W.codeIn K cd6 "_count_of" = true) (k6 : PySem.W.keepIn K (.ref f6) = true)
    {f7 : Addr} {od7 an7 : Option Addr} {sl7 : Array (Option Value)} {oc7 kV7 dc7 pm7 cd7 ct7 : Value} (a7 : PySem.W.nsIn K mainGlobals "cells_of" = some (some (.ref f7))) (l7 : K.lookup f7 = some ⟨oc7, od7, .func (PySem.W.fnOf "cells_of" "cells_of" (defArgs st_cells_of) (defBody st_cells_of) (defScope st_cells_of) .none kV7 dc7 pm7 an7 cd7 ct7), sl7⟩) (c7 : PySem.W.codeIn K cd7 "cells_of" = true) (k7 : PySem.W.keepIn K (.ref f7) = true)
    {f8 : Addr} {od8 an8 : Option Addr} {sl8 : Array (Option Value)} {oc8 kV8 dc8 pm8 cd8 ct8 : Value} (a8 : PySem.W.nsIn K mainGlobals "is_whole" = some (some (.ref f8))) (l8 : K.lookup f8 = some ⟨oc8, od8, .func (PySem.W.fnOf "is_whole" "is_whole" (defArgs st_is_whole) (defBody st_is_whole) (defScope st_is_whole) .none kV8 dc8 pm8 an8 cd8 ct8), sl8⟩) (c8 : PySem.W.codeIn K cd8 "is_whole" = true) (k8 : PySem.W.keepIn K (.ref f8) = true)
    {f9 : Addr} {od9 an9 : Option Addr} {sl9 : Array (Option Value)} {oc9 kV9 dc9 pm9 cd9 ct9 : Value} (a9 : PySem.W.nsIn K mainGlobals "_fits" = some (some (.ref f9))) (l9 : K.lookup f9 = some ⟨oc9, od9, .func (PySem.W.fnOf "_fits" "_fits" (defArgs st_fits_) (defBody st_fits_) (defScope st_fits_) .none kV9 dc9 pm9 an9 cd9 ct9), sl9⟩) (c9 : PySem.W.codeIn K cd9 "_fits" = true) (k9 : PySem.W.keepIn K (.ref f9) = true)
    {f10 : Addr} {od10 an10 : Option Addr} {sl10 : Array (Option Value)} {oc10 kV10 dc10 pm10 cd10 ct10 : Value} (a10 : PySem.W.nsIn K mainGlobals "is_record" = some (some (.ref f10))) (l10 : K.lookup f10 = some ⟨oc10, od10, .func (PySem.W.fnOf "is_record" "is_record" (defArgs st_is_record) (defBody st_is_record) (defScope st_is_record) .none kV10 dc10 pm10 an10 cd10 ct10), sl10⟩) (c10 : PySem.W.codeIn K cd10 "is_record" = true) (k10 : PySem.W.keepIn K (.ref f10) = true)
    {f11 : Addr} {od11 an11 : Option Addr} {sl11 : Array (Option Value)} {oc11 kV11 dc11 pm11 cd11 ct11 : Value} (a11 : PySem.W.nsIn K mainGlobals "_law_count_cells" = some (some (.ref f11))) (l11 : K.lookup f11 = some ⟨oc11, od11, .func (PySem.W.fnOf "_law_count_cells" "_law_count_cells" (defArgs st_Lcount_cells) (defBody st_Lcount_cells) (defScope st_Lcount_cells) .none kV11 dc11 pm11 an11 cd11 ct11), sl11⟩) (c11 : PySem.W.codeIn K cd11 "_law_count_cells" = true) (k11 : PySem.W.keepIn K (.ref f11) = true)
    {f12 : Addr} {od12 an12 : Option Addr} {sl12 : Array (Option Value)} {oc12 kV12 dc12 pm12 cd12 ct12 : Value} (a12 : PySem.W.nsIn K mainGlobals "_law_cells" = some (some (.ref f12))) (l12 : K.lookup f12 = some ⟨oc12, od12, .func (PySem.W.fnOf "_law_cells" "_law_cells" (defArgs st_Lcells) (defBody st_Lcells) (defScope st_Lcells) .none kV12 dc12 pm12 an12 cd12 ct12), sl12⟩) (c12 : PySem.W.codeIn K cd12 "_law_cells" = true) (k12 : PySem.W.keepIn K (.ref f12) = true)
    {od13 an13 : Option Addr} {sl13 : Array (Option Value)} {oc13 kV13 dc13 pm13 cd13 ct13 : Value}  (l13 : K.lookup fI = some ⟨oc13, od13, .func (PySem.W.fnOf "__init__" "RangekeepError.__init__" (defArgs st_RangekeepError_init) (defBody st_RangekeepError_init) (defScope st_RangekeepError_init) .none kV13 dc13 pm13 an13 cd13 ct13), sl13⟩) (c13 : PySem.W.codeIn K cd13 "RangekeepError.__init__" = true) (k13 : PySem.W.keepIn K (.ref fI) = true)
    {f14 : Addr} {od14 an14 : Option Addr} {sl14 : Array (Option Value)} {oc14 kV14 dc14 pm14 cd14 ct14 : Value} (a14 : PySem.W.nsIn K mainGlobals "_read_count" = some (some (.ref f14))) (l14 : K.lookup f14 = some ⟨oc14, od14, .func (PySem.W.fnOf "_read_count" "_read_count" (defArgs st_read_count_) (defBody st_read_count_) (defScope st_read_count_) .none kV14 dc14 pm14 an14 cd14 ct14), sl14⟩) (c14 : PySem.W.codeIn K cd14 "_read_count" = true) (k14 : PySem.W.keepIn K (.ref f14) = true)
    {f15 : Addr} {od15 an15 : Option Addr} {sl15 : Array (Option Value)} {oc15 kV15 dc15 pm15 cd15 ct15 : Value} (a15 : PySem.W.nsIn K mainGlobals "_number_of" = some (some (.ref f15))) (l15 : K.lookup f15 = some ⟨oc15, od15, .func (PySem.W.fnOf "_number_of" "_number_of" (defArgs st_number_of_) (defBody st_number_of_) (defScope st_number_of_) .none kV15 dc15 pm15 an15 cd15 ct15), sl15⟩) (c15 : PySem.W.codeIn K cd15 "_number_of" = true) (k15 : PySem.W.keepIn K (.ref f15) = true)
    {f16 : Addr} {od16 an16 : Option Addr} {sl16 : Array (Option Value)} {oc16 kV16 dc16 pm16 cd16 ct16 : Value} (a16 : PySem.W.nsIn K mainGlobals "read_record" = some (some (.ref f16))) (l16 : K.lookup f16 = some ⟨oc16, od16, .func (PySem.W.fnOf "read_record" "read_record" (defArgs st_read_record) (defBody st_read_record) (defScope st_read_record) .none kV16 dc16 pm16 an16 cd16 ct16), sl16⟩) (c16 : PySem.W.codeIn K cd16 "read_record" = true) (k16 : PySem.W.keepIn K (.ref f16) = true)
    {f17 : Addr} {od17 an17 : Option Addr} {sl17 : Array (Option Value)} {oc17 kV17 dc17 pm17 cd17 ct17 : Value} (a17 : PySem.W.nsIn K mainGlobals "law" = some (some (.ref f17))) (l17 : K.lookup f17 = some ⟨oc17, od17, .func (PySem.W.fnOf "law" "law" (defArgs st_law) (defBody st_law) (defScope st_law) .none kV17 dc17 pm17 an17 cd17 ct17), sl17⟩) (c17 : PySem.W.codeIn K cd17 "law" = true) (k17 : PySem.W.keepIn K (.ref f17) = true) (z_all : PySem.W.nsIn K mainGlobals "all" = some none) (z_bool : PySem.W.nsIn K mainGlobals "bool" = some none) (z_int : PySem.W.nsIn K mainGlobals "int" = some none) (z_isinstance : PySem.W.nsIn K mainGlobals "isinstance" = some none) (z_len : PySem.W.nsIn K mainGlobals "len" = some none) (z_list : PySem.W.nsIn K mainGlobals "list" = some none) (z_range : PySem.W.nsIn K mainGlobals "range" = some none) (z_reversed : PySem.W.nsIn K mainGlobals "reversed" = some none) (z_tuple : PySem.W.nsIn K mainGlobals "tuple" = some none) (z_zip : PySem.W.nsIn K mainGlobals "zip" = some none) {x_BASE : Tok} (y_BASE : PySem.W.nsIn K mainGlobals "BASE" = some (some (.int 1024 x_BASE))) {x_COUNT : Tok} (y_COUNT : PySem.W.nsIn K mainGlobals "COUNT" = some (some (.str "c" x_COUNT))) {x_LIMIT : Tok} (y_LIMIT : PySem.W.nsIn K mainGlobals "LIMIT" = some (some (.int 1099511627776 x_LIMIT))) {x_LONGEST_FACT : Tok} (y_LONGEST_FACT : PySem.W.nsIn K mainGlobals "LONGEST_FACT" = some (some (.int 5 x_LONGEST_FACT))) {x_WORDS : Addr} {o_WORDS : Obj} (y_WORDS : PySem.W.nsIn K mainGlobals "WORDS" = some (some (.ref x_WORDS))) (w_WORDS : K.lookup x_WORDS = some o_WORDS) (t_WORDS : tupS o_WORDS ["time", "orbit", "clock", "key", "tag"] = true) {x_FACTS : Addr} {es_FACTS : Array DictEntry} {n_FACTS : Nat} (y_FACTS : PySem.W.nsIn K mainGlobals "FACTS" = some (some (.ref x_FACTS))) (w_FACTS : K.lookup x_FACTS = some ⟨.type "dict", none, .dict es_FACTS n_FACTS, #[]⟩) (kl_FACTS : PySem.W.KeysLit w.params es_FACTS.toList) {u_FACTS_0 : Tok} (v_FACTS_0 : PySem.W.nsIn K x_FACTS "time" = some (some (.str "c" u_FACTS_0))) {u_FACTS_1 : Tok} (v_FACTS_1 : PySem.W.nsIn K x_FACTS "orbit" = some (some (.str "ccnnnnnnnnn" u_FACTS_1))) {u_FACTS_2 : Tok} (v_FACTS_2 : PySem.W.nsIn K x_FACTS "clock" = some (some (.str "cnn" u_FACTS_2))) {u_FACTS_3 : Tok} (v_FACTS_3 : PySem.W.nsIn K x_FACTS "key" = some (some (.str "cc" u_FACTS_3))) {u_FACTS_4 : Tok} (v_FACTS_4 : PySem.W.nsIn K x_FACTS "tag" = some (some (.str "ccc" u_FACTS_4))) :
    ∃ fd : FuncData, (∀ (s : Shared) (v : Value), BindsTo s fd ⟨[v], []⟩ [("script", v)]) ∧ ∀ base : Heap, K.In base → base.Ns mainGlobals mg → FnOk l.prog w K mg base CX0 13 fa fd ["script"] (spM K m_law) := by
  refine keepG ?_ ?_
  have e := hfa.symm.trans (PySem.W.mg_of X G a17)
  cases e
  have T : Txt w K mg := ⟨trivial, PySem.W.mg_none_of X G z_all, PySem.W.mg_none_of X G z_bool, PySem.W.mg_none_of X G z_int, PySem.W.mg_none_of X G z_isinstance, PySem.W.mg_none_of X G z_len, PySem.W.mg_none_of X G z_list, PySem.W.mg_none_of X G z_range, PySem.W.mg_none_of X G z_reversed, PySem.W.mg_none_of X G z_tuple, PySem.W.mg_none_of X G z_zip, ⟨x_FACTS, PySem.W.mg_of X G y_FACTS, (tabOk_cons w_FACTS kl_FACTS v_FACTS_0 (tabOk_cons w_FACTS kl_FACTS v_FACTS_1 (tabOk_cons w_FACTS kl_FACTS v_FACTS_2 (tabOk_cons w_FACTS kl_FACTS v_FACTS_3 (tabOk_cons w_FACTS kl_FACTS v_FACTS_4 tabOk_nil)))))⟩, ⟨x_WORDS, o_WORDS, PySem.W.mg_of X G y_WORDS, w_WORDS, t_WORDS⟩, ⟨.int 1024, _, PySem.W.mg_of X G y_BASE, ⟨_, rfl⟩, fun Hb => .int _⟩, ⟨.str "c", _, PySem.W.mg_of X G y_COUNT, ⟨_, rfl⟩, fun Hb => .str _⟩, ⟨.int 1099511627776, _, PySem.W.mg_of X G y_LIMIT, ⟨_, rfl⟩, fun Hb => .int _⟩, ⟨.int 5, _, PySem.W.mg_of X G y_LONGEST_FACT, ⟨_, rfl⟩, fun Hb => .int _⟩, ⟨.ref x_WORDS, _, PySem.W.mg_of X G y_WORDS, rfl, fun Hb => rep_tupS w_WORDS t_WORDS⟩⟩
  have F0 := fun_mk (st := st_Lrefill) l0 c0 k0
  have b0 := F0.binds (ps := ["script", "k"]) fun _ _ _ _ _ _ us hl => match us, hl with | [_, _], _ => rfl
  have F1 := fun_mk (st := st_Ldraw) l1 c1 k1
  have b1 := F1.binds (ps := ["state", "script", "size"]) fun _ _ _ _ _ _ us hl => match us, hl with | [_, _, _], _ => rfl
  have F2 := fun_mk (st := st_Lfact) l2 c2 k2
  have b2 := F2.binds (ps := ["state", "script", "kind"]) fun _ _ _ _ _ _ us hl => match us, hl with | [_, _, _], _ => rfl
  have F3 := fun_mk (st := st_Lfacts) l3 c3 k3
  have b3 := F3.binds (ps := []) fun _ _ _ _ _ _ us hl => match us, hl with | [], _ => rfl
  have F4 := fun_mk (st := st_Lrecord) l4 c4 k4
  have b4 := F4.binds (ps := ["state", "script"]) fun _ _ _ _ _ _ us hl => match us, hl with | [_, _], _ => rfl
  have F5 := fun_mk (st := st_cells_of_count_) l5 c5 k5
  have b5 := F5.binds (ps := ["count"]) fun _ _ _ _ _ _ us hl => match us, hl with | [_], _ => rfl
  have F6 := fun_mk (st := st_count_of_) l6 c6 k6
  have b6 := F6.binds (ps := ["number"]) fun _ _ _ _ _ _ us hl => match us, hl with | [_], _ => rfl
  have F7 := fun_mk (st := st_cells_of) l7 c7 k7
  have b7 := F7.binds (ps := ["record"]) fun _ _ _ _ _ _ us hl => match us, hl with | [_], _ => rfl
  have F8 := fun_mk (st := st_is_whole) l8 c8 k8
  have b8 := F8.binds (ps := ["value"]) fun _ _ _ _ _ _ us hl => match us, hl with | [_], _ => rfl
  have F9 := fun_mk (st := st_fits_) l9 c9 k9
  have b9 := F9.binds (ps := ["kind", "fact"]) fun _ _ _ _ _ _ us hl => match us, hl with | [_, _], _ => rfl
  have F10 := fun_mk (st := st_is_record) l10 c10 k10
  have b10 := F10.binds (ps := ["value"]) fun _ _ _ _ _ _ us hl => match us, hl with | [_], _ => rfl
  have F11 := fun_mk (st := st_Lcount_cells) l11 c11 k11
  have b11 := F11.binds (ps := ["count"]) fun _ _ _ _ _ _ us hl => match us, hl with | [_], _ => rfl
  have F12 := fun_mk (st := st_Lcells) l12 c12 k12
  have b12 := F12.binds (ps := ["record"]) fun _ _ _ _ _ _ us hl => match us, hl with | [_], _ => rfl
  have F13 := fun_mk (st := st_RangekeepError_init) l13 c13 k13
  have b13 := F13.binds (ps := ["self", "place"]) fun _ _ _ _ _ _ us hl => match us, hl with | [_, _], _ => rfl
  have F14 := fun_mk (st := st_read_count_) l14 c14 k14
  have b14 := F14.binds (ps := ["cells", "at"]) fun _ _ _ _ _ _ us hl => match us, hl with | [_, _], _ => rfl
  have F15 := fun_mk (st := st_number_of_) l15 c15 k15
  have b15 := F15.binds (ps := ["count"]) fun _ _ _ _ _ _ us hl => match us, hl with | [_], _ => rfl
  have F16 := fun_mk (st := st_read_record) l16 c16 k16
  have b16 := F16.binds (ps := ["cells"]) fun _ _ _ _ _ _ us hl => match us, hl with | [_], _ => rfl
  have F17 := fun_mk (st := st_law) l17 c17 k17
  refine ⟨PySem.W.fnOf "law" "law" (defArgs st_law) (defBody st_law) (defScope st_law) .none kV17 dc17 pm17 an17 cd17 ct17, fun s v => .of_eq rfl, fun base _ _ => ?_⟩
  have G0 : FnOk l.prog w K mg base CX0 1 f0 _ ["script", "k"] (spM K m_Lrefill) := ok_Lrefill T F0
  have G1 : FnOk l.prog w K mg base CX0 2 f1 _ ["state", "script", "size"] (spM K m_Ldraw) := ok_Ldraw T G0 (PySem.W.mg_of X G a0) k0 b0 F1
  have G2 : FnOk l.prog w K mg base CX0 3 f2 _ ["state", "script", "kind"] (spM K m_Lfact) := ok_Lfact T G1 (PySem.W.mg_of X G a1) k1 b1 F2
  have G3 : FnOk l.prog w K mg base CX0 1 f3 _ [] (spB tb_Lfacts) := ok_Lfacts T F3
  have G4 : FnOk l.prog w K mg base CX0 4 f4 _ ["state", "script"] (spM K m_Lrecord) := ok_Lrecord T G1 (PySem.W.mg_of X G a1) k1 b1 G2 (PySem.W.mg_of X G a2) k2 b2 G3 (PySem.W.mg_of X G a3) k3 b3 F4
  have G5 : FnOk l.prog w K mg base CX0 1 f5 _ ["count"] (spM K m_cells_of_count_) := ok_cells_of_count_ T F5
  have G6 : FnOk l.prog w K mg base CX0 1 f6 _ ["number"] (spM K m_count_of_) := ok_count_of_ T F6
  have G7 : FnOk l.prog w K mg base CX0 2 f7 _ ["record"] (spM K m_cells_of) := ok_cells_of T G5 (PySem.W.mg_of X G a5) k5 b5 G6 (PySem.W.mg_of X G a6) k6 b6 F7
  have G8 : FnOk l.prog w K mg base CX0 1 f8 _ ["value"] (spM K m_is_whole) := ok_is_whole T F8
  have G9 : FnOk l.prog w K mg base CX0 2 f9 _ ["kind", "fact"] (spM K m_fits_) := ok_fits_ T G8 (PySem.W.mg_of X G a8) k8 b8 F9
  have G10 : FnOk l.prog w K mg base CX0 3 f10 _ ["value"] (spM K m_is_record) := ok_is_record T G9 (PySem.W.mg_of X G a9) k9 b9 F10
  have G11 : FnOk l.prog w K mg base CX0 11 f11 _ ["count"] (spM K (m_Lcount_cells 10)) := ok_Lcount_cells T F11 (PySem.W.mg_of X G a11) k11 b11 10
  have G12 : FnOk l.prog w K mg base CX0 12 f12 _ ["record"] (spM K m_Lcells) := ok_Lcells T G3 (PySem.W.mg_of X G a3) k3 b3 G11 (PySem.W.mg_of X G a11) k11 b11 F12
  have G13 : FnOk l.prog w K mg base CX0 1 fI _ ["self", "place"] (spI K) := ok_RangekeepError_init F13
  have G14 : FnOk l.prog w K mg base (L2.CX l.prog w) 3 f14 _ ["cells", "at"] (spX K m_read_count_) := ok_read_count_ T (⟨y_InvalidFrame, PySem.W.mg_of X G y_InvalidFrame, ⟨⟨_, _, _, _, _, _, _, _, _, _, _, _, _, _, _, xL_InvalidFrame, xr_InvalidFrame⟩, sa_InvalidFrame, ec_InvalidFrame, tc_InvalidFrame, kc_InvalidFrame⟩, no_InvalidFrame, ni_InvalidFrame, tI, ⟨ga_InvalidFrame, gg_InvalidFrame, ec_InvalidFrame, hd_InvalidFrame⟩, ex_one ec_InvalidFrame ic_InvalidFrame tc_InvalidFrame sc_InvalidFrame⟩ : ExcOk K mg 2 C_InvalidFrame fI) G13 b13 F14
  have G15 : FnOk l.prog w K mg base CX0 1 f15 _ ["count"] (spM K m_number_of_) := ok_number_of_ T F15
  have G16 : FnOk l.prog w K mg base (L2.CX l.prog w) 4 f16 _ ["cells"] (spX K m_read_record) := ok_read_record T (⟨y_InvalidFrame, PySem.W.mg_of X G y_InvalidFrame, ⟨⟨_, _, _, _, _, _, _, _, _, _, _, _, _, _, _, xL_InvalidFrame, xr_InvalidFrame⟩, sa_InvalidFrame, ec_InvalidFrame, tc_InvalidFrame, kc_InvalidFrame⟩, no_InvalidFrame, ni_InvalidFrame, tI, ⟨ga_InvalidFrame, gg_InvalidFrame, ec_InvalidFrame, hd_InvalidFrame⟩, ex_one ec_InvalidFrame ic_InvalidFrame tc_InvalidFrame sc_InvalidFrame⟩ : ExcOk K mg 2 C_InvalidFrame fI) G13 b13 G14 (PySem.W.mg_of X G a14) k14 b14 G15 (PySem.W.mg_of X G a15) k15 b15 G9 (PySem.W.mg_of X G a9) k9 b9 F16
  exact ok_law T G4 (PySem.W.mg_of X G a4) k4 b4 G7 (PySem.W.mg_of X G a7) k7 b7 G1 (PySem.W.mg_of X G a1) k1 b1 G3 (PySem.W.mg_of X G a3) k3 b3 G10 (PySem.W.mg_of X G a10) k10 b10 G12 (PySem.W.mg_of X G a12) k12 b12 G16 (PySem.W.mg_of X G a16) k16 b16 F17
  walk_at "zz"
end
end Mine

section
open PySem PySem.Spec PyProof.Rows L2 Evl Mi
local macro_rules | `(tactic| walk_at "st") => `(tactic| repeat (first | exact SetTo.zero | apply SetTo.succ))
local macro_rules | `(tactic| walk_at "dt") => `(tactic| repeat (first | exact Dts.nil | apply Dts.cons))
local macro_rules | `(tactic| walk_at "pa") => `(tactic| repeat (first | exact ParIs.here | exact ParIs.nil | apply ParIs.dat | apply ParIs.un | apply ParIs.own | apply ParIs.box))
local macro_rules | `(tactic| walk_at "wi") => `(tactic| first | exact WipeIs.nil | (apply WipeIs.cons; (· walk_at "wi"); (· walk_at "st")))
local macro_rules | `(tactic| walk_at "ba") => `(tactic| first | exact BackIs.nil | (apply BackIs.consU; (· walk_at "ba"); exact rfl; (· walk_at "st")) | (apply BackIs.consD; (· walk_at "ba"); exact rfl; (· walk_at "st")) | (apply BackIs.consV; (· walk_at "ba"); exact rfl; (· walk_at "st")))
local macro_rules | `(tactic| walk_at "sn") => `(tactic| repeat (first | exact SnocIs.nil | apply SnocIs.cons))
local macro_rules | `(tactic| walk_at "zi") => `(tactic| repeat (first | exact ZipIs.nilL | exact ZipIs.nilR | apply ZipIs.cons))
local macro_rules | `(tactic| walk_at "go1") => `(tactic| first
  | ((with_reducible apply id_oe); first
      | ((with_reducible apply oe_var); exact rfl)
      | (with_reducible apply oe_c)
      | (with_reducible apply oe_bin)
      | (with_reducible apply oe_un)
      | (with_reducible apply oe_bi)
      | ((with_reducible apply oe_callp); exact rfl)
      | ((with_reducible apply oe_callq); exact rfl)
      | (with_reducible apply oe_call)
      | (with_reducible apply oe_new)
      | (with_reducible apply oe_tup)
      | (with_reducible apply oe_F)
      | ((with_reducible apply oe_own); exact rfl)
      | ((with_reducible apply oe_par); exact rfl)
      | (with_reducible apply oe_sl)
      | (with_reducible apply oe_ifE)
      | (with_reducible apply oe_andV)
      | (with_reducible apply oe_orV)
      | (with_reducible apply oe_notV)
      | (with_reducible apply oe_eqO)
      | (with_reducible apply oe_chain))
  | ((with_reducible apply id_od); first
      | (with_reducible apply od_dat)
      | (with_reducible apply od_add)
      | (with_reducible apply od_sub)
      | ((with_reducible apply od_mulL); (· omega))
      | ((with_reducible apply od_mulR); (· omega))
      | ((with_reducible apply od_fdiv); (· omega))
      | ((with_reducible apply od_mod); (· omega))
      | (with_reducible apply od_neg)
      | (with_reducible apply od_plus)
      | (with_reducible apply od_lt)
      | (with_reducible apply od_le)
      | (with_reducible apply od_gt)
      | (with_reducible apply od_ge)
      | (with_reducible apply od_eqi)
      | (with_reducible apply od_nei)
      | (with_reducible apply od_neb)
      | ((with_reducible apply od_fld); exact rfl)
      | ((with_reducible apply od_ixL); (first | with_reducible exact at_0 .. | with_reducible exact at_1 .. | with_reducible exact at_2 ..))
      | ((with_reducible apply od_ixT); (first | with_reducible exact at_0 .. | with_reducible exact at_1 .. | with_reducible exact at_2 ..))
      | (with_reducible apply od_int)
      | (with_reducible apply od_intb)
      | (with_reducible apply od_lenL)
      | (with_reducible apply od_lenF)
      | (with_reducible apply od_lenT)
      | ((with_reducible apply od_isi); exact rfl)
      | ((with_reducible apply od_isiB); exact rfl)
      | (with_reducible apply od_isN0)
      | (with_reducible apply od_isN1)
      | (with_reducible apply od_isN2)
      | (with_reducible apply od_isN3)
      | (with_reducible apply od_isN4)
      | (with_reducible apply od_nnN0)
      | (with_reducible apply od_nnN1)
      | (with_reducible apply od_nnN2)
      | (with_reducible apply od_nnN3)
      | (with_reducible apply od_nnN4)
      | (with_reducible apply od_inT3)
      | (with_reducible apply od_niT3)
      | (with_reducible apply od_max)
      | (with_reducible apply od_min)
      | ((with_reducible apply od_own); exact rfl)
      | ((with_reducible apply od_sq); (· omega))
      | (with_reducible apply od_slL)
      | (with_reducible apply od_slT)
      | (with_reducible apply od_slF)
      | ((with_reducible apply od_eqS (b := true)); (· decide +kernel); (· decide +kernel); (· decide +kernel))
      | ((with_reducible apply od_eqS (b := false)); (· decide +kernel); (· decide +kernel); (· decide +kernel))
      | ((with_reducible apply od_neS (b := true)); (· decide +kernel); (· decide +kernel); (· decide +kernel))
      | ((with_reducible apply od_neS (b := false)); (· decide +kernel); (· decide +kernel); (· decide +kernel))
      | (with_reducible apply od_tupL)
      | (with_reducible apply od_tupT)
      | (with_reducible apply od_sumL3)
      | (with_reducible apply od_neT3)
      | (with_reducible apply od_eqT3)
      | (with_reducible apply od_neL3)
      | (with_reducible apply od_eqL3)
      | (with_reducible apply od_eqb)
      | ((with_reducible apply od_par); exact rfl))
  | ((with_reducible apply id_os); first
      | (with_reducible apply os_seq)
      | (with_reducible apply os_asg)
      | (with_reducible apply os_if)
      | (with_reducible apply os_ret)
      | (with_reducible apply os_next)
      | (with_reducible apply os_asgF)
      | (with_reducible apply os_for)
      | ((with_reducible apply os_aug); exact rfl)
      | ((with_reducible apply os_app); exact rfl)
      | (with_reducible apply os_brk)
      | (with_reducible apply os_cnt)
      | (with_reducible apply os_expr)
      | (with_reducible apply os_retN)
      | (with_reducible apply os_setC)
      | (with_reducible apply os_fr3)
      | (with_reducible apply os_fcons)
      | (with_reducible apply os_fnil))
  | ((with_reducible apply id_oa); first
      | (with_reducible apply oa_cons)
      | (with_reducible apply oa_nil))
  | ((with_reducible apply id_ol); first
      | (with_reducible apply ol_cons)
      | (with_reducible apply ol_nil))
  | ((with_reducible apply id_of); first
      | (with_reducible apply of_cons)
      | (with_reducible apply of_nil)
      | (with_reducible apply of_lst)
      | (with_reducible apply of_biF)
      | (with_reducible apply of_binF)
      | (with_reducible apply of_r1)
      | (with_reducible apply of_r2)
      | (with_reducible apply of_iZ)
      | (with_reducible apply of_iZM)
      | (with_reducible apply of_zipL3)
      | (with_reducible apply of_lc)
      | (with_reducible apply of_cr3)
      | (with_reducible apply of_ccons)
      | (with_reducible apply of_cnil)
      | (with_reducible apply of_iES)
      | (with_reducible apply of_seq))
  | ((with_reducible apply id_oi); first
      | (with_reducible apply oi_seqT)
      | (with_reducible apply oi_seqL)
      | (with_reducible apply oi_seqF)
      | (with_reducible apply oi_listL)
      | (with_reducible apply oi_listF)
      | (with_reducible apply oi_listT)
      | ((with_reducible apply oi_zM); (· exact rfl); (· exact rfl))
      | ((with_reducible apply oi_zL3); (· exact rfl); (· exact rfl); (· exact rfl))
      | ((with_reducible apply oi_zipT); (· walk_at "zi"))
      | ((with_reducible apply oi_zipL); (· walk_at "zi")))
  | ((with_reducible apply id_oz); first
      | (with_reducible apply oz_dat))
  | ((with_reducible apply id_og); first
      | ((with_reducible apply og_nm); (· walk_at "st"))
      | ((with_reducible apply og_tp); exact rfl)
      | (with_reducible apply og_nil)
      | (with_reducible apply og_cons))
  | ((with_reducible apply id_ot); first
      | (with_reducible apply ot_test)
      | (with_reducible apply ot_and)
      | (with_reducible apply ot_or)
      | (with_reducible apply ot_not)
      | (with_reducible apply ot_tru)
      | (with_reducible apply ot_yes))
  | ((with_reducible apply id_oo); first
      | (with_reducible apply oo_none)
      | (with_reducible apply oo_some))
  | ((with_reducible apply id_nx); first
      | (with_reducible apply nx_nx)
      | (with_reducible apply nx_rt)
      | (with_reducible apply nx_ct)
      | (with_reducible apply nx_bk))
  | ((with_reducible apply id_br); first
      | (with_reducible apply br_true)
      | (with_reducible apply br_false)
      | (with_reducible apply br_not)
      | ((with_reducible apply br_no); (· omega))
      | ((with_reducible apply br_yes); with_reducible exact rfl)
      | ((with_reducible apply br_yes); (· omega)))
  | ((with_reducible apply id_sc); first
      | (with_reducible apply sc_int)
      | (with_reducible apply sc_bl)
      | (with_reducible apply sc_non)
      | (with_reducible apply sc_tup)
      | (with_reducible apply sc_lst)
      | (with_reducible apply sc_str)
      | (with_reducible apply sc_ins)
      | (with_reducible apply sc_fro))
  | ((with_reducible apply id_tu); first
      | (with_reducible apply tu_nx)
      | (with_reducible apply tu_ct)
      | (with_reducible apply tu_bk)
      | (with_reducible apply tu_rt))
  | ((with_reducible apply id_fi); first
      | (with_reducible apply fi_any)
      | ((with_reducible apply fi_rt); (· walk_at "pa"))
      | ((with_reducible apply fi_nx); (· walk_at "pa")))
  | ((with_reducible apply ags_i); (· walk_at "dt"))
  | ((with_reducible apply callp_i); exact rfl; exact rfl)
  | ((with_reducible apply callp_o); (· walk_at "st"))
  | ((with_reducible apply lim_i); exact Nat.le_of_ble_eq_true rfl)
  | (with_reducible apply ex_bl)
  | (with_reducible apply tr_bl)
  | (with_reducible apply two_i)
  | ((with_reducible apply bk_i); (· walk_at "wi"); (· walk_at "ba"))
  | ((with_reducible apply wp_i); (· walk_at "wi"))
  | ((with_reducible apply sn_i); (· walk_at "sn"); exact Nat.lt_of_lt_of_le (Nat.le_of_ble_eq_true rfl) (Nat.le_refl _))
  | (with_reducible apply tr_int)
  | (with_reducible apply tr_lst)
  | (with_reducible apply tr_tup)
  | (with_reducible apply tr_fro)
  | (with_reducible apply jn_i)
  | ((with_reducible apply hasl_p); exact rfl)
  | ((with_reducible apply hasl_o); exact rfl)
  | ((with_reducible apply puta_p); exact rfl; (first | exact ix_0 .. | exact ix_1 ..); (· walk_at "st"); (· walk_at "st"))
  | ((with_reducible apply puta_o); exact rfl; (first | exact ix_0 .. | exact ix_1 ..); (· walk_at "st"); (· walk_at "st"))
  | ((with_reducible apply eqa_i); exact rfl)
  | (with_reducible apply isb_i)
  | (with_reducible apply ex_int)
  | ((with_reducible apply ex_set); (· walk_at "st"))
  | ((with_reducible apply rg1_i); (· omega))
  | ((with_reducible apply rg2_i); (· omega)))
local macro_rules | `(tactic| walk_at "go") => `(tactic| repeat walk_at "go1")

namespace Mine.Rk
/-! a count that is written in cells -/
def big (c : Int) : Bool := decide (1024 ≤ c)
def run (cs : List Int) (a : Nat) : Nat := ((cs.drop a).takeWhile big).length
def vl : List Int → Int
  | [] => 0
  | c :: r => c % 1024 + 1024 * vl r
def cnt (cs : List Int) (a k : Nat) : Int := vl ((cs.drop a).take k)
inductive Rd where
  | bad (n : Int)
  | got (v : Int) (e : Nat)
def rd1 (cs : List Int) (a : Nat) : Rd :=
  if 5 ≤ run cs a then .bad a else if cs.length ≤ a + run cs a then .bad cs.length else if 0 < run cs a ∧ cs[a + run cs a]? = some 0 then .bad a else .got (cnt cs a (run cs a + 1)) (a + run cs a + 1)
theorem tw_len : ∀ (l : List Int), (l.takeWhile big).length ≤ l.length ∧ (∀ j, j < (l.takeWhile big).length → ∃ c, l[j]? = some c ∧ 1024 ≤ c) ∧ ∀ c, l[(l.takeWhile big).length]? = some c → c < 1024
  | [] => ⟨Nat.le_refl _, fun j h => absurd h (Nat.not_lt_zero _), fun c h => by simp at h⟩
  | c :: r => by
    obtain ⟨h1, h2, h3⟩ := tw_len r
    by_cases g : 1024 ≤ c
    · rw [List.takeWhile_cons_of_pos (show big c = true from decide_eq_true g)]
      refine ⟨by rw [List.length_cons, List.length_cons]; omega, fun j hj => ?_, fun d hd => h3 d (by rw [List.length_cons, List.getElem?_cons_succ] at hd; exact hd)⟩
      cases j with
      | zero => exact ⟨c, rfl, g⟩
      | succ j =>
        rw [List.length_cons] at hj
        obtain ⟨d, hd, hd2⟩ := h2 j (by omega)
        exact ⟨d, by rw [List.getElem?_cons_succ]; exact hd, hd2⟩
    · rw [List.takeWhile_cons_of_neg (by unfold big; simpa using g)]
      exact ⟨Nat.zero_le _, fun j h => absurd h (Nat.not_lt_zero _), fun d hd => by cases hd; omega⟩
theorem run_le {cs : List Int} {a : Nat} (h : a ≤ cs.length) : a + run cs a ≤ cs.length := by
  refine keepG ?_ ?_
  have := (tw_len (cs.drop a)).1
  rw [List.length_drop] at this
  unfold run
  omega
  walk_at "zz"
theorem run_big {cs : List Int} {a j : Nat} (h : j < run cs a) : ∃ c, cs[a + j]? = some c ∧ 1024 ≤ c := by
  refine keepG ?_ ?_
  obtain ⟨c, h1, h2⟩ := (tw_len (cs.drop a)).2.1 j h
  rw [List.getElem?_drop] at h1
  exact ⟨c, h1, h2⟩
  walk_at "zz"
theorem run_small {cs : List Int} {a : Nat} {c : Int} (h : cs[a + run cs a]? = some c) : c < 1024 := by
  refine keepG ?_ ?_
  refine (tw_len (cs.drop a)).2.2 c ?_
  rw [List.getElem?_drop]
  exact h
  walk_at "zz"
/-- what stands at a place tells whether the row goes on -/
theorem run_on {cs : List Int} {a j : Nat} {c : Int} (hj : j ≤ run cs a) (h : cs[a + j]? = some c) : 1024 ≤ c ↔ j < run cs a := by
  refine keepG ?_ ?_
  constructor
  · intro g
    rcases Nat.lt_or_ge j (run cs a) with z | z
    · exact z
    · have : j = run cs a := by omega
      subst this
      have := run_small h
      omega
  · intro g
    obtain ⟨d, h1, h2⟩ := run_big g
    rw [h1] at h
    cases h
    exact h2
  walk_at "zz"
theorem vl_nn : ∀ l : List Int, 0 ≤ vl l
  | [] => Int.le_refl _
  | c :: r => by
    have := vl_nn r
    have h := Int.emod_nonneg c (show (1024 : Int) ≠ 0 by decide)
    show 0 ≤ c % 1024 + 1024 * vl r
    omega
theorem vl_lt : ∀ {l : List Int} {k : Nat}, l.length ≤ k → vl l < 1024 ^ k
  | [], k, _ => by
    show 0 < _
    exact Int.pow_pos (by decide)
  | c :: r, 0, h => by cases h
  | c :: r, k + 1, h => by
    have := vl_lt (l := r) (k := k) (by rw [List.length_cons] at h; omega)
    have h2 := Int.emod_lt_of_pos c (show (0 : Int) < 1024 by decide)
    show c % 1024 + 1024 * vl r < _
    rw [Int.pow_succ]
    omega
theorem cnt_b {cs : List Int} {a k : Nat} : 0 ≤ cnt cs a k ∧ cnt cs a k < 1024 ^ k := ⟨vl_nn _, vl_lt (by rw [List.length_take]; omega)⟩
theorem fold_vl (l : List Int) : l.reverse.foldl (fun acc c => acc * 1024 + c % 1024) 0 = vl l := by
  refine keepG ?_ ?_
  rw [List.foldl_reverse]
  induction l with
  | nil => rfl
  | cons c r ih =>
    show (r.foldr _ 0) * 1024 + c % 1024 = c % 1024 + 1024 * vl r
    rw [ih]
    omega
  walk_at "zz"
theorem rd1_len {cs : List Int} {a : Nat} {v : Int} {e : Nat} (h : rd1 cs a = .got v e) : a < e ∧ e ≤ cs.length ∧ 0 ≤ v ∧ v < 1125899906842624 := by
  refine keepG ?_ ?_
  unfold rd1 at h
  split at h
  · cases h
  · rename_i h5
    split at h
    · cases h
    · rename_i hl
      split at h
      · cases h
      · cases h
        refine ⟨by omega, by omega, cnt_b.1, ?_⟩
        have h1 := (cnt_b (cs := cs) (a := a) (k := run cs a + 1)).2
        have h2 : ∀ k : Nat, k ≤ 4 → (1024 : Int) ^ (k + 1) ≤ 1125899906842624 := fun k hk => by
          have : k = 0 ∨ k = 1 ∨ k = 2 ∨ k = 3 ∨ k = 4 := by omega
          rcases this with rfl | rfl | rfl | rfl | rfl <;> decide
        have h3 := h2 (run cs a) (by omega)
        omega
  walk_at "zz"
/-! the facts of a record -/
def num (v : Int) : Int := if v % 2 = 0 then v / 2 else -(v + 1) / 2
def fct (k : Bool) (v : Int) : Int := if k = true then num v else v
inductive Ra where
  | bad (n : Int)
  | got (fs : List Int) (a : Nat)
def rdA (cs : List Int) : List Bool → Nat → List Int → Ra
  | [], a, acc => .got acc a
  | k :: ks, a, acc => match rd1 cs a with
    | .bad n => .bad n
    | .got v e => if -1099511627776 < fct k v ∧ fct k v < 1099511627776 then rdA cs ks e (acc ++ [fct k v]) else .bad a
theorem rdA_bad {cs : List Int} {k : Bool} {ks : List Bool} {a : Nat} {acc : List Int} {n : Int} (h : rd1 cs a = .bad n) : rdA cs (k :: ks) a acc = .bad n := by
  refine keepG ?_ ?_
  unfold rdA
  rw [h]
  walk_at "zz"
theorem rdA_out {cs : List Int} {k : Bool} {ks : List Bool} {a : Nat} {acc : List Int} {v : Int} {e : Nat} (h : rd1 cs a = .got v e) (g : ¬ (-1099511627776 < fct k v ∧ fct k v < 1099511627776)) : rdA cs (k :: ks) a acc = .bad a := by
  refine keepG ?_ ?_
  unfold rdA
  rw [h]
  exact if_neg g
  walk_at "zz"
theorem rdA_on {cs : List Int} {k : Bool} {ks : List Bool} {a : Nat} {acc : List Int} {v : Int} {e : Nat} (h : rd1 cs a = .got v e) (g : -1099511627776 < fct k v ∧ fct k v < 1099511627776) : rdA cs (k :: ks) a acc = rdA cs ks e (acc ++ [fct k v]) := by
  refine keepG ?_ ?_
  rw [rdA.eq_def]
  simp only [h]
  exact if_pos g
  walk_at "zz"
/-! the words of records and their kinds -/
def kdW : Nat → List Bool
  | 0 => [false]
  | 1 => [false, false, true, true, true, true, true, true, true, true, true]
  | 2 => [false, true, true]
  | 3 => [false, false]
  | _ => [false, false, false]
def wdS : Nat → Str
  | 0 => "time"
  | 1 => "orbit"
  | 2 => "clock"
  | 3 => "key"
  | _ => "tag"
def txS : Nat → Str
  | 0 => "c"
  | 1 => "ccnnnnnnnnn"
  | 2 => "cnn"
  | 3 => "cc"
  | _ => "ccc"
def kS : Bool → Str
  | true => "n"
  | false => "c"
def txC (x : Str) : List Str := x.cps.toList.map fun c => ⟨#[c]⟩
theorem txD_C (x : Str) : txD x = (txC x).map D.str := by
  refine keepG ?_ ?_
  unfold txD txC
  rw [List.map_map]
  rfl
  walk_at "zz"
theorem tx_kd {w : Nat} (h : w < 5) : txD (txS w) = (kdW w).map fun k => .str (kS k) := by
  refine keepG ?_ ?_
  have e : ∀ w, w < 5 → txC (txS w) = (kdW w).map kS := by decide +kernel
  rw [txD_C, e w h, List.map_map]
  rfl
  walk_at "zz"
theorem tabC_l {tab : List (Str × Str)} {x y : Str} (h : tab.lookup x = some y) : (tabC tab).lookup x = some (.str y) := by
  refine keepG ?_ ?_
  induction tab with
  | nil => cases h
  | cons p r ih =>
    obtain ⟨k, v⟩ := p
    rw [List.lookup_cons] at h
    show List.lookup x ((k, D.str v) :: tabC r) = _
    rw [List.lookup_cons]
    cases e : x == k with
    | true =>
      rw [e] at h
      cases h
      rfl
    | false =>
      rw [e] at h
      exact ih h
  walk_at "zz"
theorem tab_w {w : Nat} (h : w < 5) : (tabC dc_FACTS).lookup (wdS w) = some (.str (txS w)) := by
  refine keepG ?_ ?_
  have e : ∀ w, w < 5 → dc_FACTS.lookup (wdS w) = some (txS w) := by decide +kernel
  exact tabC_l (e w h)
  walk_at "zz"
theorem tab_l {w : Nat} (h : w < 5) : (tabC tb_Lfacts).lookup (wdS w) = some (.str (txS w)) := by
  refine keepG ?_ ?_
  have e : ∀ w, w < 5 → tb_Lfacts.lookup (wdS w) = some (txS w) := by decide +kernel
  exact tabC_l (e w h)
  walk_at "zz"
theorem wd_at {w : Nat} (h : w < 5) : atI (sL ["time", "orbit", "clock", "key", "tag"]) (w : Int) = some (.str (wdS w)) := by
  refine keepG ?_ ?_
  have : w = 0 ∨ w = 1 ∨ w = 2 ∨ w = 3 ∨ w = 4 := by omega
  rcases this with rfl | rfl | rfl | rfl | rfl <;> rfl
  walk_at "zz"
/-- all that is read -/
inductive Rr where
  | bad (n : Int)
  | got (w : Nat) (fs : List Int)
def rdR (cs : List Int) : Rr := match cs with
  | [] => .bad 0
  | c :: _ => if 1 ≤ c ∧ c ≤ 5 then match rdA cs (kdW (c - 1).toNat) 1 [] with
      | .bad n => .bad n
      | .got fs a => if a < cs.length then .bad a else .got (c - 1).toNat fs
    else .bad 0
def rrD : Rr → D
  | .bad n => .tup [.str "wrong", .int n]
  | .got w fs => .tup [.str "record", .tup (.str (wdS w) :: iL fs)]
end Mine.Rk

namespace Mine.Rk
theorem cs_at {cs : List Int} {i : Nat} {c : Int} (h : cs[i]? = some c) : atI (iL cs) (i : Int) = some (.int c) := atI_nn (by unfold iL; rw [List.getElem?_map, h]; rfl)
theorem of_rev {ma : ME} {s : Sto} {P : List D → Sto → Prop} (h : OE (ma s) fun b s1 => OZ (frz s1 b) fun d s2 => OI d.seq fun ds => P ds.reverse s2) : OF (Mi.iRev ma s) P := by
  refine keepG ?_ ?_
  obtain ⟨b, s1, e1, d, s2, e2, ds, e3, p⟩ := h
  refine ⟨_, _, ?_, p⟩
  unfold Mi.iRev
  rw [e1]
  show (frz s1 b).bind _ = _
  rw [e2]
  show d.seq.bind _ = _
  rw [e3]
  rfl
  walk_at "zz"
local macro_rules | `(tactic| walk_at "g1") => `(tactic| first
  | (walk_at "go1")
  | (with_reducible apply os_raise)
  | (with_reducible apply isi_i)
  | (with_reducible apply os_asgX)
  | (with_reducible apply os_retX)
  | (with_reducible apply ox_E)
  | (with_reducible apply ox_nil)
  | (with_reducible apply ox_cons)
  | (with_reducible apply ox_call)
  | (with_reducible apply nx_ex)
  | (with_reducible apply tu_ex)
  | (with_reducible apply fx_rt)
  | (with_reducible apply fx_nx)
  | (with_reducible apply fx_ex))
local macro_rules | `(tactic| walk_at "gg") => `(tactic| repeat walk_at "g1")
local macro_rules | `(tactic| walk_at "gn") => `(tactic| repeat ((fail_if_success (with_reducible apply os_seq)); walk_at "g1"))
def RcOk (A : D → Prop) (B : Nat → Int → Prop) : Rd → Prop
  | .bad n => B 2 n
  | .got v e => A (.tup [.int v, .int (e : Int)])
theorem read_count_ok {cs : List Int} {a : Nat} (ha : a ≤ cs.length) (hl : cs.length ≤ 500) (hc : ∀ c ∈ cs, 0 ≤ c ∧ c < 1000000) {A : D → Prop} {B : Nat → Int → Prop} (h : RcOk A B (rd1 cs a)) : OMX (m_read_count_ [.dat (.lst (iL cs)), .dat (.int (a : Int))]) (Xm A B) := by
  refine keepG ?_ ?_
  refine omx_fn (s0 := [.dat (.lst (iL cs)), .dat (.int (a : Int)), .un, .un, .un]) rfl rfl ?_
  have hr := run_le ha
  walk_at "gg"
  refine os_while (os_wh (fun n t => ∃ j : Nat, t = [.dat (.lst (iL cs)), .dat (.int (a : Int)), .dat (.int ((a + j : Nat) : Int)), .un, .un] ∧ j ≤ run cs a ∧ j ≤ 4 ∧ n = cs.length - (a + j)) ?_ _ (cs.length - a) _ ⟨0, rfl, Nat.zero_le _, Nat.zero_le _, rfl⟩ (by show _ < 1000; omega))
  rintro n t ⟨j, rfl, h1, h2, h3⟩
  walk_at "gg"
  rw [iL_len]
  refine br_dec (fun g1 => ?_) (fun g1 => ?_)
  · obtain ⟨c, hcj⟩ : ∃ c, cs[a + j]? = some c := ⟨_, List.getElem?_eq_getElem (by omega)⟩
    have hon := run_on h1 hcj
    walk_at "gg"
    refine od_ixL (cs_at hcj) ?_
    walk_at "gg"
    refine br_dec (fun g2 => ?_) (fun g2 => ?_)
    · have g3 := hon.mp g2
      walk_at "gg"
      refine br_dec (fun g4 => ?_) (fun g4 => ?_)
      · walk_at "gg"
        have e : rd1 cs a = .bad a := by
          unfold rd1
          rw [if_pos (by omega)]
        rw [e] at h
        exact h
      · walk_at "gg"
        exact ⟨cs.length - (a + (j + 1)), by omega, j + 1, by rw [show (((a + j : Nat) : Int) + 1) = ((a + (j + 1) : Nat) : Int) by omega], by omega, by omega, rfl⟩
    · have ej : j = run cs a := by
        have := fun z => g2 (hon.mpr z)
        omega
      subst ej
      walk_at "gg"
      rw [iL_len]
      refine br_no (by omega) ?_
      have hsm := run_small hcj
      have tail : rd1 cs a = .got (cnt cs a (run cs a + 1)) (a + run cs a + 1) → OS (mSeq (mAsg (mC (.int 0)) (gNm 3)) (mSeq (mFor (Mi.iRev (mSl slD (mVar 0) (oSome (mVar 1)) (oSome (mBin addD (mVar 2) (mC (.int 1)))))) (gNm 4) (mAsg (mBin addD (mBin mulD (mVar 3) (mC dc_BASE)) (mBin (Mi.intOp modI) (mVar 4) (mC dc_BASE))) (gNm 3)))
          (mRet (mTup (aCons (mVar 3) (aCons (mBin addD (mVar 2) (mC (.int 1))) aNil))))) [.dat (.lst (iL cs)), .dat (.int (a : Int)), .dat (.int ((a + run cs a : Nat) : Int)), .un, .un]) (FinX (Xm A B)) := fun e => by
        rw [e] at h
        walk_at "gg"
        refine of_rev ?_
        walk_at "gg"
        rw [show (((a + run cs a : Nat) : Int) + 1) = ((a + run cs a + 1 : Nat) : Int) by omega, cut_between _ _ _ (by omega)]
        rw [show ((iL cs).take (a + run cs a + 1)).drop a = iL ((cs.drop a).take (run cs a + 1)) by
          unfold iL
          rw [← List.map_take, ← List.map_drop, List.drop_take, show a + run cs a + 1 - a = run cs a + 1 by omega]]
        obtain ⟨M, hM⟩ : ∃ M, M = ((cs.drop a).take (run cs a + 1)).reverse := ⟨_, rfl⟩
        walk_at "gg"
        rw [show (iL ((cs.drop a).take (run cs a + 1))).reverse = iL M by rw [hM]; unfold iL; rw [List.map_reverse]]
        refine os_loop (fun i t => ∃ x4 : SV, t = [.dat (.lst (iL cs)), .dat (.int (a : Int)), .dat (.int ((a + run cs a : Nat) : Int)), .dat (.int ((M.take i).foldl (fun acc c => acc * 1024 + c % 1024) 0)), x4]) _ 0 _ ⟨_, rfl⟩ ?_ ?_
        · rintro i w t hw ⟨x4, rfl⟩
          obtain ⟨c, hc2, rfl⟩ := iL_getx hw
          rw [Nat.zero_add]
          walk_at "gg"
          have et : (M.take (i + 1)).foldl (fun acc c => acc * 1024 + c % 1024) 0 = (M.take i).foldl (fun acc c => acc * 1024 + c % 1024) 0 * 1024 + c % 1024 := by
            rw [List.take_add_one, hc2]
            show ((M.take i ++ [c]).foldl _ 0) = _
            rw [List.foldl_append]
            rfl
          rw [et]
          exact ⟨_, rfl⟩
        · rintro t ⟨x4, rfl⟩
          rw [Nat.zero_add, iL_len, List.take_length, hM, fold_vl]
          walk_at "gg"
          rw [show (((a + run cs a : Nat) : Int) + 1) = ((a + run cs a + 1 : Nat) : Int) by omega]
          exact h
      walk_at "gg"
      refine br_dec (fun g4 => ?_) (fun g4 => ?_)
      · walk_at "gg"
        refine od_ixL (cs_at hcj) ?_
        walk_at "gg"
        refine br_dec (fun g5 => ?_) (fun g5 => ?_)
        · walk_at "gg"
          have e : rd1 cs a = .bad a := by
            unfold rd1
            rw [if_neg (by omega), if_neg (by omega), if_pos ⟨by omega, by rw [hcj, g5]⟩]
          rw [e] at h
          exact h
        · walk_at "gn"
          refine tail ?_
          unfold rd1
          rw [if_neg (by omega), if_neg (by omega), if_neg]
          rintro ⟨_, z⟩
          rw [hcj] at z
          exact g5 (Option.some.inj z)
      · walk_at "gn"
        refine tail ?_
        unfold rd1
        rw [if_neg (by omega), if_neg (by omega), if_neg (fun z => by omega)]
  · have ej : j = run cs a := by
      rcases Nat.lt_or_ge j (run cs a) with z | z
      · obtain ⟨c, hc1, _⟩ := run_big z
        have := (List.getElem?_eq_some_iff.mp hc1).1
        omega
      · omega
    subst ej
    walk_at "gg"
    rw [iL_len]
    refine br_yes (by omega) ?_
    walk_at "gg"
    have e : rd1 cs a = .bad cs.length := by
      unfold rd1
      rw [if_neg (by omega), if_pos (by omega)]
    rw [e] at h
    rw [show ((a + run cs a : Nat) : Int) = (cs.length : Int) by omega]
    exact h
  walk_at "zz"
end Mine.Rk

namespace Mine.Rk
local macro_rules | `(tactic| walk_at "g1") => `(tactic| first
  | (walk_at "go1")
  | (with_reducible apply os_raise)
  | (with_reducible apply isi_i)
  | (with_reducible apply os_asgX)
  | (with_reducible apply os_retX)
  | (with_reducible apply os_tryR)
  | (with_reducible apply ox_E)
  | (with_reducible apply ox_nil)
  | (with_reducible apply ox_cons)
  | (with_reducible apply ox_tup)
  | (with_reducible apply ox_call)
  | (with_reducible apply nx_ex)
  | (with_reducible apply tu_ex)
  | ((with_reducible apply tk_ex); exact rfl; exact Nat.le_of_ble_eq_true rfl)
  | (with_reducible apply tk_rt)
  | (with_reducible apply tk_nx)
  | (with_reducible apply fx_rt)
  | (with_reducible apply fx_nx)
  | (with_reducible apply oe_tab)
  | (with_reducible apply of_txt)
  | (with_reducible apply txt_i)
  | (with_reducible apply os_parLP)
  | (with_reducible apply oe_tupSt)
  | ((with_reducible apply oz_ow); exact rfl; (· walk_at "st"))
  | (with_reducible apply fx_ex))
local macro_rules | `(tactic| walk_at "gg") => `(tactic| repeat walk_at "g1")
def RrOk (A : D → Prop) (B : Nat → Int → Prop) : Rr → Prop
  | .bad n => B 2 n
  | .got w fs => A (.tup (.str (wdS w) :: iL fs))
theorem number_of_ok {v : Int} {Q : D → Prop} (q : Q (.int (num v))) : OM (m_number_of_ [.dat (.int v)]) fun d _ => Q d := by
  refine keepG ?_ ?_
  refine om_fn (s0 := [.dat (.int v)]) rfl rfl ?_
  unfold num at q
  walk_at "gg"
  refine br_dec (fun g => ?_) (fun g => ?_)
  · rw [if_pos g] at q
    walk_at "gg"
    exact q
  · rw [if_neg g] at q
    walk_at "gg"
    exact q
  walk_at "zz"
theorem is_whole_ok {v : Int} {Q : D → Prop} (q : Q (.bl true)) : OM (m_is_whole [.dat (.int v)]) fun d _ => Q d := by
  refine keepG ?_ ?_
  refine om_fn (s0 := [.dat (.int v)]) rfl rfl ?_
  walk_at "gg"
  exact q
  walk_at "zz"
theorem fits_ok {k : Bool} {f : Int} (hk : k = false → 0 ≤ f) {Q : D → Prop} (q : Q (.bl (decide (-1099511627776 < f ∧ f < 1099511627776)))) : OM (m_fits_ [.dat (.str (kS k)), .dat (.int f)]) fun d _ => Q d := by
  refine keepG ?_ ?_
  refine om_fn (s0 := [.dat (.str (kS k)), .dat (.int f), .un]) rfl rfl ?_
  have q2 : ∀ c : Bool, (c = true ↔ -1099511627776 < f ∧ f < 1099511627776) → Q (.bl c) := fun c h => by
    have : c = decide (-1099511627776 < f ∧ f < 1099511627776) := by rw [Bool.eq_iff_iff, h, decide_eq_true_iff]
    rw [this]
    exact q
  cases k with
  | true =>
    walk_at "gg"
    refine is_whole_ok ?_
    walk_at "gg"
    refine br_dec (fun g => ?_) (fun g => ?_)
    · walk_at "gg"
      exact q2 _ (by rw [decide_eq_true_iff]; omega)
    · walk_at "gg"
      exact q2 _ ⟨fun z => (by cases z), fun z => by omega⟩
  | false =>
    have := hk rfl
    walk_at "gg"
    refine is_whole_ok ?_
    walk_at "gg"
    exact q2 _ (by rw [decide_eq_true_iff]; omega)
  walk_at "zz"
local macro_rules | `(tactic| walk_at "gb") => `(tactic| repeat ((fail_if_success (with_reducible apply os_seq)); walk_at "g1"))
theorem appI2 {s : Sto} {j : Nat} {x : Int} {acc : List Int} {s' : Sto} {P : Sto → Prop} (h : s[j]? = some (.own (iL acc))) (hl : acc.length < 16000000) (st : SetTo s j (.own (iL (acc ++ [x]))) s') (p : P s') : ∃ ds, s[j]? = some (.own ds) ∧ ds.length < 16000000 ∧ ∃ s3, SetTo s j (.own (ds ++ [.int x])) s3 ∧ P s3 :=
  ⟨iL acc, h, by rw [iL_len]; exact hl, s', by rw [show iL acc ++ [.int x] = iL (acc ++ [x]) by simp [iL]]; exact st, p⟩
theorem od_kS {k : Bool} {P : D → Prop} (p : P (.bl (!k))) : OD (eqD (.str (kS k)) (.str "c")) P := by
  refine keepG ?_ ?_
  cases k with
  | true => exact od_eqS (b := false) (by decide +kernel) (by decide +kernel) (by decide +kernel) p
  | false => exact od_eqS (b := true) (by decide +kernel) (by decide +kernel) (by decide +kernel) p
  walk_at "zz"
theorem fact_ok {x0 x1 : SV} {fs : List Int} {a e : Nat} {k : Bool} {v : Int} {x7 : SV} (hv : 0 ≤ v) (hfs : fs.length ≤ 20) {P : Out → Sto → Prop}
    (h1 : (-1099511627776 < fct k v ∧ fct k v < 1099511627776) → P .nx [x0, x1, .own (iL (fs ++ [fct k v])), .dat (.int (e : Int)), .dat (.str (kS k)), .dat (.int v), .dat (.int (e : Int)), .dat (.int (fct k v))])
    (h2 : ¬ (-1099511627776 < fct k v ∧ fct k v < 1099511627776) → P (.ex 2 (a : Int)) [x0, x1, .own (iL fs), .dat (.int (a : Int)), .dat (.str (kS k)), .dat (.int v), .dat (.int (e : Int)), .dat (.int (fct k v))]) :
    OS (mSeq (mAsg (mIfE (mTest (mBin eqD (mVar 4) (mC dc_COUNT))) (mVar 5) (mCall m_number_of_ none (aCons (mVar 5) aNil))) (gNm 7))
      (mSeq (mIf (mNot (mTru (mCall m_fits_ none (aCons (mVar 4) (aCons (mVar 7) aNil))))) (mRaise 2 (mVar 3)) mNext)
      (mSeq (mApp 2 (mVar 7)) (mAsg (mVar 6) (gNm 3)))) [x0, x1, .own (iL fs), .dat (.int (a : Int)), .dat (.str (kS k)), .dat (.int v), .dat (.int (e : Int)), x7]) P := by
  refine keepG ?_ ?_
  have tail : OS (mSeq (mIf (mNot (mTru (mCall m_fits_ none (aCons (mVar 4) (aCons (mVar 7) aNil))))) (mRaise 2 (mVar 3)) mNext)
      (mSeq (mApp 2 (mVar 7)) (mAsg (mVar 6) (gNm 3))) [x0, x1, .own (iL fs), .dat (.int (a : Int)), .dat (.str (kS k)), .dat (.int v), .dat (.int (e : Int)), .dat (.int (fct k v))]) P := by
    walk_at "gg"
    refine fits_ok (fun z => by subst z; exact hv) ?_
    walk_at "gg"
    refine br_dec (fun g => ?_) (fun g => ?_)
    · walk_at "gg"
      refine appI2 rfl (by omega) (by walk_at "st") ?_
      walk_at "gg"
      exact h1 g
    · walk_at "gg"
      exact h2 g
  walk_at "gg"
  refine od_kS ?_
  walk_at "gb"
  cases k with
  | true =>
    walk_at "gb"
    refine number_of_ok ?_
    walk_at "gb"
    exact tail
  | false =>
    walk_at "gb"
    exact tail
  walk_at "zz"
theorem read_record_ok {cs : List Int} (hl : cs.length ≤ 500) (hc : ∀ c ∈ cs, 0 ≤ c ∧ c < 1000000) {A : D → Prop} {B : Nat → Int → Prop} (h : RrOk A B (rdR cs)) : OMX (m_read_record [.dat (.lst (iL cs))]) (Xm A B) := by
  refine keepG ?_ ?_
  refine omx_fn (s0 := [.dat (.lst (iL cs)), .un, .un, .un, .un, .un, .un, .un]) rfl rfl ?_
  cases cs with
  | nil =>
    walk_at "gg"
    refine br_yes rfl ?_
    walk_at "gg"
    exact h
  | cons c r =>
    have hc0 := (hc c List.mem_cons_self).1
    walk_at "gg"
    rw [iL_len]
    refine br_no (by rw [List.length_cons]; omega) ?_
    walk_at "gg"
    refine od_ixL (cs_at (i := 0) rfl) ?_
    walk_at "gg"
    have bad : ¬ (1 ≤ c ∧ c ≤ 5) → B 2 0 := fun g => by
      have e : rdR (c :: r) = .bad 0 := if_neg g
      rw [e] at h
      exact h
    refine br_dec (fun g1 => ?_) (fun g1 => ?_)
    · walk_at "gg"
      refine br_dec (fun g2 => ?_) (fun g2 => ?_)
      · have g2 : c ≤ 5 := g2
        obtain ⟨w, hw⟩ := Int.eq_ofNat_of_zero_le (show 0 ≤ c - 1 by omega)
        have hw5 : w < 5 := by omega
        walk_at "gg"
        refine od_ixL (cs_at (i := 0) rfl) ?_
        walk_at "gg"
        rw [hw]
        refine od_ixT (wd_at hw5) ?_
        walk_at "gg"
        refine ⟨_, rfl, _, by walk_at "st", _, by walk_at "st", ?_⟩
        walk_at "gg"
        refine tab_i (tab_w hw5) ?_
        walk_at "gg"
        refine ⟨_, rfl, ?_⟩
        rw [tx_kd hw5]
        obtain ⟨cs, hcs⟩ : ∃ cs, cs = c :: r := ⟨_, rfl⟩
        rw [← hcs] at hl hc ⊢
        have hcl : 1 ≤ cs.length := by rw [hcs, List.length_cons]; omega
        have hwh : RrOk A B (match rdA cs (kdW w) 1 [] with
            | .bad n => .bad n
            | .got fs a => if a < cs.length then .bad a else .got w fs) := by
          have e : rdR (c :: r) = match rdA (c :: r) (kdW (c - 1).toNat) 1 [] with
            | .bad n => .bad n
            | .got fs a => if a < (c :: r).length then .bad a else .got (c - 1).toNat fs := if_pos ⟨g1, g2⟩
          rw [e, hw, Int.toNat_natCast, ← hcs] at h
          exact h
        clear h
        obtain ⟨whole, hwho⟩ : ∃ z, z = rdA cs (kdW w) 1 [] := ⟨_, rfl⟩
        rw [← hwho] at hwh
        refine os_loop (fun i t => ∃ (a : Nat) (fs : List Int) (x4 x5 x6 x7 : SV), t = [.dat (.lst (iL cs)), .dat (.str (wdS w)), .own (iL fs), .dat (.int (a : Int)), x4, x5, x6, x7] ∧ a ≤ cs.length ∧ fs.length ≤ i ∧ rdA cs ((kdW w).drop i) a fs = whole) _ 0 _ ⟨1, [], _, _, _, _, rfl, hcl, Nat.le_refl _, hwho.symm⟩ ?_ ?_
        · rintro i d t hd ⟨a, fs, x4, x5, x6, x7, rfl, ha, hfs, hgo⟩
          rw [Nat.zero_add] at hfs hgo ⊢
          rw [List.getElem?_map] at hd
          obtain ⟨k, hk, rfl⟩ := Option.map_eq_some_iff.mp hd
          have hki := (List.getElem?_eq_some_iff.mp hk).1
          have hkw : (kdW w).length ≤ 11 := by
            have : ∀ w, w < 5 → (kdW w).length ≤ 11 := by decide
            exact this w hw5
          rw [List.drop_eq_getElem_cons hki, (List.getElem?_eq_some_iff.mp hk).2] at hgo
          walk_at "gg"
          refine read_count_ok ha hl hc ?_
          cases e1 : rd1 cs a with
          | bad n =>
            rw [rdA_bad e1] at hgo
            rw [← hgo] at hwh
            show B 2 n
            exact hwh
          | got v e =>
            obtain ⟨l1, l2, l3, l4⟩ := rd1_len e1
            show Sc _ _ _
            walk_at "gb"
            refine fact_ok l3 (by omega) (fun g => ?_) (fun g => ?_)
            · rw [rdA_on e1 g] at hgo
              walk_at "gg"
              exact ⟨e, _, _, _, _, _, rfl, l2, by rw [List.length_append]; show fs.length + 1 ≤ _; omega, hgo⟩
            · rw [rdA_out e1 g] at hgo
              rw [← hgo] at hwh
              walk_at "gg"
              exact hwh
        · rintro t ⟨a, fs, x4, x5, x6, x7, rfl, ha, hfs, hgo⟩
          rw [Nat.zero_add, List.length_map] at hgo
          rw [Nat.zero_add, List.length_map] at hfs
          have hkw : (kdW w).length ≤ 11 := by
            have : ∀ w, w < 5 → (kdW w).length ≤ 11 := by decide
            exact this w hw5
          rw [List.drop_length] at hgo
          have hgo : Ra.got fs a = whole := hgo
          rw [← hgo] at hwh
          have hwh : RrOk A B (if a < cs.length then .bad a else .got w fs) := hwh
          walk_at "gg"
          rw [iL_len]
          refine br_dec (fun g => ?_) (fun g => ?_)
          · rw [if_pos (by omega)] at hwh
            walk_at "gg"
            exact hwh
          · rw [if_neg (by omega)] at hwh
            walk_at "gg"
            refine ⟨by rw [iL_len]; omega, ?_⟩
            walk_at "gg"
            exact hwh
      · walk_at "gg"
        exact bad (fun z => g2 z.2)
    · walk_at "gg"
      exact bad (fun z => g1 z.1)
  walk_at "zz"
end Mine.Rk

namespace Mine.Rk
/-! a count as cells, exactly -/
def enc : Nat → Int → List Int
  | 0, v => [v]
  | n + 1, v => if v < 1024 then [v] else (1024 + v % 1024) :: enc n (v / 1024)
theorem enc_small {n : Nat} {v : Int} (h : v < 1024) : enc n v = [v] := by
  refine keepG ?_ ?_
  cases n with
  | zero => rfl
  | succ n => exact if_pos h
  walk_at "zz"
theorem enc_big {n : Nat} {v : Int} (h : ¬ v < 1024) : enc (n + 1) v = (1024 + v % 1024) :: enc n (v / 1024) := if_neg h
theorem enc_ne : ∀ (n : Nat) (v : Int), 1 ≤ (enc n v).length
  | 0, v => Nat.le_refl _
  | n + 1, v => by
    by_cases h : v < 1024
    · rw [enc_small h]; exact Nat.le_refl _
    · rw [enc_big h, List.length_cons]; omega
theorem enc_len : ∀ (n m : Nat) {v : Int}, v < 1024 ^ (m + 1) → m ≤ n → (enc n v).length ≤ m + 1
  | n, 0, v, h, _ => by rw [enc_small (by simpa using h)]; exact Nat.le_refl _
  | 0, m + 1, v, h, g => absurd g (by omega)
  | n + 1, m + 1, v, h, g => by
    by_cases z : v < 1024
    · rw [enc_small z]; show 1 ≤ _; omega
    · rw [enc_big z, List.length_cons]
      rw [Int.pow_succ] at h
      have := enc_len n m (v := v / 1024) (by omega) (by omega)
      omega
theorem enc_tw : ∀ (n : Nat) {v : Int} (post : List Int), 0 ≤ v → v < 1024 ^ (n + 1) → ((enc n v ++ post).takeWhile big).length + 1 = (enc n v).length ∧ vl (enc n v) = v ∧ (∀ c, (enc n v)[(enc n v).length - 1]? = some c → 1 ≤ v → 1 ≤ c)
  | 0, v, post, h0, h => by
    have h : v < 1024 := by simpa using h
    refine ⟨?_, ?_, fun c hc hv => ?_⟩
    · show (([v] ++ post).takeWhile big).length + 1 = 1
      rw [List.singleton_append, List.takeWhile_cons_of_neg (by unfold big; simpa using h)]
      rfl
    · show v % 1024 + 1024 * 0 = v
      omega
    · cases hc
      exact hv
  | n + 1, v, post, h0, h => by
    by_cases z : v < 1024
    · rw [enc_small z]
      refine ⟨?_, ?_, fun c hc hv => ?_⟩
      · show (([v] ++ post).takeWhile big).length + 1 = 1
        rw [List.singleton_append, List.takeWhile_cons_of_neg (by unfold big; simpa using z)]
        rfl
      · show v % 1024 + 1024 * 0 = v
        omega
      · cases hc
        exact hv
    · rw [enc_big z]
      rw [Int.pow_succ] at h
      obtain ⟨g1, g2, g3⟩ := enc_tw n (v := v / 1024) post (by omega) (by omega)
      have hne := enc_ne n (v / 1024)
      refine ⟨?_, ?_, fun c hc hv => ?_⟩
      · rw [List.cons_append, List.takeWhile_cons_of_pos (show big _ = true from decide_eq_true (by omega)), List.length_cons, List.length_cons]
        omega
      · show (1024 + v % 1024) % 1024 + 1024 * vl (enc n (v / 1024)) = v
        rw [g2]
        omega
      · rw [List.length_cons] at hc
        obtain ⟨m, hm⟩ : ∃ m, (enc n (v / 1024)).length = m + 1 := ⟨_, (Nat.succ_pred_eq_of_pos hne).symm⟩
        rw [hm] at hc g3
        exact g3 c (by simpa using hc) (by omega)
theorem rd1_enc {n : Nat} {pre post : List Int} {v : Int} (h0 : 0 ≤ v) (hn : v < 1024 ^ (n + 1)) (h : v < 1125899906842624) (h4 : 4 ≤ n) : rd1 (pre ++ (enc n v ++ post)) pre.length = .got v (pre.length + (enc n v).length) := by
  refine keepG ?_ ?_
  obtain ⟨g1, g2, g3⟩ := enc_tw n post h0 hn
  have hl := enc_len n 4 (v := v) (by simpa using h) h4
  have hne := enc_ne n v
  have er : run (pre ++ (enc n v ++ post)) pre.length + 1 = (enc n v).length := by
    unfold run
    rw [List.drop_left]
    exact g1
  have hlen : (pre ++ (enc n v ++ post)).length = pre.length + ((enc n v).length + post.length) := by rw [List.length_append, List.length_append]
  unfold rd1
  rw [if_neg (by omega), if_neg (by rw [hlen]; omega), if_neg ?_, er]
  · congr 1
    · unfold cnt
      rw [List.drop_left, List.take_left, g2]
    · omega
  · rintro ⟨z1, z2⟩
    rw [List.getElem?_append_right (by omega), show pre.length + run (pre ++ (enc n v ++ post)) pre.length - pre.length = (enc n v).length - 1 by omega, List.getElem?_append_left (by omega)] at z2
    have z3 : 1 ≤ v := by
      by_cases z : v < 1024
      · have : (enc n v).length = 1 := by rw [enc_small z]; rfl
        omega
      · omega
    have := g3 0 z2 z3
    omega
  walk_at "zz"
/-! all cells of a record -/
def cof (k : Bool) (f : Int) : Int := if k = true then (if 0 ≤ f then 2 * f else -2 * f - 1) else f
theorem fct_cof {k : Bool} {f : Int} : fct k (cof k f) = f := by
  refine keepG ?_ ?_
  cases k with
  | false => rfl
  | true =>
    show num (if 0 ≤ f then 2 * f else -2 * f - 1) = f
    unfold num
    by_cases h : 0 ≤ f
    · rw [if_pos h, if_pos (by omega)]
      omega
    · rw [if_neg h, if_neg (by omega)]
      omega
  walk_at "zz"
def encs : List Bool → List Int → List Int
  | k :: ks, f :: fs => enc 9 (cof k f) ++ encs ks fs
  | _, _ => []
/-- facts of a record's kinds -/
def Fc (ks : List Bool) (fs : List Int) : Prop := fs.length = ks.length ∧ ∀ (i : Nat) (k : Bool) (f : Int), ks[i]? = some k → fs[i]? = some f → (-1099511627776 < f ∧ f < 1099511627776) ∧ (k = false → 0 ≤ f)
theorem Fc.head {k : Bool} {ks : List Bool} {f : Int} {fs : List Int} (h : Fc (k :: ks) (f :: fs)) : ((-1099511627776 < f ∧ f < 1099511627776) ∧ (k = false → 0 ≤ f)) ∧ Fc ks fs :=
  ⟨h.2 0 k f rfl rfl, by have := h.1; rw [List.length_cons, List.length_cons] at this; omega, fun i k' f' h1 h2 => h.2 (i + 1) k' f' (by rw [List.getElem?_cons_succ]; exact h1) (by rw [List.getElem?_cons_succ]; exact h2)⟩
theorem cof_b {k : Bool} {f : Int} (h1 : -1099511627776 < f ∧ f < 1099511627776) (h2 : k = false → 0 ≤ f) : 0 ≤ cof k f ∧ cof k f < 2199023255552 := by
  refine keepG ?_ ?_
  cases k with
  | false =>
    have := h2 rfl
    show 0 ≤ f ∧ f < _
    omega
  | true =>
    show 0 ≤ (if 0 ≤ f then 2 * f else -2 * f - 1) ∧ (if 0 ≤ f then 2 * f else -2 * f - 1) < _
    split <;> omega
  walk_at "zz"
theorem p10 : (1024 : Int) ^ 10 = 1267650600228229401496703205376 := by decide
theorem rdA_encs : ∀ (ks : List Bool) (fs pre acc : List Int), Fc ks fs → rdA (pre ++ encs ks fs) ks pre.length acc = .got (acc ++ fs) (pre ++ encs ks fs).length
  | [], fs, pre, acc, h => by
    have : fs = [] := List.length_eq_zero_iff.mp h.1
    subst this
    show Ra.got acc pre.length = _
    rw [List.append_nil]
    show _ = Ra.got acc (pre ++ []).length
    rw [List.append_nil]
  | k :: ks, [], pre, acc, h => by have := h.1; cases this
  | k :: ks, f :: fs, pre, acc, h => by
    obtain ⟨⟨h1, h2⟩, h3⟩ := h.head
    obtain ⟨b1, b2⟩ := cof_b h1 h2
    show rdA (pre ++ (enc 9 (cof k f) ++ encs ks fs)) (k :: ks) pre.length acc = _
    rw [rdA_on (rd1_enc (n := 9) b1 (by have := p10; omega) (by omega) (by decide)) (by rw [fct_cof]; exact h1), fct_cof]
    have := rdA_encs ks fs (pre ++ enc 9 (cof k f)) (acc ++ [f]) h3
    rw [List.length_append, List.append_assoc, List.append_assoc] at this
    exact this
theorem enc_cl : ∀ (n : Nat) {v : Int}, 0 ≤ v → v < 1024 ^ (n + 1) → ∀ c ∈ enc n v, 0 ≤ c ∧ c < 2048
  | 0, v, h0, h, c, hc => by
    have h : v < 1024 := by simpa using h
    rw [List.mem_singleton.mp hc]
    omega
  | n + 1, v, h0, h, c, hc => by
    by_cases z : v < 1024
    · rw [enc_small z] at hc
      rw [List.mem_singleton.mp hc]
      omega
    · rw [enc_big z] at hc
      rw [Int.pow_succ] at h
      rcases List.mem_cons.mp hc with rfl | hc
      · omega
      · exact enc_cl n (by omega) (by omega) c hc
theorem encs_cl : ∀ (ks : List Bool) (fs : List Int), Fc ks fs → (∀ c ∈ encs ks fs, 0 ≤ c ∧ c < 2048) ∧ (encs ks fs).length ≤ 10 * ks.length
  | [], fs, h => ⟨fun c hc => (nomatch hc), Nat.zero_le _⟩
  | k :: ks, [], h => by have := h.1; cases this
  | k :: ks, f :: fs, h => by
    obtain ⟨⟨h1, h2⟩, h3⟩ := h.head
    obtain ⟨b1, b2⟩ := cof_b h1 h2
    obtain ⟨g1, g2⟩ := encs_cl ks fs h3
    have := p10
    refine ⟨fun c hc => ?_, ?_⟩
    · rcases List.mem_append.mp hc with hc | hc
      · exact enc_cl 9 b1 (by omega) c hc
      · exact g1 c hc
    · show (enc 9 (cof k f) ++ encs ks fs).length ≤ _
      have := enc_len 9 9 (v := cof k f) (by omega) (Nat.le_refl _)
      rw [List.length_append, List.length_cons]
      omega
theorem encs_snoc : ∀ (ks : List Bool) (fs : List Int) (i : Nat) {k : Bool} {f : Int}, ks[i]? = some k → fs[i]? = some f → encs (ks.take (i + 1)) (fs.take (i + 1)) = encs (ks.take i) (fs.take i) ++ enc 9 (cof k f)
  | [], _, _, _, _, h, _ => by cases h
  | _ :: _, [], _, _, _, _, h => by cases h
  | k :: ks, f :: fs, 0, _, _, h1, h2 => by
    cases h1
    cases h2
    show enc 9 (cof k f) ++ [] = [] ++ enc 9 (cof k f)
    rw [List.append_nil, List.nil_append]
  | k :: ks, f :: fs, i + 1, _, _, h1, h2 => by
    rw [List.getElem?_cons_succ] at h1 h2
    have := encs_snoc ks fs i h1 h2
    show enc 9 (cof k f) ++ encs (ks.take (i + 1)) (fs.take (i + 1)) = (enc 9 (cof k f) ++ encs (ks.take i) (fs.take i)) ++ _
    rw [this, List.append_assoc]
def cellsR (w : Nat) (fs : List Int) : List Int := ((w : Int) + 1) :: encs (kdW w) fs
theorem kdw_len {w : Nat} (h : w < 5) : 1 ≤ (kdW w).length ∧ (kdW w).length ≤ 11 := by
  refine keepG ?_ ?_
  have : ∀ w, w < 5 → 1 ≤ (kdW w).length ∧ (kdW w).length ≤ 11 := by decide
  exact this w h
  walk_at "zz"
theorem rdR_cells {w : Nat} {fs : List Int} (hw : w < 5) (h : Fc (kdW w) fs) : rdR (cellsR w fs) = .got w fs := by
  refine keepG ?_ ?_
  unfold cellsR rdR
  simp only
  rw [if_pos (by omega), show ((w : Int) + 1 - 1).toNat = w by omega]
  have := rdA_encs (kdW w) fs [(w : Int) + 1] [] h
  rw [List.nil_append, List.singleton_append] at this
  rw [show ([(w : Int) + 1] : List Int).length = 1 from rfl] at this
  rw [this]
  simp only
  rw [if_neg (Nat.lt_irrefl _)]
  walk_at "zz"
theorem cells_cl {w : Nat} {fs : List Int} (hw : w < 5) (h : Fc (kdW w) fs) : (∀ c ∈ cellsR w fs, 0 ≤ c ∧ c < 2048) ∧ (cellsR w fs).length ≤ 120 := by
  refine keepG ?_ ?_
  obtain ⟨g1, g2⟩ := encs_cl (kdW w) fs h
  have := kdw_len hw
  refine ⟨fun c hc => ?_, ?_⟩
  · rcases List.mem_cons.mp hc with rfl | hc
    · omega
    · exact g1 c hc
  · unfold cellsR
    rw [List.length_cons]
    omega
  walk_at "zz"
end Mine.Rk

namespace Mine.Rk
theorem pow18 : Mi.intOp powI (.int 10) (.int 18) = some (.int 1000000000000000000) := by
  refine keepG ?_ ?_
  unfold Mi.intOp powI
  show ((if 0 ≤ (18 : Int) ∧ (18 : Int) ≤ 1000000 ∧ (10 : Int).natAbs < 18446744073709551616 then some ((10 : Int) ^ (18 : Int).toNat) else none).bind fun k => some (D.int k)) = _
  rw [if_pos (by decide)]
  rfl
  walk_at "zz"
theorem refill_ok (ns : List Int) {a : Int} (ha : 0 ≤ a) {Q : D → Prop} (q : ∀ c : Int, 0 ≤ c → Q (.int c)) : OM (m_Lrefill [.dat (.fro (iL ns)), .dat (.int a)]) fun d _ => Q d := by
  refine keepG ?_ ?_
  refine om_fn (s0 := [.dat (.fro (iL ns)), .dat (.int a), .un]) rfl rfl ?_
  walk_at "go"
  have emp : (iL ns).isEmpty = decide ((ns.length : Int) = 0) := by cases ns <;> rfl
  rw [emp]
  refine br_join (fun s => ∃ c : Int, s = [.dat (.fro (iL ns)), .dat (.int a), .dat (.int c)]) (fun h0 => ?_) (fun h0 => ?_) ?_
  · walk_at "go"
    exact ⟨_, rfl⟩
  · walk_at "go"
    have hp : (0 : Int) < (ns.length : Int) := by omega
    rw [iL_len]
    walk_at "go"
    apply od_ixF (at_iL (Int.emod_nonneg _ (by omega)) (Int.emod_lt_of_pos _ hp))
    walk_at "go"
    exact ⟨_, rfl⟩
  · rintro s ⟨c, rfl⟩
    walk_at "go"
    refine br_join (fun s => ∃ d : Int, s = [.dat (.fro (iL ns)), .dat (.int a), .dat (.int d)] ∧ 0 ≤ d) (fun h1 => ?_) (fun h1 => ?_) ?_
    · walk_at "go"
      exact ⟨_, rfl, by omega⟩
    · walk_at "go"
      exact ⟨_, rfl, by omega⟩
    · rintro s ⟨d, rfl, hd⟩
      walk_at "go"
      refine od_eq pow18 ?_
      walk_at "go"
      apply br_dec <;> intro h1
      · walk_at "go"
        apply br_dec <;> intro h2
        · walk_at "go"
          exact q _ hd
        · walk_at "go"
          exact q _ (Int.emod_nonneg _ (by decide))
      · walk_at "go"
        exact q _ (Int.emod_nonneg _ (by decide))
  walk_at "zz"
theorem draw_ok (ns : List Int) {a b size : Int} {Q : D → Option (List D) → Prop} (ha : 0 ≤ a) (hb : 0 ≤ b) (hs : 0 < size) (hs2 : size < 1152921504606846976)
    (q : ∀ d a' b' : Int, 0 ≤ d → d < size → 0 ≤ a' → 0 ≤ b' → Q (.int d) (some [.int a', .int b'])) : OM (m_Ldraw [.par [.int a, .int b], .dat (.fro (iL ns)), .dat (.int size)]) Q := by
  refine keepG ?_ ?_
  refine om_fn (s0 := [.par [.int a, .int b], .dat (.fro (iL ns)), .dat (.int size), .un]) rfl rfl ?_
  have q2 : ∀ b a' : Int, 0 ≤ b → 0 ≤ a' → Q (.int (b % size)) (some [.int a', .int (b / size)]) := fun b a' hb ha => q _ _ _ (Int.emod_nonneg _ (by omega)) (Int.emod_lt_of_pos _ hs) ha (Int.ediv_nonneg hb (by omega))
  walk_at "go"
  apply br_dec <;> intro h0
  · walk_at "go"
    refine refill_ok ns ha fun c hc => ?_
    walk_at "go"
    exact q2 _ _ hc (by omega)
  · walk_at "go"
    exact q2 _ _ hb ha
  walk_at "zz"
local macro_rules | `(tactic| walk_at "g1") => `(tactic| first
  | (walk_at "go1")
  | ((with_reducible apply id_om); first
    | ((with_reducible apply draw_ok); (· omega); (· omega); (· omega); (· omega); intro _ _ _ _ _ _ _))
  | (with_reducible apply oe_tab)
  | (with_reducible apply of_txt)
  | ((with_reducible apply oz_ow); exact rfl; (· walk_at "st")))
local macro_rules | `(tactic| walk_at "gg") => `(tactic| repeat walk_at "g1")
theorem od_kN {k : Bool} {P : D → Prop} (p : P (.bl k)) : OD (eqD (.str (kS k)) (.str "n")) P := by
  refine keepG ?_ ?_
  cases k with
  | true => exact od_eqS (b := true) (by decide +kernel) (by decide +kernel) (by decide +kernel) p
  | false => exact od_eqS (b := false) (by decide +kernel) (by decide +kernel) (by decide +kernel) p
  walk_at "zz"
theorem szs {i : Int} {P : D → Prop} (h0 : 0 ≤ i) (h : i < 7) (p : ∀ v : Int, 1 ≤ v → v ≤ 1099511627776 → P (.int v)) : OD (ixD (.lst [.int 1, .int 2, .int 1024, .int 1025, .int 1048576, .int 1073741824, .int 1099511627776]) (.int i)) P := by
  refine keepG ?_ ?_
  have : i = 0 ∨ i = 1 ∨ i = 2 ∨ i = 3 ∨ i = 4 ∨ i = 5 ∨ i = 6 := by omega
  rcases this with rfl | rfl | rfl | rfl | rfl | rfl | rfl <;> exact od_ixL (by rfl) (p _ (by decide) (by decide))
  walk_at "zz"
/-- one fact -/
theorem Lfact_ok (ns : List Int) {a b : Int} {k : Bool} (ha : 0 ≤ a) (hb : 0 ≤ b) {Q : D → Option (List D) → Prop} (q : ∀ f a b : Int, (-1099511627776 < f ∧ f < 1099511627776) → (k = false → 0 ≤ f) → 0 ≤ a → 0 ≤ b → Q (.int f) (some [.int a, .int b])) : OM (m_Lfact [.par [.int a, .int b], .dat (.fro (iL ns)), .dat (.str (kS k))]) Q := by
  refine keepG ?_ ?_
  refine om_fn (s0 := [.par [.int a, .int b], .dat (.fro (iL ns)), .dat (.str (kS k)), .un, .un]) rfl rfl ?_
  have e30 : (2 : Int) ^ (30 : Int).toNat = 1073741824 := by decide
  have e40 : (2 : Int) ^ (40 : Int).toNat = 1099511627776 := by decide
  walk_at "gg"
  refine od_pow (by decide) (by decide) ?_
  rw [e30]
  walk_at "gg"
  refine od_pow (by decide) (by decide) ?_
  rw [e40]
  walk_at "gg"
  refine szs (by omega) (by omega) fun sz h1 h2 => ?_
  walk_at "gg"
  refine br_join (fun s => ∃ f a b : Int, s = [.par [.int a, .int b], .dat (.fro (iL ns)), .dat (.str (kS k)), .dat (.int sz), .dat (.int f)] ∧ (0 ≤ f ∧ f < 1099511627776) ∧ 0 ≤ a ∧ 0 ≤ b) (fun _ => ?_) (fun _ => ?_) ?_
  · walk_at "gg"
    exact ⟨_, _, _, rfl, by omega, by omega, by omega⟩
  · walk_at "gg"
    exact ⟨_, _, _, rfl, by omega, by omega, by omega⟩
  · rintro s ⟨f, a, b, rfl, hf, ha, hb⟩
    walk_at "gg"
    refine od_kN ?_
    walk_at "gg"
    cases k with
    | false =>
      walk_at "gg"
      exact q _ _ _ (by omega) (fun _ => hf.1) ha hb
    | true =>
      walk_at "gg"
      refine br_dec (fun _ => ?_) (fun _ => ?_)
      · walk_at "gg"
        exact q _ _ _ (by omega) (fun z => by cases z) (by omega) (by omega)
      · walk_at "gg"
        exact q _ _ _ (by omega) (fun z => by cases z) (by omega) (by omega)
  walk_at "zz"
theorem Fc.snoc {ks : List Bool} {fs : List Int} {i : Nat} {k : Bool} {f : Int} (h : Fc (ks.take i) fs) (hk : ks[i]? = some k) (h1 : -1099511627776 < f ∧ f < 1099511627776) (h2 : k = false → 0 ≤ f) : Fc (ks.take (i + 1)) (fs ++ [f]) := by
  refine keepG ?_ ?_
  have hi := (List.getElem?_eq_some_iff.mp hk).1
  obtain ⟨e, g⟩ := h
  have et : ks.take (i + 1) = ks.take i ++ [k] := by rw [List.take_add_one, hk]; rfl
  rw [et]
  refine ⟨by rw [List.length_append, List.length_append, e]; rfl, fun j k' f' hj hf => ?_⟩
  rcases Nat.lt_or_ge j (ks.take i).length with z | z
  · rw [List.getElem?_append_left z] at hj
    rw [List.getElem?_append_left (by omega)] at hf
    exact g j k' f' hj hf
  · rw [List.getElem?_append_right z] at hj
    rw [List.getElem?_append_right (by omega)] at hf
    have hz : j - (ks.take i).length = 0 := by
      have := (List.getElem?_eq_some_iff.mp hj).1
      have e1 : ([k] : List Bool).length = 1 := rfl
      omega
    rw [hz] at hj
    rw [show j - fs.length = 0 by omega] at hf
    cases hj
    cases hf
    exact ⟨h1, h2⟩
  walk_at "zz"
theorem Lrecord_ok (ns : List Int) {a b : Int} (ha : 0 ≤ a) (hb : 0 ≤ b) {Q : D → Option (List D) → Prop} (q : ∀ (w : Nat) (fs : List Int) (a b : Int), w < 5 → Fc (kdW w) fs → 0 ≤ a → 0 ≤ b → Q (.tup (.str (wdS w) :: iL fs)) (some [.int a, .int b])) : OM (m_Lrecord [.par [.int a, .int b], .dat (.fro (iL ns))]) Q := by
  refine keepG ?_ ?_
  refine om_fn (s0 := [.par [.int a, .int b], .dat (.fro (iL ns)), .un, .un]) rfl rfl ?_
  walk_at "gg"
  rename_i w0 a1 b1 _ _ _ _
  obtain ⟨w, rfl⟩ := Int.eq_ofNat_of_zero_le (show 0 ≤ w0 by omega)
  have hw5 : w < 5 := by omega
  obtain ⟨hk1, hk2⟩ := kdw_len hw5
  refine od_ixL (wd_at hw5) ?_
  walk_at "gg"
  refine tab_i (tab_l hw5) ?_
  walk_at "gg"
  refine ⟨_, rfl, ?_⟩
  rw [tx_kd hw5]
  refine of_cloop (fun i acc t => ∃ (a b : Int) (fs : List Int) (x3 : SV), t = [.par [.int a, .int b], .dat (.fro (iL ns)), .dat (.str (wdS w)), x3] ∧ acc = iL fs ∧ Fc ((kdW w).take i) fs ∧ i ≤ (kdW w).length ∧ 0 ≤ a ∧ 0 ≤ b) _ _ 0 _ ⟨a1, b1, [], _, rfl, rfl, ⟨rfl, fun i k f h => by simp at h⟩, Nat.zero_le _, by omega, by omega⟩ ?_ ?_
  · rintro i d acc t hd ⟨a, b, fs, x3, rfl, rfl, hF, hi, ha, hb⟩
    rw [List.getElem?_map] at hd
    obtain ⟨k, hk, rfl⟩ := Option.map_eq_some_iff.mp hd
    have hki := (List.getElem?_eq_some_iff.mp hk).1
    rw [Nat.zero_add] at hF hi ⊢
    walk_at "gg"
    refine Lfact_ok ns ha hb fun f a b h1 h2 ha hb => ?_
    walk_at "gg"
    have hle := hF.1
    rw [List.length_take] at hle
    exact ⟨by rw [iL_len]; omega, a, b, fs ++ [f], _, rfl, by rw [← iL_app2]; rfl, hF.snoc hk h1 h2, by omega, ha, hb⟩
  · rintro acc t ⟨a, b, fs, x3, rfl, rfl, hF, hi, ha, hb⟩
    rw [Nat.zero_add, List.length_map] at hF
    rw [List.take_length] at hF
    have hle := hF.1
    walk_at "gg"
    refine od_catL (by rw [iL_len]; show 1 + _ ≤ _; omega) ?_
    walk_at "gg"
    exact q w fs a b hw5 hF ha hb
  walk_at "zz"
end Mine.Rk

namespace Mine.Rk
local macro_rules | `(tactic| walk_at "g1") => `(tactic| first
  | (walk_at "go1")
  | (with_reducible apply oe_tab)
  | (with_reducible apply of_txt)
  | (with_reducible apply isi_i)
  | (with_reducible apply of_iZX)
  | (with_reducible apply oe_idxTC)
  | (with_reducible apply os_while)
  | (with_reducible apply ot_true)
  | ((with_reducible apply oz_ow); exact rfl; (· walk_at "st")))
local macro_rules | `(tactic| walk_at "gg") => `(tactic| repeat walk_at "g1")
theorem ix_tx {w i : Nat} (hw : w < 5) {k : Bool} (hk : (kdW w)[i]? = some k) {P : D → Prop} (p : P (.str (kS k))) : OD (ixS (.str (txS w)) (.int (i : Int))) P := by
  refine keepG ?_ ?_
  have e : ∀ w, w < 5 → txC (txS w) = (kdW w).map kS := by decide +kernel
  have el : ∀ w, w < 5 → (txS w).length ≤ 1000 := by decide +kernel
  have h := congrArg (fun l : List Str => l[i]?) (e w hw)
  have h : (txC (txS w))[i]? = ((kdW w).map kS)[i]? := h
  rw [List.getElem?_map, hk] at h
  unfold txC at h
  rw [List.getElem?_map] at h
  obtain ⟨c, hc, hc2⟩ := Option.map_eq_some_iff.mp h
  refine od_ixS (el w hw) (c := c) (atI_nn hc) ?_
  rw [hc2]
  exact p
  walk_at "zz"
theorem len_tx {w : Nat} (hw : w < 5) {P : D → Prop} (p : P (.int ((kdW w).length : Int))) : OD (lenS [.str (txS w)]) P := by
  refine keepG ?_ ?_
  have el : ∀ w, w < 5 → (txS w).length = (kdW w).length := by decide +kernel
  have h2 := kdw_len hw
  refine od_lenS (by rw [el w hw]; omega) ?_
  rw [el w hw]
  exact p
  walk_at "zz"
theorem idx_w {w : Nat} (hw : w < 5) {A : Int → Prop} (a : A (w : Int)) : IdxTs (.lst (sL ["time", "orbit", "clock", "key", "tag"])) (.str (wdS w)) A := by
  refine keepG ?_ ?_
  have e : ∀ w, w < 5 → idxT ["time", "orbit", "clock", "key", "tag"] (wdS w) = some w := by decide +kernel
  exact ⟨_, ["time", "orbit", "clock", "key", "tag"], wdS w, w, rfl, rfl, rfl, e w hw, a⟩
  walk_at "zz"
/-- the law's cells of a count -/
theorem Lcount_ok : ∀ (dep : Nat) {v : Int} {Q : D → Prop}, 0 ≤ v → v < 1024 ^ (dep + 1) → dep ≤ 20 → Q (.lst (iL (enc dep v))) → OM (m_Lcount_cells (dep + 1) [.dat (.int v)]) fun d _ => Q d := by
  refine keepG ?_ ?_
  intro dep
  induction dep with
  | zero =>
    intro v Q h0 h1 _ q
    have h1 : v < 1024 := h1
    refine om_fn (s0 := [.dat (.int v)]) rfl rfl ?_
    walk_at "gg"
    exact q
  | succ dep ih =>
    intro v Q h0 h1 hd q
    refine om_fn (s0 := [.dat (.int v)]) rfl rfl ?_
    walk_at "gg"
    refine br_dec (fun g => ?_) (fun g => ?_)
    · walk_at "gg"
      rw [enc_small g] at q
      exact q
    · walk_at "gg"
      rw [enc_big g] at q
      rw [Int.pow_succ] at h1
      have hl := enc_len dep dep (v := v / 1024) (by omega) (Nat.le_refl _)
      refine ih (by omega) (by omega) (by omega) ?_
      walk_at "gg"
      refine od_catL (by rw [iL_len]; show 1 + _ ≤ _; omega) ?_
      walk_at "gg"
      exact q
  walk_at "zz"
theorem count_ok {v : Int} {Q : D → Prop} (h0 : 0 ≤ v) (h : v < 1024 ^ 10) (q : Q (.lst (iL (enc 9 v)))) : OM (m_cells_of_count_ [.dat (.int v)]) fun d _ => Q d := by
  refine keepG ?_ ?_
  refine om_fn (s0 := [.dat (.int v), .un]) rfl rfl ?_
  walk_at "gg"
  refine os_wh (fun n t => ∃ (u : Int) (acc : List Int), t = [.dat (.int u), .own (iL acc)] ∧ 0 ≤ u ∧ n ≤ 9 ∧ u < 1024 ^ (n + 1) ∧ acc.length ≤ 9 - n ∧ acc ++ enc n u = enc 9 v) ?_ _ 9 _ ⟨v, [], rfl, h0, Nat.le_refl _, h, Nat.zero_le _, rfl⟩ (by decide)
  rintro n t ⟨u, acc, rfl, u0, hn, u1, ha, hu⟩
  walk_at "gg"
  refine br_dec (fun g => ?_) (fun g => ?_)
  · have hn1 : 1 ≤ n := by
      rcases Nat.eq_zero_or_pos n with z | z
      · subst z
        have u1 : u < 1024 := by simpa using u1
        omega
      · exact z
    obtain ⟨m, rfl⟩ : ∃ m, n = m + 1 := ⟨n - 1, by omega⟩
    rw [enc_big (by omega)] at hu
    rw [Int.pow_succ] at u1
    walk_at "gg"
    refine appI2 rfl (by omega) (by walk_at "st") ?_
    walk_at "gg"
    exact ⟨m, by omega, u / 1024, acc ++ [1024 + u % 1024], rfl, by omega, by omega, by omega, by rw [List.length_append]; show _ + 1 ≤ _; omega, by rw [List.append_assoc]; exact hu⟩
  · rw [enc_small (by omega)] at hu
    walk_at "gg"
    refine od_catL (by rw [iL_len]; show _ + 1 ≤ _; omega) ?_
    walk_at "gg"
    rw [← hu, ← iL_app2] at q
    exact q
  walk_at "zz"
theorem count_of_ok {f : Int} {Q : D → Prop} (q : Q (.int (cof true f))) : OM (m_count_of_ [.dat (.int f)]) fun d _ => Q d := by
  refine keepG ?_ ?_
  refine om_fn (s0 := [.dat (.int f)]) rfl rfl ?_
  have q : Q (.int (if 0 ≤ f then 2 * f else -2 * f - 1)) := q
  walk_at "gg"
  refine br_dec (fun g => ?_) (fun g => ?_)
  · have g : 0 ≤ f := g
    rw [if_pos g] at q
    walk_at "gg"
    exact q
  · have g : ¬ 0 ≤ f := g
    rw [if_neg g] at q
    walk_at "gg"
    exact q
  walk_at "zz"
theorem extI {s : Sto} {j : Nat} {es acc : List Int} {s' : Sto} {P : Sto → Prop} (h : s[j]? = some (.own (iL acc))) (hl : acc.length + es.length ≤ 16000000) (st : SetTo s j (.own (iL (acc ++ es))) s') (p : P s') : ∃ xs ds, D.lst (iL es) = .lst xs ∧ s[j]? = some (.own ds) ∧ ds.length + xs.length ≤ 16000000 ∧ ∃ s3, SetTo s j (.own (ds ++ xs)) s3 ∧ P s3 :=
  ⟨iL es, iL acc, rfl, h, by rw [iL_len, iL_len]; exact hl, s', by rw [iL_app2]; exact st, p⟩
theorem zip_at {as bs : List D} {i : Nat} {d : D} (h : (zipD as bs)[i]? = some d) : ∃ x y, as[i]? = some x ∧ bs[i]? = some y ∧ d = .tup [x, y] := zipD_at h
theorem iL_at {fs : List Int} {i : Nat} {d : D} (h : (iL fs)[i]? = some d) : ∃ f, fs[i]? = some f ∧ d = .int f := by
  refine keepG ?_ ?_
  unfold iL at h
  rw [List.getElem?_map] at h
  obtain ⟨f, hf, rfl⟩ := Option.map_eq_some_iff.mp h
  exact ⟨f, hf, rfl⟩
  walk_at "zz"
theorem cells_of_ok {w : Nat} {fs : List Int} (hw : w < 5) (hF : Fc (kdW w) fs) {Q : D → Prop} (q : Q (.lst (iL (cellsR w fs)))) : OM (m_cells_of [.dat (.tup (.str (wdS w) :: iL fs))]) fun d _ => Q d := by
  refine keepG ?_ ?_
  obtain ⟨hk1, hk2⟩ := kdw_len hw
  have hle := hF.1
  have e10 := p10
  refine om_fn (s0 := [.dat (.tup (.str (wdS w) :: iL fs)), .un, .un, .un]) rfl rfl ?_
  walk_at "gg"
  have ei : ∀ w, w < 5 → idxT ["time", "orbit", "clock", "key", "tag"] (wdS w) = some w := by decide +kernel
  refine ⟨_, w, rfl, ei w hw, ?_⟩
  walk_at "gg"
  refine tab_i (tab_w hw) ?_
  walk_at "gg"
  rw [show cutG (D.str (wdS w) :: iL fs) (some 1) none = iL fs from cut_from _ 1]
  refine oi_zX rfl ?_
  rw [tx_kd hw]
  refine os_loop (fun i t => ∃ (x2 x3 : SV), t = [.dat (.tup (.str (wdS w) :: iL fs)), .own (iL (((w : Int) + 1) :: encs ((kdW w).take i) (fs.take i))), x2, x3] ∧ (encs ((kdW w).take i) (fs.take i)).length ≤ 10 * i) _ 0 _ ⟨_, _, rfl, Nat.zero_le _⟩ ?_ ?_
  · rintro i d t hd ⟨x2, x3, rfl, hl⟩
    obtain ⟨x, y, hx, hy, rfl⟩ := zip_at hd
    rw [List.getElem?_map] at hx
    obtain ⟨k, hk, rfl⟩ := Option.map_eq_some_iff.mp hx
    obtain ⟨f, hf, rfl⟩ := iL_at hy
    have hi := (List.getElem?_eq_some_iff.mp hk).1
    obtain ⟨f1, f2⟩ := hF.2 i k f hk hf
    obtain ⟨b1, b2⟩ := cof_b f1 f2
    rw [Nat.zero_add] at hl ⊢
    have hs := encs_snoc (kdW w) fs i hk hf
    have hel := enc_len 9 9 (v := cof k f) (by omega) (Nat.le_refl _)
    walk_at "gg"
    (with_reducible apply os_ext)
    · exact rfl
    walk_at "gg"
    refine od_kS ?_
    walk_at "gg"
    cases k with
    | false =>
      walk_at "gg"
      refine count_ok (v := cof false f) b1 (by omega) ?_
      walk_at "gg"
      refine extI rfl (by rw [List.length_cons]; omega) (by walk_at "st") ?_
      walk_at "gg"
      exact ⟨_, _, by rw [hs]; rfl, by rw [hs, List.length_append]; omega⟩
    | true =>
      walk_at "gg"
      refine count_of_ok ?_
      walk_at "gg"
      refine count_ok (v := cof true f) b1 (by omega) ?_
      walk_at "gg"
      refine extI rfl (by rw [List.length_cons]; omega) (by walk_at "st") ?_
      walk_at "gg"
      exact ⟨_, _, by rw [hs]; rfl, by rw [hs, List.length_append]; omega⟩
  · rintro t ⟨x2, x3, rfl, hl⟩
    have e1 : (0 + (zipD (List.map (fun k => D.str (kS k)) (kdW w)) (iL fs)).length) = (kdW w).length := by rw [zipD_len, List.length_map, iL_len]; omega
    rw [e1, List.take_length, ← hle, List.take_length]
    walk_at "gg"
    exact q
  walk_at "zz"
/-- the law's cells of a record -/
theorem Lcells_ok {w : Nat} {fs : List Int} (hw : w < 5) (hF : Fc (kdW w) fs) {Q : D → Prop} (q : Q (.lst (iL (cellsR w fs)))) : OM (m_Lcells [.dat (.tup (.str (wdS w) :: iL fs))]) fun d _ => Q d := by
  refine keepG ?_ ?_
  obtain ⟨hk1, hk2⟩ := kdw_len hw
  have hle := hF.1
  have e10 := p10
  refine om_fn (s0 := [.dat (.tup (.str (wdS w) :: iL fs)), .un, .un, .un, .un]) rfl rfl ?_
  walk_at "gg"
  refine tab_i (tab_l hw) ?_
  walk_at "gg"
  refine oe_idxT ?_
  walk_at "gg"
  refine ⟨⟨_, rfl⟩, ?_⟩
  walk_at "gg"
  refine idx_w hw ?_
  walk_at "gg"
  refine len_tx hw ?_
  walk_at "gg"
  refine os_loop (fun i t => ∃ (x3 x4 : SV), t = [.dat (.tup (.str (wdS w) :: iL fs)), .dat (.str (txS w)), .dat (.lst (iL (((w : Int) + 1) :: encs ((kdW w).take i) (fs.take i)))), x3, x4] ∧ (encs ((kdW w).take i) (fs.take i)).length ≤ 10 * i) _ 0 _ ⟨_, _, rfl, Nat.zero_le _⟩ ?_ ?_
  · rintro i d t hd ⟨x3, x4, rfl, hl⟩
    obtain ⟨rfl, hi⟩ := rng_get hd
    have hi : i < (kdW w).length := by rw [Int.toNat_natCast] at hi; exact hi
    rw [Nat.zero_add] at hl ⊢
    obtain ⟨f, hf⟩ : ∃ f, fs[i]? = some f := ⟨_, List.getElem?_eq_getElem (by omega)⟩
    obtain ⟨k, hk⟩ : ∃ k, (kdW w)[i]? = some k := ⟨_, List.getElem?_eq_getElem hi⟩
    obtain ⟨f1, f2⟩ := hF.2 i k f hk hf
    obtain ⟨b1, b2⟩ := cof_b f1 f2
    have hs := encs_snoc (kdW w) fs i hk hf
    have hel := enc_len 9 9 (v := cof k f) (by omega) (Nat.le_refl _)
    have fin : ((((w : Int) + 1) :: encs ((kdW w).take i) (fs.take i)) ++ enc 9 (cof k f)) = ((w : Int) + 1) :: encs ((kdW w).take (i + 1)) (fs.take (i + 1)) := by rw [hs]; rfl
    have fin2 : (encs ((kdW w).take (i + 1)) (fs.take (i + 1))).length ≤ 10 * (i + 1) := by rw [hs, List.length_append]; omega
    walk_at "gg"
    refine od_ixT (show atI (D.str (wdS w) :: iL fs) (0 + (i : Int) + 1) = some (.int f) from ?_) ?_
    · rw [show (0 + (i : Int) + 1) = ((i + 1 : Nat) : Int) by omega]
      exact atI_nn (by rw [List.getElem?_cons_succ]; unfold iL; rw [List.getElem?_map, hf]; rfl)
    walk_at "gg"
    rw [show (0 + (i : Int)) = (i : Int) by omega]
    refine ix_tx hw hk ?_
    walk_at "gg"
    refine od_kN ?_
    walk_at "gg"
    have e : cof k f = if k = true then (if 0 ≤ f then 2 * f else -2 * f - 1) else f := rfl
    cases k with
    | false =>
      have hel : (enc 9 f).length ≤ 10 := hel
      walk_at "gg"
      refine Lcount_ok 9 b1 (by omega) (by decide) ?_
      walk_at "gg"
      refine od_catL (by rw [iL_len, iL_len, List.length_cons]; omega) ?_
      walk_at "gg"
      exact ⟨_, _, by rw [iL_app2, ← fin]; rfl, fin2⟩
    | true =>
      walk_at "gg"
      rw [if_pos rfl] at e
      by_cases g : f < 0
      · rw [if_neg (by omega)] at e
        rw [decide_eq_true g]
        refine od_ixL (show atI [D.int (2 * f), D.int (-2 * f - 1)] (if true = true then 1 else 0) = some (.int (-2 * f - 1)) from rfl) ?_
        rw [← e]
        walk_at "gg"
        refine Lcount_ok 9 b1 (by omega) (by decide) ?_
        walk_at "gg"
        refine od_catL (by rw [iL_len, iL_len, List.length_cons]; omega) ?_
        walk_at "gg"
        exact ⟨_, _, by rw [iL_app2, ← fin], fin2⟩
      · rw [if_pos (by omega)] at e
        rw [decide_eq_false g]
        refine od_ixL (show atI [D.int (2 * f), D.int (-2 * f - 1)] (if false = true then 1 else 0) = some (.int (2 * f)) from rfl) ?_
        rw [← e]
        walk_at "gg"
        refine Lcount_ok 9 b1 (by omega) (by decide) ?_
        walk_at "gg"
        refine od_catL (by rw [iL_len, iL_len, List.length_cons]; omega) ?_
        walk_at "gg"
        exact ⟨_, _, by rw [iL_app2, ← fin], fin2⟩
  · rintro t ⟨x3, x4, rfl, hl⟩
    rw [rng_len, Int.toNat_natCast, Nat.zero_add, List.take_length, ← hle, List.take_length]
    walk_at "gg"
    exact q
  walk_at "zz"
end Mine.Rk

namespace Mine.Rk
local macro_rules | `(tactic| walk_at "g1") => `(tactic| first
  | (walk_at "go1")
  | (with_reducible apply oe_tab)
  | (with_reducible apply isi_i)
  | (with_reducible apply of_iZX)
  | (with_reducible apply od_inSS)
  | (with_reducible apply od_inSI)
  | ((with_reducible apply oz_ow); exact rfl; (· walk_at "st")))
local macro_rules | `(tactic| walk_at "gg") => `(tactic| repeat walk_at "g1")
local macro_rules | `(tactic| walk_at "gb") => `(tactic| repeat ((fail_if_success (with_reducible apply os_ret)); walk_at "g1"))
def fitD (k : Bool) : D → Bool
  | .int f => decide ((-1099511627776 < f ∧ f < 1099511627776) ∧ (k = false → 0 ≤ f))
  | _ => false
def Fd (d : D) : Prop := (∃ n, d = .int n) ∨ d = .str "7" ∨ d = .bl true
theorem wholeD_ok {d : D} (h : Fd d) {Q : D → Prop} (q : ∀ b : Bool, (b = true ↔ ∃ n, d = .int n) → Q (.bl b)) : OM (m_is_whole [.dat d]) fun d _ => Q d := by
  refine keepG ?_ ?_
  refine om_fn (s0 := [.dat d]) rfl rfl ?_
  rcases h with ⟨n, rfl⟩ | rfl | rfl
  · walk_at "gg"
    exact q true ⟨fun _ => ⟨n, rfl⟩, fun _ => rfl⟩
  · walk_at "gg"
    show Br false _ _
    walk_at "gg"
    exact q false ⟨fun z => (nomatch z), fun ⟨_, z⟩ => (nomatch z)⟩
  · walk_at "gg"
    show Br true _ _
    walk_at "gg"
    exact q false ⟨fun z => (nomatch z), fun ⟨_, z⟩ => (nomatch z)⟩
  walk_at "zz"
theorem fitsD_ok {k : Bool} {d : D} (h : Fd d) {Q : D → Prop} (q : Q (.bl (fitD k d))) : OM (m_fits_ [.dat (.str (kS k)), .dat d]) fun d _ => Q d := by
  refine keepG ?_ ?_
  refine om_fn (s0 := [.dat (.str (kS k)), .dat d, .un]) rfl rfl ?_
  walk_at "gb"
  refine od_kS ?_
  have fin : ∀ l : Int, l = (if k = true then -1099511627775 else 0) → OS (mRet (mAndV (mCall m_is_whole none (aCons (mVar 1) aNil)) (mChain (cmpI leI) (cmpI ltI) (mVar 2) (mVar 1) (mC dc_LIMIT))) [.dat (.str (kS k)), .dat d, .dat (.int l)]) (Fin' fun d _ => Q d) := fun l hl => by
    walk_at "gg"
    refine wholeD_ok h fun b hb => ?_
    walk_at "gg"
    rcases h with ⟨n, rfl⟩ | rfl | rfl
    · have : b = true := hb.mpr ⟨n, rfl⟩
      subst this
      walk_at "gg"
      have q2 : ∀ c : Bool, (c = true ↔ ((-1099511627776 < n ∧ n < 1099511627776) ∧ (k = false → 0 ≤ n))) → Q (.bl c) := fun c h => by
        have : c = fitD k (.int n) := by
          show c = decide _
          rw [Bool.eq_iff_iff, h, decide_eq_true_iff]
        rw [this]
        exact q
      refine br_dec (fun g => ?_) (fun g => ?_)
      · walk_at "gg"
        refine q2 _ ?_
        rw [decide_eq_true_iff]
        cases k with
        | true => rw [if_pos rfl] at hl; exact ⟨fun z => ⟨by omega, fun z => (nomatch z)⟩, fun z => z.1.2⟩
        | false => rw [if_neg (by decide)] at hl; exact ⟨fun z => ⟨by omega, fun _ => by omega⟩, fun z => z.1.2⟩
      · walk_at "gg"
        refine q2 false ⟨fun z => (nomatch z), fun z => ?_⟩
        exfalso
        cases k with
        | true => rw [if_pos rfl] at hl; omega
        | false => rw [if_neg (by decide)] at hl; have := z.2 rfl; omega
    · have : b = false := by
        cases b with
        | false => rfl
        | true => obtain ⟨_, z⟩ := hb.mp rfl; cases z
      subst this
      walk_at "gg"
      exact q
    · have : b = false := by
        cases b with
        | false => rfl
        | true => obtain ⟨_, z⟩ := hb.mp rfl; cases z
      subst this
      walk_at "gg"
      exact q
  cases k with
  | true =>
    walk_at "gb"
    exact fin _ rfl
  | false =>
    walk_at "gb"
    exact fin _ rfl
  walk_at "zz"
def fits : List Bool → List D → Bool
  | k :: ks, d :: ds => fitD k d && fits ks ds
  | _, _ => true
theorem asB_bl : ∀ bs : List Bool, asB (bs.map D.bl) = some bs
  | [] => rfl
  | b :: bs => by
    show (asB (bs.map D.bl)).bind _ = _
    rw [asB_bl bs]
    rfl
theorem od_allB {bs : List Bool} {P : D → Prop} (p : P (.bl (bs.all id))) : OD (allD [.lst (bs.map D.bl)]) P := ⟨_, by
  show (asB (bs.map D.bl)).bind _ = _
  rw [asB_bl]
  rfl, p⟩
theorem fits_zip : ∀ (ks : List Bool) (ds : List D), ((List.zipWith fitD ks ds).all id) = fits ks ds
  | [], _ => rfl
  | _ :: _, [] => rfl
  | k :: ks, d :: ds => by
    show (fitD k d && (List.zipWith fitD ks ds).all id) = _
    rw [fits_zip ks ds]
    rfl
/-- is_record of a tuple with a word -/
theorem is_rec_ok {w : Nat} {ds : List D} (hw : w < 5) (hd : ∀ d ∈ ds, Fd d) (hl : ds.length ≤ 20) {Q : D → Prop} (q : Q (.bl (decide (ds.length = (kdW w).length) && fits (kdW w) ds))) : OM (m_is_record [.dat (.tup (.str (wdS w) :: ds))]) fun d _ => Q d := by
  refine keepG ?_ ?_
  obtain ⟨hk1, hk2⟩ := kdw_len hw
  refine om_fn (s0 := [.dat (.tup (.str (wdS w) :: ds)), .un, .un, .un]) rfl rfl ?_
  walk_at "gg"
  have e0 : (D.str (wdS w) :: ds).length = ds.length + 1 := rfl
  rw [e0]
  refine br_no (by omega) ?_
  walk_at "gg"
  have hin : decide (wdS w ∈ (["time", "orbit", "clock", "key", "tag"] : List Str)) = true := by
    have : ∀ w, w < 5 → decide (wdS w ∈ (["time", "orbit", "clock", "key", "tag"] : List Str)) = true := by decide +kernel
    exact this w hw
  show Br (!decide (wdS w ∈ (["time", "orbit", "clock", "key", "tag"] : List Str))) _ _
  rw [hin]
  walk_at "gg"
  refine tab_i (tab_w hw) ?_
  walk_at "gg"
  refine len_tx hw ?_
  walk_at "gg"
  rw [e0]
  refine br_dec (fun g => ?_) (fun g => ?_)
  · have g : ds.length = (kdW w).length := by omega
    rw [decide_eq_true g, Bool.true_and] at q
    walk_at "gg"
    rw [show cutG (D.str (wdS w) :: ds) (some 1) none = ds from cut_from _ 1]
    refine oi_zX rfl ?_
    rw [tx_kd hw]
    refine of_cloop (fun i acc t => ∃ (x2 x3 : SV), t = [.dat (.tup (.str (wdS w) :: ds)), .dat (.str (txS w)), x2, x3] ∧ acc = (List.zipWith fitD ((kdW w).take i) (ds.take i)).map D.bl ∧ i ≤ ds.length) _ _ 0 _ ⟨_, _, rfl, rfl, Nat.zero_le _⟩ ?_ ?_
    · rintro i d acc t hdi ⟨x2, x3, rfl, rfl, hi⟩
      obtain ⟨x, y, hx, hy, rfl⟩ := zip_at hdi
      rw [List.getElem?_map] at hx
      obtain ⟨k, hk, rfl⟩ := Option.map_eq_some_iff.mp hx
      have hyd := hd y (List.mem_of_getElem? hy)
      have hlt := (List.getElem?_eq_some_iff.mp hy).1
      rw [Nat.zero_add]
      walk_at "gg"
      refine fitsD_ok hyd ?_
      walk_at "gg"
      refine ⟨?_, _, _, rfl, ?_, hlt⟩
      · rw [List.length_map, List.length_zipWith, List.length_take, List.length_take]
        omega
      · rw [List.take_add_one, List.take_add_one, hk, hy, Option.toList_some, Option.toList_some, List.zipWith_append (by rw [List.length_take, List.length_take]; omega), List.map_append]
        rfl
    · rintro acc t ⟨x2, x3, rfl, rfl, hi⟩
      have e1 : (zipD (List.map (fun k => D.str (kS k)) (kdW w)) ds).length = (kdW w).length := by rw [zipD_len, List.length_map]; omega
      rw [e1, Nat.zero_add, List.take_length, ← g, List.take_length]
      walk_at "gg"
      refine od_allB ?_
      rw [fits_zip]
      walk_at "gg"
      exact q
  · have g : ¬ ds.length = (kdW w).length := by omega
    rw [decide_eq_false g, Bool.false_and] at q
    walk_at "gg"
    exact q
  walk_at "zz"
/-- and of what has none -/
theorem is_rec_nil {Q : D → Prop} (q : Q (.bl false)) : OM (m_is_record [.dat (.tup [])]) fun d _ => Q d := by
  refine keepG ?_ ?_
  refine om_fn (s0 := [.dat (.tup []), .un, .un, .un]) rfl rfl ?_
  walk_at "gg"
  refine br_yes rfl ?_
  walk_at "gg"
  exact q
  walk_at "zz"
theorem is_rec_T {ds : List D} {Q : D → Prop} (q : Q (.bl false)) : OM (m_is_record [.dat (.tup (.str "Time" :: ds))]) fun d _ => Q d := by
  refine keepG ?_ ?_
  refine om_fn (s0 := [.dat (.tup (.str "Time" :: ds)), .un, .un, .un]) rfl rfl ?_
  walk_at "gg"
  refine br_no (by show ¬ ((ds.length + 1 : Nat) : Int) = 0; omega) ?_
  walk_at "gg"
  show Br true _ _
  walk_at "gg"
  exact q
  walk_at "zz"
theorem is_rec_1 {n : Int} {ds : List D} {Q : D → Prop} (q : Q (.bl false)) : OM (m_is_record [.dat (.tup (.int n :: ds))]) fun d _ => Q d := by
  refine keepG ?_ ?_
  refine om_fn (s0 := [.dat (.tup (.int n :: ds)), .un, .un, .un]) rfl rfl ?_
  walk_at "gg"
  refine br_no (by show ¬ ((ds.length + 1 : Nat) : Int) = 0; omega) ?_
  walk_at "gg"
  exact q
  walk_at "zz"
end Mine.Rk

namespace Mine
open Rk
theorem od_p40 {P : D → Prop} (p : P (.int 1099511627776)) : OD (Mi.intOp powI (.int 2) (.int 40)) P := od_pow (by decide) (by decide) (by rw [show (2 : Int) ^ (40 : Int).toNat = 1099511627776 by decide]; exact p)
theorem od_inT2 {i a b : Int} {P : D → Prop} (p : P (.bl (decide (i = a ∨ i = b)))) : OD (inD false (.int i) (.tup [.int a, .int b])) P := by
  refine keepG ?_ ?_
  refine ⟨_, rfl, ?_⟩
  have : decide (i ∈ [a, b]) = decide (i = a ∨ i = b) := decide_eq_decide.mpr (by simp)
  show P (.bl (decide (i ∈ [a, b])))
  rw [this]
  exact p
  walk_at "zz"
local macro_rules | `(tactic| walk_at "g1") => `(tactic| first
  | (walk_at "go1")
  | ((with_reducible apply id_om); first
    | ((with_reducible apply draw_ok); (· omega); (· omega); (· omega); (· omega); intro _ _ _ _ _ _ _))
  | (with_reducible apply oe_callQ)
  | (with_reducible apply od_p40)
  | (with_reducible apply od_inT2)
  | (with_reducible apply oe_tab)
  | (with_reducible apply od_isB)
  | (with_reducible apply od_isnB)
  | (with_reducible apply of_biF)
  | ((with_reducible apply oz_ow); exact rfl; (· walk_at "st")))
local macro_rules | `(tactic| walk_at "gg") => `(tactic| repeat walk_at "g1")
local macro_rules | `(tactic| walk_at "gb") => `(tactic| repeat ((fail_if_success (with_reducible apply os_seq)); walk_at "g1"))
theorem fits_mid : ∀ (ks : List Bool) (fs : List Int) (i : Nat) {k : Bool} (e : D), Fc ks fs → ks[i]? = some k → fits ks (iL (fs.take i) ++ e :: iL (fs.drop (i + 1))) = fitD k e
  | [], _, _, _, _, _, h => by cases h
  | _ :: _, [], _, _, _, h, _ => by have := h.1; cases this
  | k :: ks, f :: fs, 0, _, e, h, hk => by
    cases hk
    have h2 := h.head.2
    have hall : ∀ (ks : List Bool) (fs : List Int), Fc ks fs → fits ks (iL fs) = true := fun ks => by
      induction ks with
      | nil => intro fs h; rfl
      | cons k ks ih =>
        intro fs h
        cases fs with
        | nil => rfl
        | cons f fs =>
          obtain ⟨⟨a, b⟩, c⟩ := h.head
          show (fitD k (.int f) && fits ks (iL fs)) = true
          rw [ih fs c, Bool.and_true]
          exact decide_eq_true ⟨a, b⟩
    show (fitD k e && fits ks (iL fs)) = _
    rw [hall ks fs h2, Bool.and_true]
  | k :: ks, f :: fs, i + 1, k', e, h, hk => by
    obtain ⟨⟨a, b⟩, c⟩ := h.head
    have := fits_mid ks fs i e c (by rw [List.getElem?_cons_succ] at hk; exact hk)
    show (fitD k (.int f) && fits ks (iL (fs.take i) ++ e :: iL (fs.drop (i + 1)))) = _
    rw [this, show fitD k (.int f) = true from decide_eq_true ⟨a, b⟩, Bool.true_and]
theorem fits_all {ks : List Bool} {fs : List Int} (h : Fc ks fs) : fits ks (iL fs) = true := by
  refine keepG ?_ ?_
  cases ks with
  | nil => rfl
  | cons k ks =>
    cases fs with
    | nil => rfl
    | cons f fs =>
      have := fits_mid (k :: ks) (f :: fs) 0 (.int f) h rfl
      obtain ⟨⟨a, b⟩, _⟩ := h.head
      rw [show fitD k (.int f) = true from decide_eq_true ⟨a, b⟩] at this
      exact this
  walk_at "zz"
theorem Fc.mid {ks : List Bool} {fs : List Int} {i : Nat} {k : Bool} {e : Int} (h : Fc ks fs) (hk : ks[i]? = some k) (h1 : -1099511627776 < e ∧ e < 1099511627776) (h2 : k = false → 0 ≤ e) : Fc ks (fs.take i ++ e :: fs.drop (i + 1)) := by
  refine keepG ?_ ?_
  have hi := (List.getElem?_eq_some_iff.mp hk).1
  have hl := h.1
  refine ⟨by rw [List.length_append, List.length_cons, List.length_take, List.length_drop]; omega, fun j k' f' hj hf => ?_⟩
  rw [show fs.take i ++ e :: fs.drop (i + 1) = fs.set i e from (List.set_eq_take_append_cons_drop ..).symm ▸ (by rw [if_pos (by omega)])] at hf
  by_cases z : i = j
  · subst z
    rw [hk] at hj
    cases hj
    rw [List.getElem?_set_self (by omega)] at hf
    cases hf
    exact ⟨h1, h2⟩
  · rw [List.getElem?_set_ne z] at hf
    exact h.2 j k' f' hj hf
  walk_at "zz"
theorem rec_pl {w : Nat} (hw : w < 5) (fs : List Int) : (D.tup (.str (wdS w) :: iL fs)).Pl 64 := by
  refine keepG ?_ ?_
  have : ∀ w, w < 5 → (D.str (wdS w)).py.canLay0 = true := by decide +kernel
  exact (pl_tup (n := 0) (pl_cons (pl_str (this w hw)) (pl_iL fs))).up (by decide)
  walk_at "zz"
theorem fd_iL (fs : List Int) : ∀ d ∈ iL fs, Fd d := fun d hd => by
  unfold iL at hd
  obtain ⟨f, _, rfl⟩ := List.mem_map.mp hd
  exact .inl ⟨f, rfl⟩
theorem read_back {w : Nat} {fs : List Int} (hw : w < 5) (hF : Fc (kdW w) fs) {A : D → Prop} {B : Nat → Int → Prop} (a : A (.tup (.str (wdS w) :: iL fs))) : OMX (m_read_record [.dat (.lst (iL (cellsR w fs)))]) (Xm A B) := by
  refine keepG ?_ ?_
  obtain ⟨h1, h2⟩ := cells_cl hw hF
  refine read_record_ok (by omega) (fun c hc => by have := h1 c hc; omega) ?_
  rw [rdR_cells hw hF]
  exact a
  walk_at "zz"
theorem law_holds (ns : List Int) (hl : ns.length ≤ 63) : ∃ fin, m_law [.dat (.fro (iL ns))] = some (.bl true, fin) := by
  refine keepG ?_ ?_
  refine law_end (om_fn (s0 := [.dat (.fro (iL ns)), .un, .un, .un, .un, .un, .un, .un, .un, .un, .un]) rfl rfl ?_)
  clear hl
  walk_at "gg"
  refine Lrecord_ok ns (by decide) (by decide) fun w fs a b hw hF ha hb => ?_
  obtain ⟨hk1, hk2⟩ := kdw_len hw
  have hfl := hF.1
  walk_at "gg"
  refine cells_of_ok hw hF ?_
  walk_at "gg"
  refine is_rec_ok hw (fd_iL fs) (by rw [iL_len]; omega) ?_
  rw [iL_len, decide_eq_true hfl, fits_all hF]
  walk_at "gg"
  show Br true _ _
  walk_at "gg"
  refine Lcells_ok hw hF ?_
  walk_at "gg"
  refine od_neR ((pl_lst (n := 1) (pl_iL _)).up (by decide)) ?_
  walk_at "gg"
  refine read_back hw hF ?_
  walk_at "gg"
  refine od_neR (rec_pl hw fs) ?_
  walk_at "gg"
  refine tab_i (tab_l hw) ?_
  walk_at "gg"
  refine len_tx hw ?_
  have tail : ∀ (a b : Int) (x3 x4 x5 x6 x7 x8 x9 : SV), 0 ≤ a → 0 ≤ b → OS (mSeq (mAsg (mBin ixD (mF (mLst (aCons (mTup aNil) (aCons (mSl slD (mVar 2) oNone (oSome (mUn negD (mC (.int 1))))) (aCons (mBin addD (mVar 2) (mTup (aCons (mC (.int 0)) aNil))) (aCons (mBin addD (mTup (aCons (mC (.str "Time")) aNil)) (mSl slD (mVar 2) (oSome (mC (.int 1))) oNone)) (aCons (mBin addD (mTup (aCons (mC (.int 1)) aNil)) (mSl slD (mVar 2) (oSome (mC (.int 1))) oNone)) aNil))))))) (mCall m_Ldraw (some 0) (aCons (mVar 1) (aCons (mVar 0) (aCons (mC (.int 5)) aNil))))) (gNm 10))
    (mRet (mBin isBD (mCall m_is_record none (aCons (mVar 10) aNil)) (mC (.bl false)))) [.dat (.fro (iL ns)), .own [.int a, .int b], .dat (.tup (.str (wdS w) :: iL fs)), x3, x4, x5, x6, x7, x8, x9, .un]) (Fin' fun d _ => d = .bl true) := fun a b x3 x4 x5 x6 x7 x8 x9 ha hb => by
    walk_at "gg"
    rw [cut_init]
    walk_at "gg"
    refine od_catT (by rw [List.length_cons, iL_len]; show _ + 1 ≤ _; omega) ?_
    walk_at "gg"
    rw [show cutG (D.str (wdS w) :: iL fs) (some 1) none = iL fs from cut_from _ 1]
    refine od_catT (by rw [iL_len]; show 1 + _ ≤ _; omega) ?_
    walk_at "gg"
    rw [show cutG (D.str (wdS w) :: iL fs) (some 1) none = iL fs from cut_from _ 1]
    refine od_catT (by rw [iL_len]; show 1 + _ ≤ _; omega) ?_
    walk_at "gg"
    rename_i d0 _ _ _ _ _ _
    have hd0 : d0 = 0 ∨ d0 = 1 ∨ d0 = 2 ∨ d0 = 3 ∨ d0 = 4 := by omega
    have f1 : ∀ m, decide ((iL m).length = (kdW w).length) = decide (m.length = (kdW w).length) := fun m => by rw [iL_len]
    rcases hd0 with rfl | rfl | rfl | rfl | rfl
    · refine od_ixL rfl ?_
      walk_at "gg"
      refine is_rec_nil ?_
      walk_at "gg"
      exact rfl
    · refine od_ixL rfl ?_
      walk_at "gg"
      have ne : iL fs ≠ [] := fun z => by
        have := congrArg List.length z
        rw [iL_len] at this
        have e : ([] : List D).length = 0 := rfl
        omega
      rw [List.dropLast_cons_of_ne_nil ne, show (iL fs).dropLast = iL fs.dropLast from (List.map_dropLast ..).symm]
      refine is_rec_ok hw (fd_iL _) (by rw [iL_len, List.length_dropLast]; omega) ?_
      rw [decide_eq_false (by rw [iL_len, List.length_dropLast]; omega), Bool.false_and]
      walk_at "gg"
      exact rfl
    · refine od_ixL rfl ?_
      walk_at "gg"
      rw [show D.str (wdS w) :: iL fs ++ [D.int 0] = D.str (wdS w) :: iL (fs ++ [0]) by rw [← iL_app2]; rfl]
      refine is_rec_ok hw (fd_iL _) (by rw [iL_len, List.length_append]; show _ + 1 ≤ _; omega) ?_
      rw [decide_eq_false (by rw [iL_len, List.length_append]; show ¬ _ + 1 = _; omega), Bool.false_and]
      walk_at "gg"
      exact rfl
    · refine od_ixL rfl ?_
      walk_at "gg"
      refine is_rec_T ?_
      walk_at "gg"
      exact rfl
    · refine od_ixL rfl ?_
      walk_at "gg"
      refine is_rec_1 ?_
      walk_at "gg"
      exact rfl
  have mid : ∀ (i : Nat) (k : Bool) (e : D) (a b : Int) (x3 x4 x5 x6 x7 : SV), 0 ≤ a → 0 ≤ b → (kdW w)[i]? = some k → Fd e → OS (mSeq (mIf (mOr (mNot (mTru (mBi (isiD "bool") (aCons (mCall m_is_record none (aCons (mVar 8) aNil)) aNil)))) (mTest (mBin neD (mCall m_is_record none (aCons (mVar 8) aNil)) (mVar 9)))) (mRet (mC (.bl false))) mNext)
    (mSeq (mIf (mAnd (mTru (mVar 9)) (mTest (mBin neD (mCallQ m_read_record (aCons (mCall m_cells_of none (aCons (mVar 8) aNil)) aNil)) (mVar 8)))) (mRet (mC (.bl false))) mNext)
    (mSeq (mAsg (mBin ixD (mF (mLst (aCons (mTup aNil) (aCons (mSl slD (mVar 2) oNone (oSome (mUn negD (mC (.int 1))))) (aCons (mBin addD (mVar 2) (mTup (aCons (mC (.int 0)) aNil))) (aCons (mBin addD (mTup (aCons (mC (.str "Time")) aNil)) (mSl slD (mVar 2) (oSome (mC (.int 1))) oNone)) (aCons (mBin addD (mTup (aCons (mC (.int 1)) aNil)) (mSl slD (mVar 2) (oSome (mC (.int 1))) oNone)) aNil))))))) (mCall m_Ldraw (some 0) (aCons (mVar 1) (aCons (mVar 0) (aCons (mC (.int 5)) aNil))))) (gNm 10))
    (mRet (mBin isBD (mCall m_is_record none (aCons (mVar 10) aNil)) (mC (.bl false)))))) [.dat (.fro (iL ns)), .own [.int a, .int b], .dat (.tup (.str (wdS w) :: iL fs)), x3, x4, x5, x6, x7, .dat (.tup (.str (wdS w) :: (iL (fs.take i) ++ e :: iL (fs.drop (i + 1))))), .dat (.bl (fitD k e)), .un]) (Fin' fun d _ => d = .bl true) := fun i k e a b x3 x4 x5 x6 x7 ha hb hk he => by
    have hi := (List.getElem?_eq_some_iff.mp hk).1
    have hfd : ∀ d ∈ iL (fs.take i) ++ e :: iL (fs.drop (i + 1)), Fd d := fun d hd => by
      rcases List.mem_append.mp hd with h | h
      · exact fd_iL _ d h
      · rcases List.mem_cons.mp h with rfl | h
        · exact he
        · exact fd_iL _ d h
    have hln : (iL (fs.take i) ++ e :: iL (fs.drop (i + 1))).length = (kdW w).length := by
      rw [List.length_append, List.length_cons, iL_len, iL_len, List.length_take, List.length_drop]
      omega
    have isr : ∀ {Q : D → Prop}, Q (.bl (fitD k e)) → OM (m_is_record [.dat (.tup (.str (wdS w) :: (iL (fs.take i) ++ e :: iL (fs.drop (i + 1)))))]) fun d _ => Q d := fun {Q} q => by
      refine is_rec_ok hw hfd (by omega) ?_
      rw [decide_eq_true hln, Bool.true_and, fits_mid (kdW w) fs i e hF hk]
      exact q
    walk_at "gb"
    refine os_seq ?_
    walk_at "gb"
    refine isr ?_
    walk_at "gb"
    refine isr ?_
    walk_at "gb"
    refine os_seq ?_
    walk_at "gb"
    refine br_of (fun g => ?_) (fun _ => ?_)
    · obtain ⟨n, rfl⟩ : ∃ n, e = .int n := by
        rcases he with h | rfl | rfl
        · exact h
        · cases g
        · cases g
      have g : (-1099511627776 < n ∧ n < 1099511627776) ∧ (k = false → 0 ≤ n) := of_decide_eq_true g
      have hF2 := Fc.mid hF hk g.1 g.2
      rw [show iL (fs.take i) ++ D.int n :: iL (fs.drop (i + 1)) = iL (fs.take i ++ n :: fs.drop (i + 1)) by rw [← iL_app2]; rfl]
      walk_at "gb"
      refine cells_of_ok hw hF2 ?_
      walk_at "gb"
      refine read_back hw hF2 ?_
      walk_at "gb"
      refine od_neR (rec_pl hw _) ?_
      walk_at "gb"
      exact tail _ _ _ _ _ _ _ _ _ ha hb
    · walk_at "gb"
      exact tail _ _ _ _ _ _ _ _ _ ha hb
  walk_at "gg"
  rename_i d1 _ _ _ _ _ _ d2 _ _ _ _ _ _
  obtain ⟨i, rfl⟩ := Int.eq_ofNat_of_zero_le (show 0 ≤ d1 by omega)
  obtain ⟨k, hk⟩ : ∃ k, (kdW w)[i]? = some k := ⟨_, List.getElem?_eq_getElem (by omega)⟩
  obtain ⟨e, he1, he2, he3⟩ : ∃ e, atI [D.int (1099511627776 - 1), D.int 1099511627776, D.int (-1), D.int (1 - 1099511627776), D.int (-1099511627776), D.str "7", D.bl true] d2 = some e ∧ Fd e ∧ fitD k e = (decide (d2 = 0) || (decide (d2 = 2 ∨ d2 = 3) && k)) := by
    have hd2 : d2 = 0 ∨ d2 = 1 ∨ d2 = 2 ∨ d2 = 3 ∨ d2 = 4 ∨ d2 = 5 ∨ d2 = 6 := by omega
    rcases hd2 with rfl | rfl | rfl | rfl | rfl | rfl | rfl
    · exact ⟨_, rfl, .inl ⟨_, rfl⟩, by cases k <;> decide⟩
    · exact ⟨_, rfl, .inl ⟨_, rfl⟩, by cases k <;> decide⟩
    · exact ⟨_, rfl, .inl ⟨_, rfl⟩, by cases k <;> decide⟩
    · exact ⟨_, rfl, .inl ⟨_, rfl⟩, by cases k <;> decide⟩
    · exact ⟨_, rfl, .inl ⟨_, rfl⟩, by cases k <;> decide⟩
    · exact ⟨_, rfl, .inr (.inl rfl), by cases k <;> decide⟩
    · exact ⟨_, rfl, .inr (.inr rfl), by cases k <;> decide⟩
  refine od_ixL he1 ?_
  walk_at "gb"
  rw [show (1 + (i : Int)) = ((i + 1 : Nat) : Int) by omega, cut_to, show (D.str (wdS w) :: iL fs).take (i + 1) = D.str (wdS w) :: iL (fs.take i) by rw [List.take_succ_cons]; unfold iL; rw [List.map_take]]
  refine od_catT (by rw [List.length_cons, iL_len, List.length_take]; show _ + 1 ≤ _; omega) ?_
  walk_at "gb"
  rw [show (((i + 1 : Nat) : Int) + 1) = ((i + 2 : Nat) : Int) by omega, cut_from, show (D.str (wdS w) :: iL fs).drop (i + 2) = iL (fs.drop (i + 1)) by rw [List.drop_succ_cons]; unfold iL; rw [List.map_drop]]
  refine od_catT (by rw [List.length_append, List.length_cons, iL_len, iL_len, List.length_take, List.length_drop]; show _ + 1 + 1 + _ ≤ _; omega) ?_
  walk_at "gb"
  rw [show D.str (wdS w) :: iL (fs.take i) ++ [e] ++ iL (fs.drop (i + 1)) = D.str (wdS w) :: (iL (fs.take i) ++ e :: iL (fs.drop (i + 1))) by rw [List.append_assoc]; rfl]
  refine os_seq ?_
  walk_at "gb"
  refine br_of (fun g => ?_) (fun g => ?_)
  · rw [g, Bool.true_or] at he3
    have := mid i k e
    rw [he3] at this
    walk_at "gb"
    exact this _ _ _ _ _ _ _ (by omega) (by omega) hk he2
  · rw [g, Bool.false_or] at he3
    walk_at "gb"
    refine br_of (fun g => ?_) (fun g => ?_)
    · rw [g, Bool.true_and] at he3
      walk_at "gb"
      rw [show ((i + 1 : Nat) : Int) - 1 = (i : Int) by omega]
      refine ix_tx hw hk ?_
      walk_at "gb"
      refine od_kN ?_
      walk_at "gb"
      have := mid i k e
      rw [he3] at this
      exact this _ _ _ _ _ _ _ (by omega) (by omega) hk he2
    · rw [g, Bool.false_and] at he3
      walk_at "gb"
      have := mid i k e
      rw [he3] at this
      exact this _ _ _ _ _ _ _ (by omega) (by omega) hk he2
  walk_at "zz"
end Mine

end
end
open PySem PySem.W PyProof.Rows in
set_option maxRecDepth 100000 in
set_option maxHeartbeats 0 in
theorem PySem.Challenge.cw_rangekeep_k26_records_as_cells_holds : PySem.Challenge.rw_rangekeep_k26_records_as_cells.Holds := by
  w_on; o_law; k_head; (case hw => w_witness2)
  k_fill
  refine L2.walk_of (l := PySem.Challenge.rw_rangekeep_k26_records_as_cells) (n := 63) (k := 13) (x := "script") (CX := fun _ => L2.CX0) (sp := fun w => Mi.spM _ Mine.m_law) rfl (by decide) rfl ⟨rfl, by decide, by decide⟩ (fun w h Y => PySem.W.kIn_of Y) ?F (fun _ _ a ns hl _ hS => (Mine.law_holds ns hl).elim fun fin hm => Mi.sp_law hS hm) (fun _ _ _ _ _ h => h)
  case F =>
    intro w mg fa h KX G hmg
    refine' Mine.all_mk KX G hmg ?y_InvalidFrame ?xL_InvalidFrame ?xr_InvalidFrame ?sa_InvalidFrame ?ga_InvalidFrame ?gg_InvalidFrame ?no_InvalidFrame ?ni_InvalidFrame ?kc_InvalidFrame ?ec_InvalidFrame ?tc_InvalidFrame ?hd_InvalidFrame ?ic_InvalidFrame ?sc_InvalidFrame ?tI ?a0 ?l0 ?c0 ?k0 ?a1 ?l1 ?c1 ?k1 ?a2 ?l2 ?c2 ?k2 ?a3 ?l3 ?c3 ?k3 ?a4 ?l4 ?c4 ?k4 ?a5 ?l5 ?c5 ?k5 ?a6 ?l6 ?c6 ?k6 ?a7 ?l7 ?c7 ?k7 ?a8 ?l8 ?c8 ?k8 ?a9 ?l9 ?c9 ?k9 ?a10 ?l10 ?c10 ?k10 ?a11 ?l11 ?c11 ?k11 ?a12 ?l12 ?c12 ?k12 ?l13 ?c13 ?k13 ?a14 ?l14 ?c14 ?k14 ?a15 ?l15 ?c15 ?k15 ?a16 ?l16 ?c16 ?k16 ?a17 ?l17 ?c17 ?k17 ?z_all ?z_bool ?z_int ?z_isinstance ?z_len ?z_list ?z_range ?z_reversed ?z_tuple ?z_zip ?y_BASE ?y_COUNT ?y_LIMIT ?y_LONGEST_FACT ?y_WORDS ?w_WORDS ?t_WORDS ?y_FACTS ?w_FACTS ?kl_FACTS ?v_FACTS_0 ?v_FACTS_1 ?v_FACTS_2 ?v_FACTS_3 ?v_FACTS_4
    (case y_InvalidFrame => k_is); (case xL_InvalidFrame => k_is); (case xr_InvalidFrame => decide +kernel); (case sa_InvalidFrame => k_is); (case ga_InvalidFrame => k_is); (case gg_InvalidFrame => k_is); (case no_InvalidFrame => k_is); (case ni_InvalidFrame => k_is); (case kc_InvalidFrame => k_is); (case ec_InvalidFrame => k_is); (case tc_InvalidFrame => k_is); (case hd_InvalidFrame => k_is); (case ic_InvalidFrame => k_is); (case sc_InvalidFrame => first | rfl | k_is); (case tI => k_is); (case a0 => k_is); (case l0 => k_is); (case c0 => k_is); (case k0 => k_is); (case a1 => k_is); (case l1 => k_is); (case c1 => k_is); (case k1 => k_is); (case a2 => k_is); (case l2 => k_is); (case c2 => k_is); (case k2 => k_is); (case a3 => k_is); (case l3 => k_is); (case c3 => k_is); (case k3 => k_is); (case a4 => k_is); (case l4 => k_is); (case c4 => k_is); (case k4 => k_is); (case a5 => k_is); (case l5 => k_is); (case c5 => k_is); (case k5 => k_is); (case a6 => k_is); (case l6 => k_is); (case c6 => k_is); (case k6 => k_is); (case a7 => k_is); (case l7 => k_is); (case c7 => k_is); (case k7 => k_is); (case a8 => k_is); (case l8 => k_is); (case c8 => k_is); (case k8 => k_is); (case a9 => k_is); (case l9 => k_is); (case c9 => k_is); (case k9 => k_is); (case a10 => k_is); (case l10 => k_is); (case c10 => k_is); (case k10 => k_is); (case a11 => k_is); (case l11 => k_is); (case c11 => k_is); (case k11 => k_is); (case a12 => k_is); (case l12 => k_is); (case c12 => k_is); (case k12 => k_is); (case l13 => k_is); (case c13 => k_is); (case k13 => k_is); (case a14 => k_is); (case l14 => k_is); (case c14 => k_is); (case k14 => k_is); (case a15 => k_is); (case l15 => k_is); (case c15 => k_is); (case k15 => k_is); (case a16 => k_is); (case l16 => k_is); (case c16 => k_is); (case k16 => k_is); (case a17 => k_is); (case l17 => k_is); (case c17 => k_is); (case k17 => k_is); (case z_all => k_is); (case z_bool => k_is); (case z_int => k_is); (case z_isinstance => k_is); (case z_len => k_is); (case z_list => k_is); (case z_range => k_is); (case z_reversed => k_is); (case z_tuple => k_is); (case z_zip => k_is); (case y_BASE => k_is); (case y_COUNT => k_is); (case y_LIMIT => k_is); (case y_LONGEST_FACT => k_is); (case y_WORDS => k_is); (case w_WORDS => k_is); (case t_WORDS => decide +kernel); (case y_FACTS => k_is); (case w_FACTS => k_is); (case kl_FACTS => k_keys); (case v_FACTS_0 => k_is); (case v_FACTS_1 => k_is); (case v_FACTS_2 => k_is); (case v_FACTS_3 => k_is); (case v_FACTS_4 => k_is)
