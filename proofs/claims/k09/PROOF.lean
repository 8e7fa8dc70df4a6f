import PyProof.Rows.All
import Wide.All
import OpenK.AllK
import Wide.FinOn
import HandS.ForMost
import HandS.Exc
import HandS.ExcOwn
import HandS.WordsExc
import HandS.TryOnly
import HandS.IsInst
import HandS.Zip
import HandS.Rev
import HandS.Star
import HandS.TupAny
import HandS.Flow
import HandS.Style
import HandS.CallSlots
import HandS.Evl
import KE.GoesNew
import KE.GoesMore
import HandS.Wide
import HandS.TupMul
import HandS.Ends
import PySem.Challenge.RW_fardials_k09_places_and_terms
set_option Elab.async false
set_option linter.all false
set_option maxRecDepth 100000
set_option maxHeartbeats 2000000
namespace Dn
open PySem PySem.Spec PyProof.Rows L2 Evl

/-! ## data, and how a value of the heap bears it -/
inductive Ty5 where
  | bool | int | str | tuple | list | non
def Ty5.name : Ty5 → String
  | .bool => "bool"
  | .int => "int"
  | .str => "str"
  | .tuple => "tuple"
  | .list => "list"
  | .non => "NoneType"
def Ty5.same : Ty5 → Ty5 → Bool
  | .bool, .bool => true
  | .int, .int => true
  | .str, .str => true
  | .tuple, .tuple => true
  | .list, .list => true
  | .non, .non => true
  | _, _ => false
inductive D where
  | non | bl (b : Bool) | int (i : Int) | str (z : Str)
  | tup (ds : List D) | lst (ds : List D) | fz (ds : List D) | ty (n : Ty5) | cls (c : Nat) | obj (c : Nat) (ns : List Str) (ds : List D)
instance : Inhabited D := ⟨.non⟩

structure Kx where
  K : PySem.W.Frag
  cl : Nat → Addr

mutual
def Rep (G : Kx) (H : Hp) : D → V → Prop
  | .non, v => v = .non
  | .bl b, v => v = .bl b
  | .int i, v => v = .int i
  | .str z, v => v = .str z
  | .tup ds, v => ∃ a vs, v = .ref a ∧ SqT G.K H a vs ∧ Reps G H ds vs
  | .lst ds, v => ∃ a vs, v = .ref a ∧ H a = some (.lst vs) ∧ Reps G H ds vs
  | .fz ds, v => ∃ a vs, v = .ref a ∧ SqL G.K H a vs ∧ Reps G H ds vs
  | .ty n, v => v = .ty n.name
  | .cls c, v => v = .ref (G.cl c)
  | .obj c ns ds, v => ∃ a dx vs, v = .ref a ∧ H a = some (.ins (G.cl c) dx (ns.zip vs)) ∧ Reps G H ds vs
def Reps (G : Kx) (H : Hp) : List D → List V → Prop
  | [], vs => vs = []
  | d :: ds, vs => ∃ v r, vs = v :: r ∧ Rep G H d v ∧ Reps G H ds r
end

mutual
theorem Rep.mono {G : Kx} {H H' : Hp} (e : Ex H H') : ∀ (d : D) (v : V), Rep G H d v → Rep G H' d v
  | .non, _, h => h
  | .bl _, _, h => h
  | .int _, _, h => h
  | .str _, _, h => h
  | .ty _, _, h => h
  | .cls _, _, h => h
  | .tup ds, v, h => by
    unfold Rep at h ⊢
    obtain ⟨a, vs, rfl, h1, h2⟩ := h
    exact ⟨a, vs, rfl, ex_t e h1, Reps.mono e ds vs h2⟩
  | .lst ds, v, h => by
    unfold Rep at h ⊢
    obtain ⟨a, vs, rfl, h1, h2⟩ := h
    exact ⟨a, vs, rfl, e _ _ h1, Reps.mono e ds vs h2⟩
  | .fz ds, v, h => by
    unfold Rep at h ⊢
    obtain ⟨a, vs, rfl, h1, h2⟩ := h
    exact ⟨a, vs, rfl, ex_l e h1, Reps.mono e ds vs h2⟩
  | .obj c ns ds, v, h => by
    unfold Rep at h ⊢
    obtain ⟨a, dx, vs, rfl, h1, h2⟩ := h
    exact ⟨a, dx, vs, rfl, e _ _ h1, Reps.mono e ds vs h2⟩
theorem Reps.mono {G : Kx} {H H' : Hp} (e : Ex H H') : ∀ (ds : List D) (vs : List V), Reps G H ds vs → Reps G H' ds vs
  | [], _, h => h
  | d :: ds, vs, h => by
    unfold Reps at h ⊢
    obtain ⟨v, r, rfl, h1, h2⟩ := h
    exact ⟨v, r, rfl, Rep.mono e d v h1, Reps.mono e ds r h2⟩
end

section
variable {G : Kx} {H H' : Hp}
theorem reps_nil : Reps G H [] [] := by unfold Reps; rfl
theorem reps_cons {d : D} {ds : List D} {v : V} {vs : List V} (h : Rep G H d v) (hs : Reps G H ds vs) : Reps G H (d :: ds) (v :: vs) := by
  unfold Reps; exact ⟨v, vs, rfl, h, hs⟩
theorem reps_nil_inv {vs : List V} (h : Reps G H [] vs) : vs = [] := by unfold Reps at h; exact h
theorem reps_cons_inv {d : D} {ds : List D} {vs : List V} (h : Reps G H (d :: ds) vs) : ∃ v r, vs = v :: r ∧ Rep G H d v ∧ Reps G H ds r := by unfold Reps at h; exact h
theorem reps_one {d : D} {v : V} (h : Rep G H d v) : Reps G H [d] [v] := reps_cons h reps_nil
theorem Reps.len : ∀ {ds : List D} {vs : List V}, Reps G H ds vs → vs.length = ds.length
  | [], vs, h => by rw [reps_nil_inv h]; rfl
  | d :: ds, vs, h => by
    obtain ⟨v, r, rfl, _, h2⟩ := reps_cons_inv h
    simp [Reps.len h2]
theorem Reps.get : ∀ {ds : List D} {vs : List V}, Reps G H ds vs → ∀ {i : Nat} {v : V}, vs[i]? = some v → ∃ d, ds[i]? = some d ∧ Rep G H d v
  | [], vs, h, i, v, e => by rw [reps_nil_inv h] at e; simp at e
  | d :: ds, vs, h, i, v, e => by
    obtain ⟨w, r, rfl, h1, h2⟩ := reps_cons_inv h
    cases i with
    | zero => simp at e; subst e; exact ⟨d, by simp, h1⟩
    | succ i => simp at e; obtain ⟨x, hx, hr⟩ := Reps.get h2 e; exact ⟨x, by simpa using hx, hr⟩
theorem Reps.at : ∀ {ds : List D} {vs : List V}, Reps G H ds vs → ∀ {i : Nat} {d : D}, ds[i]? = some d → ∃ v, vs[i]? = some v ∧ Rep G H d v
  | [], vs, h, i, v, e => by simp at e
  | d :: ds, vs, h, i, x, e => by
    obtain ⟨w, r, rfl, h1, h2⟩ := reps_cons_inv h
    cases i with
    | zero => simp at e; subst e; exact ⟨w, by simp, h1⟩
    | succ i => simp at e; obtain ⟨x, hx, hr⟩ := Reps.at h2 e; exact ⟨x, by simpa using hx, hr⟩
theorem Reps.app : ∀ {ds es : List D} {vs ws : List V}, Reps G H ds vs → Reps G H es ws → Reps G H (ds ++ es) (vs ++ ws)
  | [], es, vs, ws, h, h' => by rw [reps_nil_inv h]; exact h'
  | d :: ds, es, vs, ws, h, h' => by
    obtain ⟨v, r, rfl, h1, h2⟩ := reps_cons_inv h
    exact reps_cons h1 (Reps.app h2 h')
theorem Reps.take : ∀ (n : Nat) {ds : List D} {vs : List V}, Reps G H ds vs → Reps G H (ds.take n) (vs.take n)
  | 0, ds, vs, h => by simp; exact reps_nil
  | n + 1, [], vs, h => by rw [reps_nil_inv h]; exact reps_nil
  | n + 1, d :: ds, vs, h => by
    obtain ⟨v, r, rfl, h1, h2⟩ := reps_cons_inv h
    exact reps_cons h1 (Reps.take n h2)
theorem Reps.drop : ∀ (n : Nat) {ds : List D} {vs : List V}, Reps G H ds vs → Reps G H (ds.drop n) (vs.drop n)
  | 0, ds, vs, h => h
  | n + 1, [], vs, h => by rw [reps_nil_inv h]; exact reps_nil
  | n + 1, d :: ds, vs, h => by
    obtain ⟨v, r, rfl, h1, h2⟩ := reps_cons_inv h
    exact Reps.drop n h2
theorem Reps.rev : ∀ {ds : List D} {vs : List V}, Reps G H ds vs → Reps G H ds.reverse vs.reverse
  | [], vs, h => by rw [reps_nil_inv h]; exact reps_nil
  | d :: ds, vs, h => by
    obtain ⟨v, r, rfl, h1, h2⟩ := reps_cons_inv h
    rw [List.reverse_cons, List.reverse_cons]
    exact Reps.app (Reps.rev h2) (reps_one h1)
theorem Reps.set : ∀ (n : Nat) {ds : List D} {vs : List V} {d : D} {v : V}, Reps G H ds vs → Rep G H d v → Reps G H (ds.set n d) (vs.set n v)
  | n, [], vs, d, v, h, _ => by rw [reps_nil_inv h]; exact reps_nil
  | 0, e :: ds, vs, d, v, h, h' => by
    obtain ⟨w, r, rfl, h1, h2⟩ := reps_cons_inv h
    exact reps_cons h' h2
  | n + 1, e :: ds, vs, d, v, h, h' => by
    obtain ⟨w, r, rfl, h1, h2⟩ := reps_cons_inv h
    exact reps_cons h1 (Reps.set n h2 h')
theorem Reps.repl : ∀ (n : Nat) {ds : List D} {vs : List V}, Reps G H ds vs → Reps G H (List.replicate n ds).flatten (List.replicate n vs).flatten
  | 0, ds, vs, h => reps_nil
  | n + 1, ds, vs, h => by
    rw [List.replicate_succ, List.replicate_succ, List.flatten_cons, List.flatten_cons]
    exact h.app (Reps.repl n h)
theorem Reps.ints : ∀ {ns : List Int} {vs : List V}, Reps G H (ns.map D.int) vs → vs = ns.map V.int
  | [], vs, h => reps_nil_inv h
  | n :: ns, vs, h => by
    obtain ⟨v, r, rfl, h1, h2⟩ := reps_cons_inv h
    unfold Rep at h1
    rw [h1, Reps.ints h2]; rfl
theorem Reps.bools : ∀ {ns : List Bool} {vs : List V}, Reps G H (ns.map D.bl) vs → vs = ns.map V.bl
  | [], vs, h => reps_nil_inv h
  | n :: ns, vs, h => by
    obtain ⟨v, r, rfl, h1, h2⟩ := reps_cons_inv h
    unfold Rep at h1
    rw [h1, Reps.bools h2]; rfl
end

/-! ## hiding -/
open Classical in
noncomputable def hid (S : Addr → Prop) (H : Hp) : Hp := fun a => if S a then none else H a
theorem hid_some {S : Addr → Prop} {H : Hp} {a : Addr} {o : HO} : hid S H a = some o ↔ ¬ S a ∧ H a = some o := by
  unfold hid
  by_cases h : S a
  · simp [h]
  · simp [h]
theorem hid_in {S : Addr → Prop} {H : Hp} {a : Addr} (h : S a) : hid S H a = none := by unfold hid; rw [if_pos h]
theorem hid_out {S : Addr → Prop} {H : Hp} {a : Addr} (h : ¬ S a) : hid S H a = H a := by unfold hid; rw [if_neg h]
theorem ex_hid {S S' : Addr → Prop} {H H' : Hp} (e : Ex H H') (hs : ∀ a, S' a → S a) : Ex (hid S H) (hid S' H') := fun a o h => by
  obtain ⟨h1, h2⟩ := hid_some.mp h
  exact hid_some.mpr ⟨fun z => h1 (hs a z), e a o h2⟩
/-- S' may hold further addresses that H does not know -/
theorem ex_hid2 {S S' : Addr → Prop} {H H' : Hp} (e : Ex H H') (hs : ∀ a, S' a → S a ∨ H a = none) : Ex (hid S H) (hid S' H') := fun a o h => by
  obtain ⟨h1, h2⟩ := hid_some.mp h
  refine hid_some.mpr ⟨fun z => ?_, e a o h2⟩
  rcases hs a z with q | q
  · exact h1 q
  · rw [q] at h2; cases h2
theorem hid_le {S : Addr → Prop} {H : Hp} : Ex (hid S H) H := fun a o h => (hid_some.mp h).2
theorem hid_upd {S : Addr → Prop} {H : Hp} {p : Addr} {o : HO} (h : S p) : hid S (upd H p o) = hid S H := by
  funext a
  by_cases e : a = p
  · subst e; rw [hid_in h, hid_in h]
  · by_cases hs : S a
    · rw [hid_in hs, hid_in hs]
    · rw [hid_out hs, hid_out hs, upd_ne e]

/-! ## environments -/
inductive Sl where
  | un | sh (d : D) | ow (ds : List D)
instance : Inhabited Sl := ⟨.un⟩
abbrev En := List Sl
def slt : List Sl → Nat → Option Sl
  | [], _ => none
  | s :: _, 0 => some s
  | _ :: r, n + 1 => slt r n
theorem slt_eq : ∀ (ρ : List Sl) (i : Nat), slt ρ i = ρ[i]?
  | [], i => by simp [slt]
  | s :: r, 0 => by simp [slt]
  | s :: r, n + 1 => by simp [slt, slt_eq r n]
inductive Val where
  | sh (d : D) | fr (ds : List D)
def Val.d : Val → D
  | .sh d => d
  | .fr ds => .lst ds
def Val.s : Val → Sl
  | .sh d => .sh d
  | .fr ds => .ow ds
inductive R (α : Type) where
  | ok (a : α) | ex (c : Nat) (d : D) | no
def R.bind {α β : Type} (r : R α) (f : α → R β) : R β := match r with
  | .ok a => f a
  | .ex c d => .ex c d
  | .no => .no
instance : Monad R where
  pure := R.ok
  bind := R.bind
inductive Out where
  | nx (ρ : En) | rt (v : Val) | bk (ρ : En) | ct (ρ : En) | ex (c : Nat) (d : D) (ρ : En) | no

def Own (ρ : En) (σ : L2.St) (a : Addr) : Prop := ∃ (i : Nat) (ds : List D), ρ[i]? = some (Sl.ow ds) ∧ σ[i]? = some (some (V.ref a))
def SS (Se : Addr → Prop) (ρ : En) (σ : L2.St) : Addr → Prop := fun a => Se a ∨ Own ρ σ a
def ins1 (S : Addr → Prop) (q : Addr) : Addr → Prop := fun a => S a ∨ a = q

structure M (G : Kx) (Se : Addr → Prop) (He : Hp) (σ : L2.St) (H : Hp) (ρ : En) : Prop where
  ext : Ex He H
  len : ρ.length = σ.length
  se : ∀ a, Se a → He a ≠ none
  sh : ∀ (i : Nat) (d : D), ρ[i]? = some (Sl.sh d) → ∃ v : V, σ[i]? = some (some v) ∧ Rep G (hid (SS Se ρ σ) H) d v
  ow : ∀ (i : Nat) (ds : List D), ρ[i]? = some (Sl.ow ds) → ∃ (p : Addr) (vs : List V), σ[i]? = some (some (V.ref p)) ∧ He p = none ∧ H p = some (.lst vs) ∧ Reps G (hid (SS Se ρ σ) H) ds vs
  dj : ∀ (i j : Nat) (ds es : List D) (p : Addr), ρ[i]? = some (Sl.ow ds) → ρ[j]? = some (Sl.ow es) → σ[i]? = some (some (V.ref p)) → σ[j]? = some (some (V.ref p)) → i = j

/-- how a value stands for what an expression gives: H ahead of it, H' behind it -/
def VRep (G : Kx) (S : Addr → Prop) (H H' : Hp) (v : V) : Val → Prop
  | .sh d => Rep G (hid S H') d v
  | .fr ds => ∃ q vs, v = .ref q ∧ H q = none ∧ H' q = some (.lst vs) ∧ Reps G (hid (ins1 S q) H') ds vs

section
variable {G : Kx} {Se S : Addr → Prop} {He H H' H2 : Hp} {σ : L2.St} {ρ : En} {v : V} {val : Val}
theorem M.own (m : M G Se He σ H ρ) {a : Addr} (h : Own ρ σ a) : He a = none ∧ ∃ vs, H a = some (.lst vs) := by
  obtain ⟨i, ds, h1, h2⟩ := h
  obtain ⟨p, vs, e, e1, e2, _⟩ := m.ow i ds h1
  rw [h2] at e; cases e
  exact ⟨e1, vs, e2⟩
theorem M.dom (m : M G Se He σ H ρ) {a : Addr} (h : SS Se ρ σ a) : H a ≠ none := by
  rcases h with h | h
  · intro z
    have := m.se a h
    cases e : He a with
    | none => exact this e
    | some o => rw [m.ext a o e] at z; cases z
  · obtain ⟨_, vs, e⟩ := m.own h
    rw [e]; intro z; cases z
theorem M.mono (m : M G Se He σ H ρ) (e : Ex H H') : M G Se He σ H' ρ where
  ext := m.ext.trans e
  len := m.len
  se := m.se
  sh := fun i d h => by
    obtain ⟨v, e1, r⟩ := m.sh i d h
    exact ⟨v, e1, Rep.mono (ex_hid e fun _ z => z) _ _ r⟩
  ow := fun i ds h => by
    obtain ⟨p, vs, e1, e2, e3, r⟩ := m.ow i ds h
    exact ⟨p, vs, e1, e2, e _ _ e3, Reps.mono (ex_hid e fun _ z => z) _ _ r⟩
  dj := m.dj
/-- all that stands now becomes the ground -/
noncomputable def ground (ρ : En) (σ : L2.St) (H : Hp) : Hp := hid (Own ρ σ) H
theorem M.ground_ex (m : M G Se He σ H ρ) : Ex He (ground ρ σ H) := fun a o h => by
  refine hid_some.mpr ⟨fun z => ?_, m.ext a o h⟩
  rw [(m.own z).1] at h
  cases h
theorem M.rebase (m : M G Se He σ H ρ) : M G Se (ground ρ σ H) σ H ρ where
  ext := hid_le
  len := m.len
  se := fun a h z => by
    cases e : He a with
    | none => exact m.se a h e
    | some o => rw [m.ground_ex a o e] at z; cases z
  sh := m.sh
  ow := fun i ds h => by
    obtain ⟨p, vs, e1, e2, e3, r⟩ := m.ow i ds h
    exact ⟨p, vs, e1, hid_in ⟨i, ds, h, e1⟩, e3, r⟩
  dj := m.dj
/-- the ground may be lowered -/
theorem M.lower {He' : Hp} (m : M G Se He σ H ρ) (e : Ex He' He) (hs : ∀ a, Se a → He' a ≠ none) : M G Se He' σ H ρ where
  ext := e.trans m.ext
  len := m.len
  se := hs
  sh := m.sh
  ow := fun i ds h => by
    obtain ⟨p, vs, e1, e2, e3, r⟩ := m.ow i ds h
    exact ⟨p, vs, e1, fresh_back e e2, e3, r⟩
  dj := m.dj
/-- what is in the ground and not Se stands whatever is owned -/
theorem M.stable (m : M G Se He σ H ρ) : Ex (hid Se He) (hid (SS Se ρ σ) H) := fun a o h => by
  obtain ⟨h1, h2⟩ := hid_some.mp h
  refine hid_some.mpr ⟨fun z => ?_, m.ext a o h2⟩
  rcases z with z | z
  · exact h1 z
  · rw [(m.own z).1] at h2; cases h2
theorem ground_hid (H : Hp) : Ex (hid (SS Se ρ σ) H) (hid Se (ground ρ σ H)) := fun a o h => by
  obtain ⟨h1, h2⟩ := hid_some.mp h
  exact hid_some.mpr ⟨fun z => h1 (.inl z), hid_some.mpr ⟨fun z => h1 (.inr z), h2⟩⟩

theorem VRep.mono (h : VRep G S H H' v val) (e : Ex H' H2) : VRep G S H H2 v val := by
  cases val with
  | sh d => exact Rep.mono (ex_hid e fun _ z => z) _ _ h
  | fr ds =>
    obtain ⟨q, vs, e1, e2, e3, r⟩ := h
    exact ⟨q, vs, e1, e2, e _ _ e3, Reps.mono (ex_hid e fun _ z => z) _ _ r⟩
theorem VRep.back {H0 : Hp} (h : VRep G S H H' v val) (e : Ex H0 H) : VRep G S H0 H' v val := by
  cases val with
  | sh d => exact h
  | fr ds =>
    obtain ⟨q, vs, e1, e2, e3, r⟩ := h
    exact ⟨q, vs, e1, fresh_back e e2, e3, r⟩
/-- as shared data -/
theorem VRep.rep (h : VRep G S H H' v val) (hs : ∀ a, S a → H a ≠ none) : Rep G (hid S H') val.d v := by
  cases val with
  | sh d => exact h
  | fr ds =>
    obtain ⟨q, vs, e1, e2, e3, r⟩ := h
    show Rep G (hid S H') (.lst ds) v
    unfold Rep
    refine ⟨q, vs, e1, hid_some.mpr ⟨fun z => hs q z e2, e3⟩, Reps.mono (ex_hid (Ex.refl _) fun _ z => .inl z) _ _ r⟩
theorem VRep.less {S' : Addr → Prop} (h : VRep G S H H' v val) (hs : ∀ a, S' a → S a) : VRep G S' H H' v val := by
  cases val with
  | sh d => exact Rep.mono (ex_hid (Ex.refl _) hs) _ _ h
  | fr ds =>
    obtain ⟨q, vs, e1, e2, e3, r⟩ := h
    refine ⟨q, vs, e1, e2, e3, Reps.mono (ex_hid (Ex.refl _) fun a z => ?_) _ _ r⟩
    rcases z with z | z
    · exact .inl (hs a z)
    · exact .inr z

theorem get_set {α : Type} {l : List α} {i j : Nat} {x y : α} (h : (l.set i x)[j]? = some y) : (i = j ∧ y = x ∧ j < l.length) ∨ (i ≠ j ∧ l[j]? = some y) := by
  rw [List.getElem?_set] at h
  by_cases e : i = j
  · rw [if_pos e] at h
    split at h
    · exact .inl ⟨e, (Option.some.inj h).symm, by omega⟩
    · cases h
  · rw [if_neg e] at h
    exact .inr ⟨e, h⟩
theorem set_same {α : Type} {l : List α} {i : Nat} {x : α} (h : i < l.length) : (l.set i x)[i]? = some x := by
  rw [List.getElem?_set]; simp [h]
theorem set_other {α : Type} {l : List α} {i j : Nat} {x : α} (h : i ≠ j) : (l.set i x)[j]? = l[j]? := by
  rw [List.getElem?_set, if_neg h]

theorem own_set {i : Nat} {s : Sl} {u : Option V} {a : Addr} (h : Own (ρ.set i s) (σ.set i u) a) : Own ρ σ a ∨ ((∃ ds, s = .ow ds) ∧ u = some (.ref a) ∧ i < ρ.length) := by
  obtain ⟨j, ds, h1, h2⟩ := h
  rcases get_set h1 with ⟨e, e1, e2⟩ | ⟨e, e1⟩
  · subst e
    rcases get_set h2 with ⟨_, e3, _⟩ | ⟨e3, _⟩
    · exact .inr ⟨⟨ds, e1.symm⟩, e3.symm, e2⟩
    · exact absurd rfl e3
  · rw [set_other e] at h2
    exact .inl ⟨j, ds, e1, h2⟩

/-- a slot is set -/
theorem M.set (m : M G Se He σ H ρ) (e : Ex H H') (i : Nat) (h : VRep G (SS Se ρ σ) H H' v val) : M G Se He (σ.set i (some v)) H' (ρ.set i val.s) := by
  have m' := m.mono e
  cases val with
  | sh d =>
    have sub : ∀ a, SS Se (ρ.set i (.sh d)) (σ.set i (some v)) a → SS Se ρ σ a := fun a z => by
      rcases z with z | z
      · exact .inl z
      · rcases own_set z with z | ⟨⟨_, z⟩, _⟩
        · exact .inr z
        · cases z
    refine ⟨m'.ext, by simp [Val.s, m.len], m.se, fun j d' hj => ?_, fun j ds hj => ?_, fun j k ds es p h1 h2 h3 h4 => ?_⟩
    · rcases get_set hj with ⟨e1, e2, e3⟩ | ⟨e1, e2⟩
      · subst e1; cases e2
        rw [m.len] at e3
        exact ⟨v, set_same e3, Rep.mono (ex_hid (Ex.refl _) sub) _ _ h⟩
      · obtain ⟨w, hw, r⟩ := m'.sh j d' e2
        exact ⟨w, by rw [set_other e1]; exact hw, Rep.mono (ex_hid (Ex.refl _) sub) _ _ r⟩
    · rcases get_set hj with ⟨e1, e2, e3⟩ | ⟨e1, e2⟩
      · cases e2
      · obtain ⟨p, vs, hw, x1, x2, r⟩ := m'.ow j ds e2
        exact ⟨p, vs, by rw [set_other e1]; exact hw, x1, x2, Reps.mono (ex_hid (Ex.refl _) sub) _ _ r⟩
    · rcases get_set h1 with ⟨_, e2, _⟩ | ⟨e1, e2⟩
      · cases e2
      · rcases get_set h2 with ⟨_, e4, _⟩ | ⟨e3, e4⟩
        · cases e4
        · rw [set_other e1] at h3
          rw [set_other e3] at h4
          exact m'.dj j k ds es p e2 e4 h3 h4
  | fr ds0 =>
    obtain ⟨q, vs0, rfl, q1, q2, r0⟩ := h
    have nq : ¬ SS Se ρ σ q := fun z => m.dom z q1
    have sub : ∀ a, SS Se (ρ.set i (.ow ds0)) (σ.set i (some (.ref q))) a → ins1 (SS Se ρ σ) q a := fun a z => by
      rcases z with z | z
      · exact .inl (.inl z)
      · rcases own_set z with z | ⟨_, z, _⟩
        · exact .inl (.inr z)
        · cases z; exact .inr rfl
    have sub2 : ∀ a, SS Se (ρ.set i (.ow ds0)) (σ.set i (some (.ref q))) a → SS Se ρ σ a ∨ H a = none := fun a z => by
      rcases sub a z with z | z
      · exact .inl z
      · rw [z]; exact .inr q1
    refine ⟨m'.ext, by simp [Val.s, m.len], m.se, fun j d' hj => ?_, fun j ds hj => ?_, fun j k ds es p h1 h2 h3 h4 => ?_⟩
    · rcases get_set hj with ⟨e1, e2, e3⟩ | ⟨e1, e2⟩
      · cases e2
      · obtain ⟨w, hw, r⟩ := m.sh j d' e2
        exact ⟨w, by rw [set_other e1]; exact hw, Rep.mono (ex_hid2 e sub2) _ _ r⟩
    · rcases get_set hj with ⟨e1, e2, e3⟩ | ⟨e1, e2⟩
      · subst e1; cases e2
        rw [m.len] at e3
        exact ⟨q, vs0, set_same e3, fresh_back m.ext q1, q2, Reps.mono (ex_hid (Ex.refl _) sub) _ _ r0⟩
      · obtain ⟨p, vs, hw, x1, x2, r⟩ := m.ow j ds e2
        exact ⟨p, vs, by rw [set_other e1]; exact hw, x1, e _ _ x2, Reps.mono (ex_hid2 e sub2) _ _ r⟩
    · have other : ∀ {j : Nat} {ds : List D}, ρ[j]? = some (Sl.ow ds) → σ[j]? = some (some (V.ref q)) → False := fun {j ds} a b => nq (.inr ⟨j, ds, a, b⟩)
      rcases get_set h1 with ⟨e1, e2, e2'⟩ | ⟨e1, e2⟩
      · subst e1
        rw [m.len] at e2'
        rw [set_same e2'] at h3; cases h3
        rcases get_set h2 with ⟨e3, e4, _⟩ | ⟨e3, e4⟩
        · exact e3
        · rw [set_other e3] at h4
          exact (other e4 h4).elim
      · rw [set_other e1] at h3
        rcases get_set h2 with ⟨e3, e4, e5⟩ | ⟨e3, e4⟩
        · subst e3
          rw [m.len] at e5
          rw [set_same e5] at h4; cases h4
          exact (other e2 h3).elim
        · rw [set_other e3] at h4
          exact m.dj j k ds es p e2 e4 h3 h4
/-- a slot is forgotten -/
theorem M.drop (m : M G Se He σ H ρ) (i : Nat) (u : Option V) : M G Se He (σ.set i u) H (ρ.set i .un) := by
  have sub : ∀ a, SS Se (ρ.set i .un) (σ.set i u) a → SS Se ρ σ a := fun a z => by
    rcases z with z | z
    · exact .inl z
    · rcases own_set z with z | ⟨⟨_, z⟩, _⟩
      · exact .inr z
      · cases z
  refine ⟨m.ext, by simp [m.len], m.se, fun j d' hj => ?_, fun j ds hj => ?_, fun j k ds es p h1 h2 h3 h4 => ?_⟩
  · rcases get_set hj with ⟨e1, e2, e3⟩ | ⟨e1, e2⟩
    · cases e2
    · obtain ⟨w, hw, r⟩ := m.sh j d' e2
      exact ⟨w, by rw [set_other e1]; exact hw, Rep.mono (ex_hid (Ex.refl _) sub) _ _ r⟩
  · rcases get_set hj with ⟨e1, e2, e3⟩ | ⟨e1, e2⟩
    · cases e2
    · obtain ⟨p, vs, hw, x1, x2, r⟩ := m.ow j ds e2
      exact ⟨p, vs, by rw [set_other e1]; exact hw, x1, x2, Reps.mono (ex_hid (Ex.refl _) sub) _ _ r⟩
  · rcases get_set h1 with ⟨_, e2, _⟩ | ⟨e1, e2⟩
    · cases e2
    · rcases get_set h2 with ⟨_, e4, _⟩ | ⟨e3, e4⟩
      · cases e4
      · rw [set_other e1] at h3
        rw [set_other e3] at h4
        exact m.dj j k ds es p e2 e4 h3 h4
/-- an owned list is given up: it is shared from now on -/
theorem M.freeze (m : M G Se He σ H ρ) {i : Nat} {ds : List D} (hi : ρ[i]? = some (.ow ds)) : M G Se He σ H (ρ.set i (.sh (.lst ds))) := by
  obtain ⟨p, vs, hp, p1, p2, rp⟩ := m.ow i ds hi
  have hlt : i < ρ.length := by
    rcases Nat.lt_or_ge i ρ.length with z | z
    · exact z
    · rw [List.getElem?_eq_none z] at hi; cases hi
  have ns : ∀ a, Own (ρ.set i (.sh (.lst ds))) σ a → Own ρ σ a ∧ a ≠ p := fun a ⟨j, es, h1, h2⟩ => by
    rcases get_set h1 with ⟨_, e2, _⟩ | ⟨e1, e2⟩
    · cases e2
    · exact ⟨⟨j, es, e2, h2⟩, fun z => e1 (m.dj i j ds es p hi e2 hp (by rw [← z]; exact h2))⟩
  have sub : ∀ a, SS Se (ρ.set i (.sh (.lst ds))) σ a → SS Se ρ σ a := fun a z => by
    rcases z with z | z
    · exact .inl z
    · exact .inr (ns a z).1
  have np : ¬ SS Se (ρ.set i (.sh (.lst ds))) σ p := fun z => by
    rcases z with z | z
    · exact m.se p z p1
    · exact (ns p z).2 rfl
  refine ⟨m.ext, by simp [m.len], m.se, fun j d' hj => ?_, fun j es hj => ?_, fun j k es fs p h1 h2 h3 h4 => ?_⟩
  · rcases get_set hj with ⟨e1, e2, e3⟩ | ⟨e1, e2⟩
    · subst e1; cases e2
      refine ⟨.ref p, hp, ?_⟩
      unfold Rep
      exact ⟨p, vs, rfl, hid_some.mpr ⟨np, p2⟩, Reps.mono (ex_hid (Ex.refl _) sub) _ _ rp⟩
    · obtain ⟨w, hw, r⟩ := m.sh j d' e2
      exact ⟨w, hw, Rep.mono (ex_hid (Ex.refl _) sub) _ _ r⟩
  · rcases get_set hj with ⟨e1, e2, e3⟩ | ⟨e1, e2⟩
    · cases e2
    · obtain ⟨q, ws, hw, x1, x2, r⟩ := m.ow j es e2
      exact ⟨q, ws, hw, x1, x2, Reps.mono (ex_hid (Ex.refl _) sub) _ _ r⟩
  · rcases get_set h1 with ⟨_, e2, _⟩ | ⟨e1, e2⟩
    · cases e2
    · rcases get_set h2 with ⟨_, e4, _⟩ | ⟨e3, e4⟩
      · cases e4
      · exact m.dj j k es fs p e2 e4 h3 h4
/-- an owned list is changed -/
theorem M.change (m : M G Se He σ H ρ) {i : Nat} {ds es : List D} {p : Addr} {ws : List V} (hi : ρ[i]? = some (.ow ds)) (hp : σ[i]? = some (some (.ref p))) (r : Reps G (hid (SS Se ρ σ) H) es ws) :
    M G Se He σ (upd H p (.lst ws)) (ρ.set i (.ow es)) := by
  have op : Own ρ σ p := ⟨i, ds, hi, hp⟩
  have hlt : i < ρ.length := by
    rcases Nat.lt_or_ge i ρ.length with z | z
    · exact z
    · rw [List.getElem?_eq_none z] at hi; cases hi
  have same : ∀ a, Own (ρ.set i (.ow es)) σ a ↔ Own ρ σ a := fun a => by
    constructor
    · rintro ⟨j, fs, h1, h2⟩
      rcases get_set h1 with ⟨e1, e2, _⟩ | ⟨e1, e2⟩
      · subst e1; exact ⟨i, ds, hi, h2⟩
      · exact ⟨j, fs, e2, h2⟩
    · rintro ⟨j, fs, h1, h2⟩
      by_cases e : i = j
      · subst e; exact ⟨i, es, set_same hlt, h2⟩
      · exact ⟨j, fs, by rw [set_other e]; exact h1, h2⟩
  have sub : ∀ a, SS Se (ρ.set i (.ow es)) σ a → SS Se ρ σ a := fun a z => by
    rcases z with z | z
    · exact .inl z
    · exact .inr ((same a).mp z)
  have eh : hid (SS Se ρ σ) (upd H p (.lst ws)) = hid (SS Se ρ σ) H := hid_upd (.inr op)
  have he : ∀ {d : D} {v : V}, Rep G (hid (SS Se ρ σ) H) d v → Rep G (hid (SS Se (ρ.set i (.ow es)) σ) (upd H p (.lst ws))) d v := fun {d v} h =>
    Rep.mono (ex_hid (Ex.refl _) sub) _ _ (by rw [eh]; exact h)
  have hes : ∀ {d : List D} {v : List V}, Reps G (hid (SS Se ρ σ) H) d v → Reps G (hid (SS Se (ρ.set i (.ow es)) σ) (upd H p (.lst ws))) d v := fun {d v} h =>
    Reps.mono (ex_hid (Ex.refl _) sub) _ _ (by rw [eh]; exact h)
  refine ⟨m.ext.mut (m.own op).1, by simp [m.len], m.se, fun j d' hj => ?_, fun j fs hj => ?_, fun j k fs gs q h1 h2 h3 h4 => ?_⟩
  · rcases get_set hj with ⟨e1, e2, e3⟩ | ⟨e1, e2⟩
    · cases e2
    · obtain ⟨w, hw, r⟩ := m.sh j d' e2
      exact ⟨w, hw, he r⟩
  · rcases get_set hj with ⟨e1, e2, e3⟩ | ⟨e1, e2⟩
    · subst e1; cases e2
      exact ⟨p, ws, hp, (m.own op).1, upd_same, hes r⟩
    · obtain ⟨q, us, hw, x1, x2, r'⟩ := m.ow j fs e2
      have nq : q ≠ p := fun z => e1 (m.dj i j ds fs p hi e2 hp (by rw [← z]; exact hw))
      exact ⟨q, us, hw, x1, by rw [upd_ne nq]; exact x2, hes r'⟩
  · have b1 : ∃ fs', ρ[j]? = some (.ow fs') := by
      rcases get_set h1 with ⟨e1, _, _⟩ | ⟨_, e2⟩
      · subst e1; exact ⟨_, hi⟩
      · exact ⟨_, e2⟩
    have b2 : ∃ fs', ρ[k]? = some (.ow fs') := by
      rcases get_set h2 with ⟨e1, _, _⟩ | ⟨_, e2⟩
      · subst e1; exact ⟨_, hi⟩
      · exact ⟨_, e2⟩
    obtain ⟨_, b1⟩ := b1
    obtain ⟨_, b2⟩ := b2
    exact m.dj j k _ _ q b1 b2 h3 h4
end
end Dn
namespace Dn
open PySem PySem.Spec PyProof.Rows L2 Evl

/-! ## readings by denotations -/
/-- how an exception of the class c with the fields d stands -/
def XRep (G : Kx) (S : Addr → Prop) (H : Hp) (cls : Value) (dd : Option Addr) (c : Nat) (d : D) : Prop :=
  cls = .ref (G.cl c) ∧ match d with
    | .obj _ ns ds => ∃ a vs, dd = some a ∧ H a = some (.xd (ns.zip vs)) ∧ Reps G (hid S H) ds vs
    | _ => dd = none
section
variable (G : Kx) (S : Addr → Prop) (H : Hp)
def PostV (Q : VK) : R Val → Prop
  | .ok val => ∀ v H', Ex H H' → VRep G S H H' v val → Q v H'
  | _ => False
def PostE (W : Value → Option Addr → Hp → Prop) (Q : VK) : R Val → Prop
  | .ok val => ∀ v H', Ex H H' → VRep G S H H' v val → Q v H'
  | .ex c d => ∀ cls dd H', Ex H H' → XRep G S H' cls dd c d → W cls dd H'
  | .no => False
def PostA (W : Value → Option Addr → Hp → Prop) (Q : List V → Hp → Prop) : R (List D) → Prop
  | .ok ds => ∀ vs H', Ex H H' → Reps G (hid S H') ds vs → Q vs H'
  | .ex c d => ∀ cls dd H', Ex H H' → XRep G S H' cls dd c d → W cls dd H'
  | .no => False
def PostT (W : Value → Option Addr → Hp → Prop) (Q : Bool → Hp → Prop) : R Bool → Prop
  | .ok b => ∀ H', Ex H H' → Q b H'
  | .ex c d => ∀ cls dd H', Ex H H' → XRep G S H' cls dd c d → W cls dd H'
  | .no => False
end
def WS (W : WX) (σ : L2.St) : Value → Option Addr → Hp → Prop := fun cls dd H => W cls dd σ H
def tE (G : Kx) (W : WX) (f : En → R Val) : TE := fun σ H Q => ∃ Se He ρ, M G Se He σ H ρ ∧ PostE G (SS Se ρ σ) H (WS W σ) Q (f ρ)
def tA (G : Kx) (W : WX) (f : En → R (List D)) : TA := fun σ H Q => ∃ Se He ρ, M G Se He σ H ρ ∧ PostA G (SS Se ρ σ) H (WS W σ) Q (f ρ)
def tT (G : Kx) (W : WX) (f : En → R Bool) : TT := fun σ H Q => ∃ Se He ρ, M G Se He σ H ρ ∧ PostT G (SS Se ρ σ) H (WS W σ) Q (f ρ)

section
variable {G : Kx} {S : Addr → Prop} {H H' : Hp} {W : Value → Option Addr → Hp → Prop}
theorem PostE.mono {Q : VK} {r : R Val} (h : PostE G S H W Q r) (e : Ex H H') : PostE G S H' W Q r := by
  cases r with
  | ok val => exact fun v H2 e2 vr => h v H2 (e.trans e2) (vr.back e)
  | ex c d => exact fun cls dd H2 e2 xr => h cls dd H2 (e.trans e2) xr
  | no => exact h
theorem PostA.mono {Q : List V → Hp → Prop} {r : R (List D)} (h : PostA G S H W Q r) (e : Ex H H') : PostA G S H' W Q r := by
  cases r with
  | ok val => exact fun v H2 e2 vr => h v H2 (e.trans e2) vr
  | ex c d => exact fun cls dd H2 e2 xr => h cls dd H2 (e.trans e2) xr
  | no => exact h
theorem PostT.mono {Q : Bool → Hp → Prop} {r : R Bool} (h : PostT G S H W Q r) (e : Ex H H') : PostT G S H' W Q r := by
  cases r with
  | ok val => exact fun H2 e2 => h H2 (e.trans e2)
  | ex c d => exact fun cls dd H2 e2 xr => h cls dd H2 (e.trans e2) xr
  | no => exact h
theorem PostV.mono {Q : VK} {r : R Val} (h : PostV G S H Q r) (e : Ex H H') : PostV G S H' Q r := by
  cases r with
  | ok val => exact fun v H2 e2 vr => h v H2 (e.trans e2) (vr.back e)
  | ex c d => exact h
  | no => exact h
theorem PostE.v {Q : VK} {r : R Val} (h : PostE G S H W Q r) (hn : ∀ c d, r ≠ .ex c d) : PostV G S H Q r := by
  cases r with
  | ok val => exact h
  | ex c d => exact absurd rfl (hn c d)
  | no => exact h
/-- behind a first part -/
theorem PostE.bindE {Q Q' : VK} {r : R Val} {k : Val → R Val} (h : PostE G S H W Q (r.bind k)) (hk : ∀ val v H', Ex H H' → VRep G S H H' v val → PostE G S H' W Q (k val) → Q' v H') : PostE G S H W Q' r := by
  cases r with
  | ok val => exact fun v H' e vr => hk val v H' e vr (PostE.mono (r := k val) h e)
  | ex c d => exact h
  | no => exact h
theorem PostE.bindA {Q : VK} {Q' : List V → Hp → Prop} {r : R (List D)} {k : List D → R Val} (h : PostE G S H W Q (r.bind k)) (hk : ∀ ds vs H', Ex H H' → Reps G (hid S H') ds vs → PostE G S H' W Q (k ds) → Q' vs H') : PostA G S H W Q' r := by
  cases r with
  | ok val => exact fun v H' e vr => hk val v H' e vr (PostE.mono (r := k val) h e)
  | ex c d => exact h
  | no => exact h
theorem PostE.bindT {Q : VK} {Q' : Bool → Hp → Prop} {r : R Bool} {k : Bool → R Val} (h : PostE G S H W Q (r.bind k)) (hk : ∀ b H', Ex H H' → PostE G S H' W Q (k b) → Q' b H') : PostT G S H W Q' r := by
  cases r with
  | ok val => exact fun H' e => hk val H' e (PostE.mono (r := k val) h e)
  | ex c d => exact h
  | no => exact h
theorem PostA.bindE {Q : List V → Hp → Prop} {Q' : VK} {r : R Val} {k : Val → R (List D)} (h : PostA G S H W Q (r.bind k)) (hk : ∀ val v H', Ex H H' → VRep G S H H' v val → PostA G S H' W Q (k val) → Q' v H') : PostE G S H W Q' r := by
  cases r with
  | ok val => exact fun v H' e vr => hk val v H' e vr (PostA.mono (r := k val) h e)
  | ex c d => exact h
  | no => exact h
theorem PostA.bindA {Q : List V → Hp → Prop} {Q' : List V → Hp → Prop} {r : R (List D)} {k : List D → R (List D)} (h : PostA G S H W Q (r.bind k)) (hk : ∀ val v H', Ex H H' → Reps G (hid S H') val v → PostA G S H' W Q (k val) → Q' v H') : PostA G S H W Q' r := by
  cases r with
  | ok val => exact fun v H' e vr => hk val v H' e vr (PostA.mono (r := k val) h e)
  | ex c d => exact h
  | no => exact h
theorem PostT.bindE {Q : Bool → Hp → Prop} {Q' : VK} {r : R Val} {k : Val → R Bool} (h : PostT G S H W Q (r.bind k)) (hk : ∀ val v H', Ex H H' → VRep G S H H' v val → PostT G S H' W Q (k val) → Q' v H') : PostE G S H W Q' r := by
  cases r with
  | ok val => exact fun v H' e vr => hk val v H' e vr (PostT.mono (r := k val) h e)
  | ex c d => exact h
  | no => exact h
theorem PostT.bindT {Q Q' : Bool → Hp → Prop} {r : R Bool} {k : Bool → R Bool} (h : PostT G S H W Q (r.bind k)) (hk : ∀ b H', Ex H H' → PostT G S H' W Q (k b) → Q' b H') : PostT G S H W Q' r := by
  cases r with
  | ok val => exact fun H' e => hk val H' e (PostT.mono (r := k val) h e)
  | ex c d => exact h
  | no => exact h
end

/-! ### consequence -/
theorem _root_.L2.PE.imp {X : Cx} {e : Expr} {t t' : TE} (h : PE X e t) (i : ∀ σ H Q, t' σ H Q → t σ H Q) : PE X e t' := ⟨fun pins s σ H Q I q => h.run pins s σ H Q I (i σ H Q q)⟩
theorem _root_.L2.PT.imp {X : Cx} {e : Expr} {t t' : TT} (h : PT X e t) (i : ∀ σ H Q, t' σ H Q → t σ H Q) : PT X e t' := ⟨fun pins s σ H Q I q => h.run pins s σ H Q I (i σ H Q q)⟩
theorem _root_.L2.PW.imp {X : Cx} {e : Expr} {t t' : TT} (h : PW X e t) (i : ∀ σ H Q, t' σ H Q → t σ H Q) : PW X e t' := ⟨fun wh pins s σ H Q I q => h.run wh pins s σ H Q I (i σ H Q q)⟩
theorem _root_.L2.PA.imp {X : Cx} {e : List Expr} {t t' : TA} (h : PA X e t) (i : ∀ σ H Q, t' σ H Q → t σ H Q) : PA X e t' := ⟨fun pos pins s σ H Q I q => h.run pos pins s σ H Q I (i σ H Q q)⟩
theorem _root_.L2.PI.imp {X : Cx} {tg e : Expr} {t t' : TI} (h : PI X tg e t) (i : ∀ σ H Q, t' σ H Q → t σ H Q) : PI X tg e t' := ⟨fun pins s σ H Q I q => h.run pins s σ H Q I (i σ H Q q)⟩
theorem _root_.L2.PI.or {X : Cx} {tg e : Expr} {t t' : TI} (h : PI X tg e t) (h' : PI X tg e t') : PI X tg e (fun σ H Q => t σ H Q ∨ t' σ H Q) := ⟨fun pins s σ H Q I q => q.elim (h.run pins s σ H Q I) (h'.run pins s σ H Q I)⟩
theorem _root_.L2.PE.or {X : Cx} {e : Expr} {t t' : TE} (h : PE X e t) (h' : PE X e t') : PE X e (fun σ H Q => t σ H Q ∨ t' σ H Q) := ⟨fun pins s σ H Q I q => q.elim (h.run pins s σ H Q I) (h'.run pins s σ H Q I)⟩
theorem _root_.L2.PS.imp {X : Cx} {e : Stmt} {t t' : TS} (h : PS X e t) (i : ∀ D σ H, t' D σ H → t D σ H) : PS X e t' := ⟨fun pins s σ H D I q => h.run pins s σ H D I (i D σ H q)⟩
theorem _root_.L2.PSs.imp {X : Cx} {e : List Stmt} {t t' : TS} (h : PSs X e t) (i : ∀ D σ H, t' D σ H → t D σ H) : PSs X e t' := ⟨fun pins s σ H D I q => h.run pins s σ H D I (i D σ H q)⟩

/-! ## values' operations -/
/-- a one-place, two-place, many-place operation, by data -/
def UB (G : Kx) (r : V → Hp → VK → Prop) (F : D → R Val) : Prop := ∀ S H a va Q, (∀ p, S p → H p ≠ none) → Rep G (hid S H) a va → PostV G S H Q (F a) → r va H Q
def OB (G : Kx) (r : R2) (F : D → D → R Val) : Prop := ∀ S H a b va vb Q, (∀ p, S p → H p ≠ none) → Rep G (hid S H) a va → Rep G (hid S H) b vb → PostV G S H Q (F a b) → r va vb H Q
def CB (G : Kx) (r : List V → Hp → VK → Prop) (F : List D → R Val) : Prop := ∀ S H ds vs Q, (∀ p, S p → H p ≠ none) → Reps G (hid S H) ds vs → PostV G S H Q (F ds) → r vs H Q

def mk (d : D) : R Val := .ok (.sh d)
instance (i j : Int) : Decidable (CMulW i j) := by unfold CMulW; infer_instance
instance (i j : Int) : Decidable (CDivW i j) := by unfold CDivW; infer_instance
/-- is k below the fuel? (stands still at a k that is not written) -/
def below : Nat → Nat → Bool
  | 0, _ => false
  | _ + 1, 0 => true
  | f + 1, k + 1 => below f k
theorem below_lt : ∀ (f k : Nat), below f k = true → k < f
  | 0, k, h => by simp [below] at h
  | f + 1, 0, h => by omega
  | f + 1, k + 1, h => by have := below_lt f k (by simpa [below] using h); omega
open Classical in
noncomputable def dec (p : Prop) : Bool := @decide p (Classical.propDecidable p)
theorem dec_iff {p : Prop} : dec p = true ↔ p := by unfold dec; exact @decide_eq_true_iff p (Classical.propDecidable p)
noncomputable def fit (n : Nat) : Bool := below 4096 n || dec (n ≤ sizeLine)
noncomputable def fitS (n : Nat) : Bool := below 4096 n || dec (n < sizeLine)
noncomputable def mulFit (i j : Int) : Bool := (below 4096 i.natAbs && below 4096 j.natAbs) || dec (CMulW i j)
noncomputable def divFit (i j : Int) : Bool := (decide (0 < j) && below 4096 j.natAbs) || dec (CDivW i j)
noncomputable def repFit (n : Nat) (k : Int) : Bool := (below 4096 n && below 4096 k.natAbs) || dec (-(2 ^ 63) ≤ k ∧ k < 2 ^ 63 ∧ n * k.toNat ≤ sizeLine)
noncomputable def rngFit (n : Int) : Bool := below 4096 n.natAbs || dec (-(2 ^ 62) ≤ n ∧ n < 2 ^ 62)
theorem fit_iff {n : Nat} : fit n = true ↔ n ≤ sizeLine := by
  unfold fit
  rw [Bool.or_eq_true, dec_iff]
  constructor
  · rintro (h | h)
    · have := below_lt _ _ h; exact Evl.sz_of (by omega)
    · exact h
  · exact .inr
theorem fitS_iff {n : Nat} : fitS n = true ↔ n < sizeLine := by
  unfold fitS
  rw [Bool.or_eq_true, dec_iff]
  constructor
  · rintro (h | h)
    · have := below_lt _ _ h; exact Evl.sz_lt (by omega)
    · exact h
  · exact .inr
theorem small_log {n : Nat} (h : n < 4096) : n.log2 < 12 := by
  by_cases h0 : n = 0
  · subst h0; decide
  · exact (Nat.log2_lt h0).mpr h
theorem mulFit_iff {i j : Int} : mulFit i j = true ↔ CMulW i j := by
  unfold mulFit
  rw [Bool.or_eq_true, Bool.and_eq_true, dec_iff]
  constructor
  · rintro (⟨h1, h2⟩ | h)
    · have h1 := small_log (below_lt _ _ h1)
      have h2 := small_log (below_lt _ _ h2)
      unfold CMulW; omega
    · exact h
  · exact .inr
theorem divFit_iff {i j : Int} : divFit i j = true ↔ CDivW i j := by
  unfold divFit
  rw [Bool.or_eq_true, Bool.and_eq_true, dec_iff]
  constructor
  · rintro (⟨h1, h2⟩ | h)
    · have h2 := small_log (below_lt _ _ h2)
      exact ⟨of_decide_eq_true h1, by omega⟩
    · exact h
  · exact .inr
theorem repFit_iff {n : Nat} {k : Int} : repFit n k = true ↔ (-(2 ^ 63) ≤ k ∧ k < 2 ^ 63 ∧ n * k.toNat ≤ sizeLine) := by
  unfold repFit
  rw [Bool.or_eq_true, Bool.and_eq_true, dec_iff]
  constructor
  · rintro (⟨h1, h2⟩ | h)
    · have h1 := below_lt _ _ h1
      have h2 := below_lt _ _ h2
      refine ⟨by omega, by omega, ?_⟩
      have : n * k.toNat ≤ 4095 * 4095 := Nat.mul_le_mul (by omega) (by omega)
      exact Nat.le_trans this (by decide)
    · exact h
  · exact .inr
theorem rngFit_iff {n : Int} : rngFit n = true ↔ (-(2 ^ 62) ≤ n ∧ n < 2 ^ 62) := by
  unfold rngFit
  rw [Bool.or_eq_true, dec_iff]
  constructor
  · rintro (h | h)
    · have := below_lt _ _ h; omega
    · exact h
  · exact .inr
def chk {α : Type} : Bool → R α → R α
  | true, r => r
  | false, _ => .no
theorem chk_true {α : Type} {b : Bool} {r : R α} (h : b = true) : chk b r = r := by rw [h]; rfl
def tt (c : Prop) [Decidable c] (r : R Val) : R Val := if c then r else .no
theorem postV_chk {G : Kx} {S : Addr → Prop} {H : Hp} {Q : VK} {b : Bool} {r : R Val} (h : PostV G S H Q (chk b r)) : b = true ∧ PostV G S H Q r := by
  cases b with
  | true => exact ⟨rfl, h⟩
  | false => exact h.elim
theorem postV_tt {G : Kx} {S : Addr → Prop} {H : Hp} {Q : VK} {c : Prop} [Decidable c] {r : R Val} (h : PostV G S H Q (tt c r)) : c ∧ PostV G S H Q r := by
  unfold tt at h
  by_cases hc : c
  · rw [if_pos hc] at h; exact ⟨hc, h⟩
  · rw [if_neg hc] at h; exact h.elim
section
variable {G : Kx} {S : Addr → Prop} {H : Hp} {Q : VK}
theorem PostV.int {i : Int} (h : PostV G S H Q (mk (.int i))) : Q (.int i) H := h _ H (Ex.refl H) rfl
theorem PostV.bl {i : Bool} (h : PostV G S H Q (mk (.bl i))) : Q (.bl i) H := h _ H (Ex.refl H) rfl
theorem PostV.non (h : PostV G S H Q (mk .non)) : Q .non H := h _ H (Ex.refl H) rfl
theorem PostV.str {i : Str} (h : PostV G S H Q (mk (.str i))) : Q (.str i) H := h _ H (Ex.refl H) rfl
theorem PostV.old {d : D} {v : V} (h : PostV G S H Q (mk d)) (r : Rep G (hid S H) d v) : Q v H := h _ H (Ex.refl H) r
theorem PostV.newL {ds : List D} {vs : List V} (h : PostV G S H Q (.ok (.fr ds))) (r : Reps G (hid S H) ds vs) : ∀ p, H p = none → Q (.ref p) (upd H p (.lst vs)) := fun p hp =>
  h _ _ (Ex.new hp) ⟨p, vs, rfl, hp, upd_same, Reps.mono (ex_hid2 (Ex.new hp) fun a z => by
    rcases z with z | z
    · exact .inl z
    · rw [z]; exact .inr hp) _ _ r⟩
theorem PostV.newT (hs : ∀ p, S p → H p ≠ none) {ds : List D} {vs : List V} (h : PostV G S H Q (mk (.tup ds))) (r : Reps G (hid S H) ds vs) : ∀ p, H p = none → Q (.ref p) (upd H p (.tup vs)) := fun p hp => by
  refine h _ _ (Ex.new hp) ?_
  show Rep G _ (.tup ds) _
  unfold Rep
  exact ⟨p, vs, rfl, st_of (hid_some.mpr ⟨fun z => hs p z hp, upd_same⟩), Reps.mono (ex_hid (Ex.new hp) fun _ z => z) _ _ r⟩
theorem rep_int {i : Int} {v : V} (h : Rep G H (.int i) v) : v = .int i := by unfold Rep at h; exact h
theorem rep_bl {i : Bool} {v : V} (h : Rep G H (.bl i) v) : v = .bl i := by unfold Rep at h; exact h
theorem rep_non {v : V} (h : Rep G H .non v) : v = .non := by unfold Rep at h; exact h
theorem rep_str {i : Str} {v : V} (h : Rep G H (.str i) v) : v = .str i := by unfold Rep at h; exact h
theorem rep_lst {ds : List D} {v : V} (h : Rep G H (.lst ds) v) : ∃ a vs, v = .ref a ∧ H a = some (.lst vs) ∧ Reps G H ds vs := by unfold Rep at h; exact h
theorem rep_tup {ds : List D} {v : V} (h : Rep G H (.tup ds) v) : ∃ a vs, v = .ref a ∧ SqT G.K H a vs ∧ Reps G H ds vs := by unfold Rep at h; exact h
theorem rep_fz {ds : List D} {v : V} (h : Rep G H (.fz ds) v) : ∃ a vs, v = .ref a ∧ SqL G.K H a vs ∧ Reps G H ds vs := by unfold Rep at h; exact h
theorem hid_lst {a : Addr} {o : HO} (h : hid S H a = some o) : H a = some o := (hid_some.mp h).2
theorem hid_sqL {K : PySem.W.Frag} {a : Addr} {vs : List V} (h : SqL K (hid S H) a vs) : SqL K H a vs := ex_l hid_le h
theorem hid_sqT {K : PySem.W.Frag} {a : Addr} {vs : List V} (h : SqT K (hid S H) a vs) : SqT K H a vs := ex_t hid_le h
end

/-! ### arithmetic -/
noncomputable def dAdd : D → D → R Val
  | .int i, .int j => mk (.int (i + j))
  | .lst xs, .lst ys => chk (fit (xs.length + ys.length)) (.ok (.fr (xs ++ ys)))
  | .tup xs, .tup ys => chk (fit (xs.length + ys.length)) (mk (.tup (xs ++ ys)))
  | _, _ => .no
def dSub : D → D → R Val
  | .int i, .int j => mk (.int (i - j))
  | _, _ => .no
noncomputable def dMul : D → D → R Val
  | .int i, .int j => chk (mulFit i j) (mk (.int (i * j)))
  | .lst xs, .int k => chk (repFit xs.length k) (.ok (.fr (List.replicate k.toNat xs).flatten))
  | .tup xs, .int k => tt (0 < xs.length ∧ 2 ≤ k ∧ k ≤ 1000 ∧ xs.length ≤ 1000) (mk (.tup (List.replicate k.toNat xs).flatten))
  | _, _ => .no
noncomputable def dFdv : D → D → R Val
  | .int i, .int j => chk (divFit i j) (mk (.int (i / j)))
  | _, _ => .no
def dMod : D → D → R Val
  | .int i, .int j => tt (0 < j) (mk (.int (i % j)))
  | _, _ => .no
theorem ob_add {G : Kx} : OB G (fun x y H Q => rI0 (fun i j => .int (i + j)) x y H Q ∨ (rCat x y H Q ∨ rCatA G.K x y H Q)) dAdd := by
  intro S H a b va vb Q hs ra rb h
  cases a <;> cases b <;> try exact h.elim
  · rw [rep_int ra, rep_int rb]; exact .inl ⟨_, _, rfl, rfl, PostV.int h⟩
  · rename_i xs ys
    obtain ⟨p, ps, rfl, p1, p2⟩ := rep_tup ra
    obtain ⟨q, qs, rfl, q1, q2⟩ := rep_tup rb
    obtain ⟨hz', k⟩ := postV_chk h
    have hz := fit_iff.mp hz'
    refine .inr (.inr ⟨p, q, ps, qs, rfl, rfl, hid_sqT p1, hid_sqT q1, by rw [p2.len, q2.len]; exact hz, fun e => ?_, fun e e' => ?_, fun e e' => PostV.newT hs k (p2.app q2)⟩)
    · subst e
      have e1 : xs = [] := List.eq_nil_of_length_eq_zero p2.len.symm
      subst e1
      exact PostV.old k rb
    · subst e'
      have e1 : ys = [] := List.eq_nil_of_length_eq_zero q2.len.symm
      subst e1
      rw [List.append_nil] at k
      exact PostV.old k ra
  · obtain ⟨p, ps, rfl, p1, p2⟩ := rep_lst ra
    obtain ⟨q, qs, rfl, q1, q2⟩ := rep_lst rb
    obtain ⟨hz', k⟩ := postV_chk h
    have hz := fit_iff.mp hz'
    exact .inr (.inl ⟨p, q, ps, qs, rfl, rfl, hid_lst p1, hid_lst q1, by rw [p2.len, q2.len]; exact hz, PostV.newL k (p2.app q2)⟩)
theorem ob_sub {G : Kx} : OB G (rI0 fun i j => .int (i - j)) dSub := by
  intro S H a b va vb Q hs ra rb h
  cases a <;> cases b <;> try exact h.elim
  rw [rep_int ra, rep_int rb]; exact ⟨_, _, rfl, rfl, PostV.int h⟩
theorem ob_mul {G : Kx} : OB G (fun x y H Q => rI CMulW (fun i j => .int (i * j)) x y H Q ∨ (rRep x y H Q ∨ rRepT G.K x y H Q)) dMul := by
  intro S H a b va vb Q hs ra rb h
  cases a <;> cases b <;> try exact h.elim
  · obtain ⟨hc', h⟩ := postV_chk h
    have hc := mulFit_iff.mp hc'
    rw [rep_int ra, rep_int rb]; exact .inl ⟨_, _, rfl, rfl, hc, PostV.int h⟩
  · obtain ⟨⟨h1, h2, h3, h4⟩, h⟩ := postV_tt h
    obtain ⟨p, ps, rfl, p1, p2⟩ := rep_tup ra
    rw [rep_int rb]
    exact .inr (.inr ⟨p, _, ps, rfl, rfl, hid_sqT p1, (fun z => by rw [← p2.len, z] at h1; cases h1), h2, h3, by rw [p2.len]; exact h4, PostV.newT hs h (p2.repl _)⟩)
  · obtain ⟨hc', h⟩ := postV_chk h
    obtain ⟨h1, h2, h3⟩ := repFit_iff.mp hc'
    obtain ⟨p, ps, rfl, p1, p2⟩ := rep_lst ra
    rw [rep_int rb]
    exact .inr (.inl ⟨p, _, ps, rfl, rfl, hid_lst p1, h1, h2, by rw [p2.len]; exact h3, PostV.newL h (p2.repl _)⟩)
theorem ob_fdv {G : Kx} : OB G (rI CDivW fun i j => .int (i / j)) dFdv := by
  intro S H a b va vb Q hs ra rb h
  cases a <;> cases b <;> try exact h.elim
  obtain ⟨hc', h⟩ := postV_chk h
  have hc := divFit_iff.mp hc'
  rw [rep_int ra, rep_int rb]; exact ⟨_, _, rfl, rfl, hc, PostV.int h⟩
theorem ob_mod {G : Kx} : OB G (rI (fun _ j => 0 < j) fun i j => .int (i % j)) dMod := by
  intro S H a b va vb Q hs ra rb h
  cases a <;> cases b <;> try exact h.elim
  obtain ⟨hc, h⟩ := postV_tt h
  rw [rep_int ra, rep_int rb]; exact ⟨_, _, rfl, rfl, hc, PostV.int h⟩
def dNeg : D → R Val
  | .int i => mk (.int (-i))
  | _ => .no
theorem ub_neg {G : Kx} : UB G (rU fun i => .int (-i)) dNeg := by
  intro S H a va Q hs ra h
  cases a <;> try exact h.elim
  rw [rep_int ra]; exact ⟨_, rfl, PostV.int h⟩

/-! ### comparison -/
mutual
def D.toP : D → PyData
  | .non => .none
  | .bl b => .bool b
  | .int i => .int i
  | .str z => .str z
  | .tup ds => .tuple (toPs ds)
  | .lst ds => .list (toPs ds)
  | .fz ds => .list (toPs ds)
  | .ty _ => .none
  | .cls _ => .none
  | .obj _ _ _ => .none
def toPs : List D → List PyData
  | [] => []
  | d :: ds => d.toP :: toPs ds
end
mutual
def D.plain : D → Bool
  | .tup ds => plains ds
  | .lst ds => plains ds
  | .fz ds => plains ds
  | .obj _ _ _ => false
  | .ty _ => false
  | .cls _ => false
  | _ => true
def plains : List D → Bool
  | [] => true
  | d :: ds => d.plain && plains ds
end
mutual
theorem rep_dp {G : Kx} {S : Addr → Prop} {H : Hp} : ∀ (d : D) (v : V), d.plain = true → Rep G (hid S H) d v → Dp G.K H v d.toP
  | .non, v, _, h => by rw [rep_non h]; unfold D.toP; exact .non
  | .bl b, v, _, h => by rw [rep_bl h]; unfold D.toP; exact .bl b
  | .int i, v, _, h => by rw [rep_int h]; unfold D.toP; exact .int i
  | .str z, v, _, h => by rw [rep_str h]; unfold D.toP; exact .str z
  | .tup ds, v, p, h => by
    obtain ⟨a, vs, rfl, h1, h2⟩ := rep_tup h
    unfold D.toP
    exact .tup (hid_sqT h1) (reps_dp ds vs (by unfold D.plain at p; exact p) h2)
  | .lst ds, v, p, h => by
    obtain ⟨a, vs, rfl, h1, h2⟩ := rep_lst h
    unfold D.toP
    exact .lst (sq_of (hid_lst h1)) (reps_dp ds vs (by unfold D.plain at p; exact p) h2)
  | .fz ds, v, p, h => by
    obtain ⟨a, vs, rfl, h1, h2⟩ := rep_fz h
    unfold D.toP
    exact .lst (hid_sqL h1) (reps_dp ds vs (by unfold D.plain at p; exact p) h2)
  | .obj _ _ _, v, p, h => by unfold D.plain at p; cases p
  | .ty _, v, p, h => by unfold D.plain at p; cases p
  | .cls _, v, p, h => by unfold D.plain at p; cases p
theorem reps_dp {G : Kx} {S : Addr → Prop} {H : Hp} : ∀ (ds : List D) (vs : List V), plains ds = true → Reps G (hid S H) ds vs → DpAll G.K H vs (toPs ds)
  | [], vs, _, h => by rw [reps_nil_inv h]; unfold toPs; exact .nil
  | d :: ds, vs, p, h => by
    obtain ⟨v, r, rfl, h1, h2⟩ := reps_cons_inv h
    unfold toPs
    unfold plains at p
    rw [Bool.and_eq_true] at p
    exact .cons (rep_dp d v p.1 h1) (reps_dp ds r p.2 h2)
end
def eqOk (a b : D) : Prop := a.plain = true ∧ b.plain = true ∧ SeqAt.shaped a.toP = true ∧ SeqAt.shaped b.toP = true
instance (a b : D) : Decidable (eqOk a b) := by unfold eqOk; infer_instance
def eqD (a b : D) : Bool := PyData.eqv a.toP b.toP
def dEq (a b : D) : R Val := match a, b with
  | .int i, .int j => mk (.bl (decide (i = j)))
  | _, _ => tt (eqOk a b) (mk (.bl (eqD a b)))
def dNe (a b : D) : R Val := match a, b with
  | .int i, .int j => mk (.bl (!decide (i = j)))
  | _, _ => tt (eqOk a b) (mk (.bl (!eqD a b)))
theorem int_inj {i j : Int} : decide (V.int i = V.int j) = decide (i = j) := by
  by_cases h : i = j
  · subst h; simp
  · have : V.int i ≠ V.int j := fun e => h (by injection e)
    simp [h, this]
theorem ob_eq {G : Kx} : OB G (fun x y H Q => rEq x y H Q ∨ rEqD G.K x y H Q) dEq := by
  intro S H a b va vb Q hs ra rb h
  unfold dEq at h
  split at h
  · rw [rep_int ra, rep_int rb]; refine .inl ⟨rfl, ?_⟩; rw [int_inj]; exact PostV.bl h
  · obtain ⟨⟨h1, h2, h3, h4⟩, h⟩ := postV_tt h
    exact .inr ⟨a.toP, b.toP, rep_dp a va h1 ra, rep_dp b vb h2 rb, h3, h4, PostV.bl h⟩
theorem ob_ne {G : Kx} : OB G (fun x y H Q => rNe x y H Q ∨ rNeD G.K x y H Q) dNe := by
  intro S H a b va vb Q hs ra rb h
  unfold dNe at h
  split at h
  · rw [rep_int ra, rep_int rb]; refine .inl ⟨rfl, ?_⟩; rw [int_inj]; exact PostV.bl h
  · obtain ⟨⟨h1, h2, h3, h4⟩, h⟩ := postV_tt h
    exact .inr ⟨a.toP, b.toP, rep_dp a va h1 ra, rep_dp b vb h2 rb, h3, h4, PostV.bl h⟩
def dLt : D → D → R Val
  | .int i, .int j => mk (.bl (decide (i < j)))
  | _, _ => .no
def dLe : D → D → R Val
  | .int i, .int j => mk (.bl (decide (i ≤ j)))
  | _, _ => .no
def dGt : D → D → R Val
  | .int i, .int j => mk (.bl (decide (j < i)))
  | _, _ => .no
def dGe : D → D → R Val
  | .int i, .int j => mk (.bl (decide (j ≤ i)))
  | _, _ => .no
theorem ob_lt {G : Kx} : OB G (rI0 fun i j => .bl (decide (i < j))) dLt := by
  intro S H a b va vb Q hs ra rb h
  cases a <;> cases b <;> try exact h.elim
  rw [rep_int ra, rep_int rb]; exact ⟨_, _, rfl, rfl, PostV.bl h⟩
theorem ob_le {G : Kx} : OB G (rI0 fun i j => .bl (decide (i ≤ j))) dLe := by
  intro S H a b va vb Q hs ra rb h
  cases a <;> cases b <;> try exact h.elim
  rw [rep_int ra, rep_int rb]; exact ⟨_, _, rfl, rfl, PostV.bl h⟩
theorem ob_gt {G : Kx} : OB G (rI0 fun i j => .bl (decide (j < i))) dGt := by
  intro S H a b va vb Q hs ra rb h
  cases a <;> cases b <;> try exact h.elim
  rw [rep_int ra, rep_int rb]; exact ⟨_, _, rfl, rfl, PostV.bl h⟩
theorem ob_ge {G : Kx} : OB G (rI0 fun i j => .bl (decide (j ≤ i))) dGe := by
  intro S H a b va vb Q hs ra rb h
  cases a <;> cases b <;> try exact h.elim
  rw [rep_int ra, rep_int rb]; exact ⟨_, _, rfl, rfl, PostV.bl h⟩
def D.isNon : D → Bool
  | .non => true
  | _ => false
theorem rep_isNon {G : Kx} {H : Hp} {d : D} {v : V} (h : Rep G H d v) : decide (v = .non) = d.isNon := by
  cases d with
  | non => rw [rep_non h]; rfl
  | bl b => rw [rep_bl h]; rfl
  | int i => rw [rep_int h]; rfl
  | str z => rw [rep_str h]; rfl
  | tup ds => obtain ⟨a, vs, rfl, _⟩ := rep_tup h; rfl
  | lst ds => obtain ⟨a, vs, rfl, _⟩ := rep_lst h; rfl
  | fz ds => obtain ⟨a, vs, rfl, _⟩ := rep_fz h; rfl
  | obj c ns ds => unfold Rep at h; obtain ⟨a, dx, vs, rfl, _⟩ := h; rfl
  | ty n => unfold Rep at h; rw [h]; rfl
  | cls n => unfold Rep at h; rw [h]; rfl
def dIsN (a b : D) : R Val := match b with
  | .non => mk (.bl a.isNon)
  | _ => .no
def dNotN (a b : D) : R Val := match b with
  | .non => mk (.bl (!a.isNon))
  | _ => .no
theorem ob_isN {G : Kx} : OB G (fun x y H Q => y = .non ∧ Q (.bl (decide (x = .non))) H) dIsN := by
  intro S H a b va vb Q hs ra rb h
  unfold dIsN at h
  split at h
  · rw [rep_non rb, rep_isNon ra]; exact ⟨rfl, PostV.bl h⟩
  · exact h.elim
theorem ob_notN {G : Kx} : OB G (fun x y H Q => y = .non ∧ Q (.bl (!decide (x = .non))) H) dNotN := by
  intro S H a b va vb Q hs ra rb h
  unfold dNotN at h
  split at h
  · rw [rep_non rb, rep_isNon ra]; exact ⟨rfl, PostV.bl h⟩
  · exact h.elim

/-! ### items, slices -/
def ofO : Option D → R Val
  | some d => mk d
  | none => .no
def dIx : D → D → R Val
  | .lst ds, .int i => ofO (atI ds i)
  | .fz ds, .int i => ofO (atI ds i)
  | .tup ds, .int i => ofO (atI ds i)
  | _, _ => .no
theorem atI_rep {G : Kx} {H : Hp} {ds : List D} {vs : List V} {i : Int} {d : D} (r : Reps G H ds vs) (h : atI ds i = some d) : ∃ v, atI vs i = some v ∧ Rep G H d v := by
  unfold atI at h ⊢
  rw [r.len]
  cases e : ixN ds.length i with
  | none => rw [e] at h; cases h
  | some j =>
    rw [e] at h
    exact r.at h
theorem ob_ix {G : Kx} : OB G (fun x y H Q => rIxL G.K x y H Q ∨ rIxT G.K x y H Q) dIx := by
  intro S H a b va vb Q hs ra rb h
  cases a <;> cases b <;> try exact h.elim
  · rename_i ds i
    obtain ⟨p, ps, rfl, p1, p2⟩ := rep_tup ra
    rw [rep_int rb]
    replace h : PostV G S H Q (ofO (atI ds i)) := h
    cases e : atI ds i with
    | none => rw [e] at h; exact h.elim
    | some d =>
      rw [e] at h
      obtain ⟨v, e1, rv⟩ := atI_rep p2 e
      exact .inr ⟨p, ps, i, v, rfl, rfl, hid_sqT p1, e1, PostV.old h rv⟩
  · rename_i ds i
    obtain ⟨p, ps, rfl, p1, p2⟩ := rep_lst ra
    rw [rep_int rb]
    replace h : PostV G S H Q (ofO (atI ds i)) := h
    cases e : atI ds i with
    | none => rw [e] at h; exact h.elim
    | some d =>
      rw [e] at h
      obtain ⟨v, e1, rv⟩ := atI_rep p2 e
      exact .inl ⟨p, ps, i, v, rfl, rfl, sq_of (hid_lst p1), e1, PostV.old h rv⟩
  · rename_i ds i
    obtain ⟨p, ps, rfl, p1, p2⟩ := rep_fz ra
    rw [rep_int rb]
    replace h : PostV G S H Q (ofO (atI ds i)) := h
    cases e : atI ds i with
    | none => rw [e] at h; exact h.elim
    | some d =>
      rw [e] at h
      obtain ⟨v, e1, rv⟩ := atI_rep p2 e
      exact .inl ⟨p, ps, i, v, rfl, rfl, hid_sqL p1, e1, PostV.old h rv⟩
def cutD (xs : List D) (lo hi : Option Int) : List D := (xs.drop (HT.sIx xs.length 0 lo)).take (HT.sIx xs.length xs.length hi - HT.sIx xs.length 0 lo)
theorem cut_rep {G : Kx} {H : Hp} {ds : List D} {vs : List V} {lo hi : Option Int} (r : Reps G H ds vs) : Reps G H (cutD ds lo hi) (cutV vs lo hi) := by
  unfold cutD cutV
  rw [r.len]
  exact (r.drop _).take _
def dSl (a : D) (lo hi : Option Int) : R Val := match a with
  | .lst ds => .ok (.fr (cutD ds lo hi))
  | .tup ds => mk (.tup (cutD ds lo hi))
  | _ => .no
def SB (G : Kx) (r : V → Option Int → Option Int → Hp → VK → Prop) (F : D → Option Int → Option Int → R Val) : Prop :=
  ∀ S H a va lo hi Q, (∀ p, S p → H p ≠ none) → Rep G (hid S H) a va → PostV G S H Q (F a lo hi) → r va lo hi H Q
theorem cut_all {xs : List D} {lo hi : Option Int} (h : HT.sIx xs.length 0 lo = 0 ∧ HT.sIx xs.length xs.length hi = xs.length) : cutD xs lo hi = xs := by
  unfold cutD
  rw [h.1, h.2]; simp
theorem sb_sl {G : Kx} : SB G (fun x lo hi H Q => rSlL G.K x lo hi H Q ∨ rSlA G.K x lo hi H Q) dSl := by
  intro S H a va lo hi Q hs ra h
  cases a <;> try exact h.elim
  · obtain ⟨p, ps, rfl, p1, p2⟩ := rep_tup ra
    refine .inr ⟨p, ps, rfl, hid_sqT p1, fun e => ?_, fun _ => PostV.newT hs h (cut_rep p2)⟩
    rw [p2.len] at e
    rename_i ds
    have e' := cut_all e
    replace h : PostV G S H Q (mk (.tup (cutD ds lo hi))) := h
    rw [e'] at h
    exact PostV.old h ra
  · obtain ⟨p, ps, rfl, p1, p2⟩ := rep_lst ra
    exact .inl ⟨p, ps, rfl, sq_of (hid_lst p1), PostV.newL h (cut_rep p2)⟩

/-! ### built-in functions -/
def dLen : List D → R Val
  | [.lst ds] => mk (.int ds.length)
  | [.fz ds] => mk (.int ds.length)
  | [.tup ds] => mk (.int ds.length)
  | _ => .no
theorem cb_len {G : Kx} : CB G (fun xs H Q => ∃ p ys, xs = [.ref p] ∧ (SqL G.K H p ys ∨ SqT G.K H p ys) ∧ Q (.int ys.length) H) dLen := by
  intro S H ds vs Q hs rs h
  unfold dLen at h
  split at h
  · obtain ⟨v, r, rfl, h1, h2⟩ := reps_cons_inv rs
    rw [reps_nil_inv h2]
    obtain ⟨p, ps, rfl, p1, p2⟩ := rep_lst h1
    refine ⟨p, ps, rfl, .inl (sq_of (hid_lst p1)), ?_⟩
    rw [p2.len]; exact PostV.int h
  · obtain ⟨v, r, rfl, h1, h2⟩ := reps_cons_inv rs
    rw [reps_nil_inv h2]
    obtain ⟨p, ps, rfl, p1, p2⟩ := rep_fz h1
    refine ⟨p, ps, rfl, .inl (hid_sqL p1), ?_⟩
    rw [p2.len]; exact PostV.int h
  · obtain ⟨v, r, rfl, h1, h2⟩ := reps_cons_inv rs
    rw [reps_nil_inv h2]
    obtain ⟨p, ps, rfl, p1, p2⟩ := rep_tup h1
    refine ⟨p, ps, rfl, .inr (hid_sqT p1), ?_⟩
    rw [p2.len]; exact PostV.int h
  · exact h.elim
def dInt : List D → R Val
  | [.int i] => mk (.int i)
  | [.bl k] => mk (.int (if k then 1 else 0))
  | _ => .no
theorem cb_int {G : Kx} : CB G (fun xs H Q => (∃ i, xs = [.int i] ∧ Q (.int i) H) ∨ ∃ k, xs = [.bl k] ∧ Q (.int (if k then 1 else 0)) H) dInt := by
  intro S H ds vs Q hs rs h
  unfold dInt at h
  split at h
  · obtain ⟨v, r, rfl, h1, h2⟩ := reps_cons_inv rs
    rw [reps_nil_inv h2, rep_int h1]
    exact .inl ⟨_, rfl, PostV.int h⟩
  · obtain ⟨v, r, rfl, h1, h2⟩ := reps_cons_inv rs
    rw [reps_nil_inv h2, rep_bl h1]
    exact .inr ⟨_, rfl, PostV.int h⟩
  · exact h.elim
def dTuple : List D → R Val
  | [.lst ds] => mk (.tup ds)
  | [.fz ds] => mk (.tup ds)
  | [.tup ds] => mk (.tup ds)
  | _ => .no
theorem cb_tuple {G : Kx} : CB G (fun xs H Q => ∃ p ys, xs = [.ref p] ∧ ((SqL G.K H p ys ∧ ∀ l, H l = none → Q (.ref l) (upd H l (.tup ys))) ∨ (SqT G.K H p ys ∧ Q (.ref p) H))) dTuple := by
  intro S H ds vs Q hs rs h
  unfold dTuple at h
  split at h
  · obtain ⟨v, r, rfl, h1, h2⟩ := reps_cons_inv rs
    rw [reps_nil_inv h2]
    obtain ⟨p, ps, rfl, p1, p2⟩ := rep_lst h1
    exact ⟨p, ps, rfl, .inl ⟨sq_of (hid_lst p1), PostV.newT hs h p2⟩⟩
  · obtain ⟨v, r, rfl, h1, h2⟩ := reps_cons_inv rs
    rw [reps_nil_inv h2]
    obtain ⟨p, ps, rfl, p1, p2⟩ := rep_fz h1
    exact ⟨p, ps, rfl, .inl ⟨hid_sqL p1, PostV.newT hs h p2⟩⟩
  · obtain ⟨v, r, rfl, h1, h2⟩ := reps_cons_inv rs
    rw [reps_nil_inv h2]
    have h1' := h1
    obtain ⟨p, ps, rfl, p1, p2⟩ := rep_tup h1
    exact ⟨p, ps, rfl, .inr ⟨hid_sqT p1, PostV.old h h1'⟩⟩
  · exact h.elim
def dList : List D → R Val
  | [.lst ds] => .ok (.fr ds)
  | [.fz ds] => .ok (.fr ds)
  | [.tup ds] => .ok (.fr ds)
  | _ => .no
theorem cb_list {G : Kx} : CB G (fun xs H Q => ∃ p ys, xs = [.ref p] ∧ (SqL G.K H p ys ∨ SqT G.K H p ys) ∧ ∀ l, H l = none → Q (.ref l) (upd H l (.lst ys))) dList := by
  intro S H ds vs Q hs rs h
  unfold dList at h
  split at h
  · obtain ⟨v, r, rfl, h1, h2⟩ := reps_cons_inv rs
    rw [reps_nil_inv h2]
    obtain ⟨p, ps, rfl, p1, p2⟩ := rep_lst h1
    exact ⟨p, ps, rfl, .inl (sq_of (hid_lst p1)), PostV.newL h p2⟩
  · obtain ⟨v, r, rfl, h1, h2⟩ := reps_cons_inv rs
    rw [reps_nil_inv h2]
    obtain ⟨p, ps, rfl, p1, p2⟩ := rep_fz h1
    exact ⟨p, ps, rfl, .inl (hid_sqL p1), PostV.newL h p2⟩
  · obtain ⟨v, r, rfl, h1, h2⟩ := reps_cons_inv rs
    rw [reps_nil_inv h2]
    obtain ⟨p, ps, rfl, p1, p2⟩ := rep_tup h1
    exact ⟨p, ps, rfl, .inr (hid_sqT p1), PostV.newL h p2⟩
  · exact h.elim
/-- the ints of a list of ints -/
def intsOf : List D → Option (List Int)
  | [] => some []
  | .int i :: ds => (intsOf ds).map (i :: ·)
  | _ => none
theorem intsOf_eq : ∀ {ds : List D} {ns : List Int}, intsOf ds = some ns → ds = ns.map D.int
  | [], ns, h => by cases h; rfl
  | .int i :: ds, ns, h => by
    unfold intsOf at h
    cases e : intsOf ds with
    | none => rw [e] at h; cases h
    | some ms => rw [e] at h; cases h; rw [intsOf_eq e]; rfl
  | .non :: ds, ns, h => by cases h
  | .bl _ :: ds, ns, h => by cases h
  | .str _ :: ds, ns, h => by cases h
  | .tup _ :: ds, ns, h => by cases h
  | .lst _ :: ds, ns, h => by cases h
  | .fz _ :: ds, ns, h => by cases h
  | .obj _ _ _ :: ds, ns, h => by cases h
  | .ty _ :: ds, ns, h => by cases h
  | .cls _ :: ds, ns, h => by cases h
def boolsOf : List D → Option (List Bool)
  | [] => some []
  | .bl i :: ds => (boolsOf ds).map (i :: ·)
  | _ => none
theorem boolsOf_eq : ∀ {ds : List D} {ns : List Bool}, boolsOf ds = some ns → ds = ns.map D.bl
  | [], ns, h => by cases h; rfl
  | .bl i :: ds, ns, h => by
    unfold boolsOf at h
    cases e : boolsOf ds with
    | none => rw [e] at h; cases h
    | some ms => rw [e] at h; cases h; rw [boolsOf_eq e]; rfl
  | .non :: ds, ns, h => by cases h
  | .int _ :: ds, ns, h => by cases h
  | .str _ :: ds, ns, h => by cases h
  | .tup _ :: ds, ns, h => by cases h
  | .lst _ :: ds, ns, h => by cases h
  | .fz _ :: ds, ns, h => by cases h
  | .obj _ _ _ :: ds, ns, h => by cases h
  | .ty _ :: ds, ns, h => by cases h
  | .cls _ :: ds, ns, h => by cases h
theorem intsOf_map (ns : List Int) : intsOf (ns.map D.int) = some ns := by
  induction ns with
  | nil => rfl
  | cons n ns ih => show (intsOf (ns.map D.int)).map (n :: ·) = _; rw [ih]; rfl
theorem boolsOf_map (ns : List Bool) : boolsOf (ns.map D.bl) = some ns := by
  induction ns with
  | nil => rfl
  | cons n ns ih => show (boolsOf (ns.map D.bl)).map (n :: ·) = _; rw [ih]; rfl
def onInts (f : List Int → R Val) : List D → R Val
  | [.lst ds] => match intsOf ds with | some ns => f ns | none => .no
  | _ => .no
def onBools (f : List Bool → R Val) : List D → R Val
  | [.lst ds] => match boolsOf ds with | some ns => f ns | none => .no
  | _ => .no
theorem onInts_inv {G : Kx} {S : Addr → Prop} {H : Hp} {Q : VK} {f : List Int → R Val} {ds : List D} {vs : List V} (rs : Reps G (hid S H) ds vs) (h : PostV G S H Q (onInts f ds)) :
    ∃ (a : Addr) (ns : List Int), vs = [V.ref a] ∧ SqL G.K H a (ns.map V.int) ∧ PostV G S H Q (f ns) := by
  unfold onInts at h
  split at h
  · obtain ⟨v, r, rfl, h1, h2⟩ := reps_cons_inv rs
    rw [reps_nil_inv h2]
    obtain ⟨p, ps, rfl, p1, p2⟩ := rep_lst h1
    split at h
    · rename_i ns e
      rw [intsOf_eq e] at p2
      rw [Reps.ints p2] at p1
      exact ⟨p, ns, rfl, sq_of (hid_lst p1), h⟩
    · exact h.elim
  · exact h.elim
theorem onBools_inv {G : Kx} {S : Addr → Prop} {H : Hp} {Q : VK} {f : List Bool → R Val} {ds : List D} {vs : List V} (rs : Reps G (hid S H) ds vs) (h : PostV G S H Q (onBools f ds)) :
    ∃ (a : Addr) (ns : List Bool), vs = [V.ref a] ∧ SqL G.K H a (ns.map V.bl) ∧ PostV G S H Q (f ns) := by
  unfold onBools at h
  split at h
  · obtain ⟨v, r, rfl, h1, h2⟩ := reps_cons_inv rs
    rw [reps_nil_inv h2]
    obtain ⟨p, ps, rfl, p1, p2⟩ := rep_lst h1
    split at h
    · rename_i ns e
      rw [boolsOf_eq e] at p2
      rw [Reps.bools p2] at p1
      exact ⟨p, ns, rfl, sq_of (hid_lst p1), h⟩
    · exact h.elim
  · exact h.elim
def dSum : List D → R Val := onInts fun ns => mk (.int ns.sum)
def dAll : List D → R Val := onBools fun bs => mk (.bl (bs.all id))
def dAny : List D → R Val := onBools fun bs => mk (.bl (bs.any id))
theorem cb_sum {G : Kx} : CB G (rSum G.K) dSum := by
  intro S H ds vs Q hs rs h
  obtain ⟨a, ns, e, q, h⟩ := onInts_inv rs h
  exact ⟨a, ns, e, q, PostV.int h⟩
theorem cb_all {G : Kx} : CB G (rAll G.K) dAll := by
  intro S H ds vs Q hs rs h
  obtain ⟨a, ns, e, q, h⟩ := onBools_inv rs h
  exact ⟨a, ns, e, q, PostV.bl h⟩
theorem cb_any {G : Kx} : CB G (rAny G.K) dAny := by
  intro S H ds vs Q hs rs h
  obtain ⟨a, ns, e, q, h⟩ := onBools_inv rs h
  exact ⟨a, ns, e, q, PostV.bl h⟩
def maxL : List Int → Int
  | [] => 0
  | [x] => x
  | x :: xs => max x (maxL xs)
def minL : List Int → Int
  | [] => 0
  | [x] => x
  | x :: xs => min x (minL xs)
theorem maxL_is : ∀ {ns : List Int} {m : Int}, m ∈ ns → (∀ y, y ∈ ns → y ≤ m) → m = maxL ns
  | [], m, h, _ => by cases h
  | [x], m, h, _ => by simp at h; exact h
  | x :: y :: r, m, h, k => by
    show m = max x (maxL (y :: r))
    have kx := k x (by simp)
    by_cases hm : m ∈ y :: r
    · rw [← maxL_is hm fun z hz => k z (List.mem_cons_of_mem _ hz)]; omega
    · have e : m = x := by
        rcases List.mem_cons.mp h with e | e
        · exact e
        · exact absurd e hm
      have g : maxL (y :: r) ∈ y :: r := by
        clear hm h k kx e
        induction r generalizing y with
        | nil => simp [maxL]
        | cons z r ih =>
          show max y (maxL (z :: r)) ∈ _
          rcases Int.le_total y (maxL (z :: r)) with q | q
          · rw [Int.max_eq_right q]; exact List.mem_cons_of_mem _ (ih z)
          · rw [Int.max_eq_left q]; simp
      have := k _ (List.mem_cons_of_mem x g)
      omega
theorem minL_is : ∀ {ns : List Int} {m : Int}, m ∈ ns → (∀ y, y ∈ ns → m ≤ y) → m = minL ns
  | [], m, h, _ => by cases h
  | [x], m, h, _ => by simp at h; exact h
  | x :: y :: r, m, h, k => by
    show m = min x (minL (y :: r))
    have kx := k x (by simp)
    by_cases hm : m ∈ y :: r
    · rw [← minL_is hm fun z hz => k z (List.mem_cons_of_mem _ hz)]; omega
    · have e : m = x := by
        rcases List.mem_cons.mp h with e | e
        · exact e
        · exact absurd e hm
      have g : minL (y :: r) ∈ y :: r := by
        clear hm h k kx e
        induction r generalizing y with
        | nil => simp [minL]
        | cons z r ih =>
          show min y (minL (z :: r)) ∈ _
          rcases Int.le_total y (minL (z :: r)) with q | q
          · rw [Int.min_eq_left q]; simp
          · rw [Int.min_eq_right q]; exact List.mem_cons_of_mem _ (ih z)
      have := k _ (List.mem_cons_of_mem x g)
      omega
def dMax : List D → R Val := onInts fun ns => match ns with | [] => .no | n :: r => mk (.int (maxL (n :: r)))
def dMin : List D → R Val := onInts fun ns => match ns with | [] => .no | n :: r => mk (.int (minL (n :: r)))
theorem cb_max {G : Kx} : CB G (rMax G.K) dMax := by
  intro S H ds vs Q hs rs h
  obtain ⟨a, ns, e, q, h⟩ := onInts_inv rs h
  cases ns with
  | nil => exact h.elim
  | cons n r => exact ⟨a, n :: r, e, q, by simp, fun m hm hk => by rw [maxL_is hm hk]; exact PostV.int h⟩
theorem cb_min {G : Kx} : CB G (rMin G.K) dMin := by
  intro S H ds vs Q hs rs h
  obtain ⟨a, ns, e, q, h⟩ := onInts_inv rs h
  cases ns with
  | nil => exact h.elim
  | cons n r => exact ⟨a, n :: r, e, q, by simp, fun m hm hk => by rw [minL_is hm hk]; exact PostV.int h⟩
end Dn
namespace Dn
open PySem PySem.Spec PyProof.Rows L2 Evl

def R.vl : R Val → R Val
  | .ok v => .ok v
  | _ => .no
theorem PostE.vl {G : Kx} {S : Addr → Prop} {H : Hp} {W : Value → Option Addr → Hp → Prop} {Q : VK} {r : R Val} (h : PostE G S H W Q r.vl) : PostV G S H Q r := by
  cases r with
  | ok v => exact h
  | ex c d => exact h
  | no => exact h

section
variable {X : Cx} {G : Kx} {W : WX}

/-! ## expressions -/
def eVar (i : Nat) : En → R Val := fun ρ => match slt ρ i with
  | some (.sh d) => .ok (.sh d)
  | _ => .no
theorem d_var (i : Nat) {x : Str} {pos : Pos} (h : PE X (.Name x pos) (tVar i)) : PE X (.Name x pos) (tE G W (eVar i)) := h.imp fun σ H Q ⟨Se, He, ρ, m, p⟩ => by
  unfold eVar at p
  rw [slt_eq] at p
  split at p
  · rename_i d e
    obtain ⟨v, e1, r⟩ := m.sh i d e
    exact ⟨v, e1, p v H (Ex.refl H) r⟩
  · exact p.elim
def eC (d : D) : En → R Val := fun _ => .ok (.sh d)
theorem d_int {i : Int} {j : Nat} {pos : Pos} : PE X (.Constant (.int i) j pos) (tE G W (eC (.int i))) := pe_int.imp fun σ H Q ⟨Se, He, ρ, m, p⟩ => p _ H (Ex.refl H) (by show Rep _ _ _ _; unfold Rep; rfl)
theorem d_bl {i : Bool} {j : Nat} {pos : Pos} : PE X (.Constant (.bool i) j pos) (tE G W (eC (.bl i))) := pe_bl.imp fun σ H Q ⟨Se, He, ρ, m, p⟩ => p _ H (Ex.refl H) (by show Rep _ _ _ _; unfold Rep; rfl)
theorem d_non {j : Nat} {pos : Pos} : PE X (.Constant .none j pos) (tE G W (eC .non)) := pe_non.imp fun σ H Q ⟨Se, He, ρ, m, p⟩ => p _ H (Ex.refl H) (by show Rep _ _ _ _; unfold Rep; rfl)
theorem d_str {i : Str} {j : Nat} {pos : Pos} : PE X (.Constant (.str i) j pos) (tE G W (eC (.str i))) := pe_str.imp fun σ H Q ⟨Se, He, ρ, m, p⟩ => p _ H (Ex.refl H) (by show Rep _ _ _ _; unfold Rep; rfl)
theorem d_gint {x : Str} {i : Int} {pos : Pos} (h : PE X (.Name x pos) (tC (.int i))) : PE X (.Name x pos) (tE G W (eC (.int i))) := h.imp fun σ H Q ⟨Se, He, ρ, m, p⟩ => p _ H (Ex.refl H) (by show Rep _ _ _ _; unfold Rep; rfl)

def eOp (F : D → D → R Val) (f g : En → R Val) : En → R Val := fun ρ => (f ρ).bind fun a => (g ρ).bind fun b => (F a.d b.d).vl
theorem op_imp {r : R2} {F : D → D → R Val} {f g : En → R Val} (hb : OB G r F) {σ : L2.St} {H : Hp} {Q : VK} (h : tE G W (eOp F f g) σ H Q) : tOp r (tE G W f) (tE G W g) σ H Q := by
  obtain ⟨Se, He, ρ, m, p⟩ := h
  refine ⟨Se, He, ρ, m, PostE.bindE p fun va x H1 e1 r1 p1 => ⟨Se, He, ρ, m.mono e1, PostE.bindE p1 fun vb y H2 e2 r2 p2 => ?_⟩⟩
  have m2 := (m.mono e1).mono e2
  exact hb _ H2 va.d vb.d x y Q (fun _ z => m2.dom z) (VRep.rep (r1.mono e2) fun _ z => m.dom z) (VRep.rep r2 fun _ z => (m.mono e1).dom z) (PostE.vl p2)
variable {a b c e : Expr} {pos : Pos} {f g h : En → R Val}
theorem d_op {op : Operator} {r : R2} {F : D → D → R Val} (ho : OpR X (binaryOp op) r) (hb : OB G r F) (h1 : PE X a (tE G W f)) (h2 : PE X b (tE G W g)) : PE X (.BinOp a op b pos) (tE G W (eOp F f g)) :=
  (pe_op ho h1 h2).imp fun _ _ _ q => op_imp hb q
theorem d_cmp {op : CmpOp} {r : R2} {F : D → D → R Val} (ho : OpR X (compareOp op) r) (hb : OB G r F) (h1 : PE X a (tE G W f)) (h2 : PE X b (tE G W g)) (hm : behindInMarks op b = false := by rfl) :
    PE X (.Compare a [op] [b] pos) (tE G W (eOp F f g)) := (pe_cmpR ho h1 h2 hm).imp fun _ _ _ q => op_imp hb q
def eUn (F : D → R Val) (f : En → R Val) : En → R Val := fun ρ => (f ρ).bind fun a => (F a.d).vl
theorem d_un {op : UnaryOp} {r : V → Hp → VK → Prop} {F : D → R Val} (ho : UnR X (unaryOp op) r) (hb : UB G r F) (h1 : PE X a (tE G W f)) : PE X (.UnaryOp op a pos) (tE G W (eUn F f)) :=
  (pe_un ho h1).imp fun σ H Q ⟨Se, He, ρ, m, p⟩ => ⟨Se, He, ρ, m, PostE.bindE p fun va x H1 e1 r1 p1 => hb _ H1 va.d x Q (fun _ z => (m.mono e1).dom z) (r1.rep fun _ z => m.dom z) (PostE.vl p1)⟩

def asB : Val → R Bool
  | .sh (.bl b) => .ok b
  | _ => .no
def eTest (f : En → R Val) : En → R Bool := fun ρ => (f ρ).bind asB
theorem vrep_bl {G : Kx} {S : Addr → Prop} {H H1 : Hp} {v : V} {b : Bool} (r : VRep G S H H1 v (.sh (.bl b))) : v = .bl b := rep_bl (G := G) (H := hid S H1) r
theorem vrep_int {G : Kx} {S : Addr → Prop} {H H1 : Hp} {v : V} {b : Int} (r : VRep G S H H1 v (.sh (.int b))) : v = .int b := rep_int (G := G) (H := hid S H1) r
theorem asB_bl {S : Addr → Prop} {H H1 : Hp} {Wp : Value → Option Addr → Hp → Prop} {Q : Bool → Hp → Prop} {val : Val} {v : V} (r : VRep G S H H1 v val) (p : PostT G S H1 Wp Q (asB val)) : ∃ k, v = .bl k ∧ Q k H1 := by
  unfold asB at p
  split at p
  · exact ⟨_, vrep_bl r, p H1 (Ex.refl H1)⟩
  · exact p.elim
theorem test_imp {σ : L2.St} {H : Hp} {Q : Bool → Hp → Prop} (h : tT G W (eTest f) σ H Q) : tE G W f σ H fun x H1 => ∃ k, x = .bl k ∧ Q k H1 := by
  obtain ⟨Se, He, ρ, m, p⟩ := h
  exact ⟨Se, He, ρ, m, PostT.bindE p fun val v H1 e1 r1 p1 => asB_bl r1 p1⟩
theorem d_tval (h1 : PE X e (tE G W f)) (he : ∀ whole, isTrue e X.env whole = (do let v ← whole; standAt e.pos; holding [v] (truthy v)) := by intro _; rfl) : PT X e (tT G W (eTest f)) :=
  (pt_val h1 he).imp fun _ _ _ q => test_imp q
theorem tOp_mono {r : R2} {ta tb : TE} {σ : L2.St} {H : Hp} {Q : VK} (h : tOp r ta tb σ H Q) : tOp r ta tb σ H Q := h
theorem d_tcmp {op : CmpOp} {r : R2} {F : D → D → R Val} (ho : OpR X (compareOp op) r) (hb : OB G r F) (h1 : PE X a (tE G W f)) (h2 : PE X b (tE G W g)) (hm : behindInMarks op b = false := by rfl) :
    PT X (.Compare a [op] [b] pos) (tT G W (eTest (eOp F f g))) :=
  (pt_cmpR ho h1 h2 hm).imp fun σ H Q q => op_imp hb (test_imp q)

def eChain (F F' : D → D → R Val) (f g h : En → R Val) : En → R Val := fun ρ => (f ρ).bind fun a => (g ρ).bind fun b => ((F a.d b.d).vl).bind fun z => (asB z).bind fun k => if k = true then (h ρ).bind fun c => (F' b.d c.d).vl else mk (.bl false)
theorem PostV.bind {S : Addr → Prop} {H : Hp} {Wp : Value → Option Addr → Hp → Prop} {Q Q' : VK} {r : R Val} {k : Val → R Val} (h : PostE G S H Wp Q (r.vl.bind k)) (hk : ∀ val v H', Ex H H' → VRep G S H H' v val → PostE G S H' Wp Q (k val) → Q' v H') : PostV G S H Q' r := by
  cases r with
  | ok val => exact fun v H' e vr => hk val v H' e vr (PostE.mono (r := k val) h e)
  | ex c d => exact h.elim
  | no => exact h.elim
theorem PostE.bindB {S : Addr → Prop} {H H1 : Hp} {Wp : Value → Option Addr → Hp → Prop} {Q : VK} {val : Val} {v : V} {k : Bool → R Val} (r : VRep G S H H1 v val) (h : PostE G S H1 Wp Q ((asB val).bind k)) : ∃ b, v = .bl b ∧ PostE G S H1 Wp Q (k b) := by
  unfold asB at h
  split at h
  · exact ⟨_, vrep_bl r, h⟩
  · exact h.elim
theorem chain_imp {r r' : R2} {F F' : D → D → R Val} (hb : OB G r F) (hb' : OB G r' F') {σ : L2.St} {H : Hp} {Q : VK} (q : tE G W (eChain F F' f g h) σ H Q) : tChain r r' (tE G W f) (tE G W g) (tE G W h) σ H Q := by
  obtain ⟨Se, He, ρ, m, p⟩ := q
  refine ⟨Se, He, ρ, m, PostE.bindE p fun va x H1 e1 r1 p1 => ⟨Se, He, ρ, m.mono e1, PostE.bindE p1 fun vb y H2 e2 r2 p2 => ?_⟩⟩
  have m2 := (m.mono e1).mono e2
  refine hb _ H2 va.d vb.d x y _ (fun _ z => m2.dom z) (VRep.rep (r1.mono e2) fun _ z => m.dom z) (VRep.rep r2 fun _ z => (m.mono e1).dom z) (PostV.bind p2 fun vz z H3 e3 r3 p3 => ?_)
  obtain ⟨k, rfl, p3⟩ := PostE.bindB r3 p3
  refine ⟨k, rfl, ?_⟩
  cases k with
  | true =>
    rw [if_pos rfl] at p3 ⊢
    have m3 := m2.mono e3
    refine ⟨Se, He, ρ, m3, PostE.bindE p3 fun vc w H4 e4 r4 p4 => ?_⟩
    exact hb' _ H4 vb.d vc.d y w Q (fun _ z => (m3.mono e4).dom z) (VRep.rep ((r2.mono e3).mono e4) fun _ z => (m.mono e1).dom z) (VRep.rep r4 fun _ z => m3.dom z) (PostE.vl p4)
  | false =>
    rw [if_neg Bool.false_ne_true] at p3 ⊢
    exact p3 _ H3 (Ex.refl H3) (by show Rep _ _ _ _; unfold Rep; rfl)
theorem d_chain {op op' : CmpOp} {r r' : R2} {F F' : D → D → R Val} (ho : OpR X (compareOp op) r) (hb : OB G r F) (ho' : OpR X (compareOp op') r') (hb' : OB G r' F') (h1 : PE X a (tE G W f)) (h2 : PE X b (tE G W g)) (h3 : PE X c (tE G W h))
    (hm : lastMarks [op, op'] [b, c] = false := by with_unfolding_all rfl) : PE X (.Compare a [op, op'] [b, c] pos) (tE G W (eChain F F' f g h)) := (pe_chain ho ho' h1 h2 h3 hm).imp fun _ _ _ q => chain_imp hb hb' q
theorem d_tchain {op op' : CmpOp} {r r' : R2} {F F' : D → D → R Val} (ho : OpR X (compareOp op) r) (hb : OB G r F) (ho' : OpR X (compareOp op') r') (hb' : OB G r' F') (h1 : PE X a (tE G W f)) (h2 : PE X b (tE G W g)) (h3 : PE X c (tE G W h))
    (hm : lastMarks [op, op'] [b, c] = false := by with_unfolding_all rfl) : PT X (.Compare a [op, op'] [b, c] pos) (tT G W (eTest (eChain F F' f g h))) := (pt_chain ho ho' h1 h2 h3 hm).imp fun _ _ _ q => chain_imp hb hb' (test_imp q)

/-! ### and, or, not, if -/
def eAnd (f g : En → R Val) : En → R Val := fun ρ => (f ρ).bind fun v => (asB v).bind fun k => if k = true then g ρ else mk (.bl false)
def eOr (f g : En → R Val) : En → R Val := fun ρ => (f ρ).bind fun v => (asB v).bind fun k => if k = true then mk (.bl true) else g ρ
def eNot (f : En → R Val) : En → R Val := fun ρ => (f ρ).bind fun v => (asB v).bind fun k => mk (.bl (!k))
variable {rest : List Expr}
theorem d_one {op : BoolOp} (h1 : PE X a (tE G W f)) : PE X (.BoolOp op [a] pos) (tE G W f) := pe_one h1
theorem d_and (h1 : PE X a (tE G W f)) (h2 : PE X (.BoolOp .And (b :: rest) pos) (tE G W g)) : PE X (.BoolOp .And (a :: b :: rest) pos) (tE G W (eAnd f g)) :=
  (pe_and h1 h2).imp fun σ H Q ⟨Se, He, ρ, m, p⟩ => ⟨Se, He, ρ, m, PostE.bindE p fun va x H1 e1 r1 p1 => by
    obtain ⟨k, rfl, p2⟩ := PostE.bindB r1 p1
    refine ⟨k, rfl, ?_⟩
    cases k with
    | true => rw [if_pos rfl] at p2 ⊢; exact ⟨Se, He, ρ, m.mono e1, p2⟩
    | false => rw [if_neg Bool.false_ne_true] at p2 ⊢; exact p2 _ H1 (Ex.refl H1) (by show Rep _ _ _ _; unfold Rep; rfl)⟩
theorem d_or (h1 : PE X a (tE G W f)) (h2 : PE X (.BoolOp .Or (b :: rest) pos) (tE G W g)) : PE X (.BoolOp .Or (a :: b :: rest) pos) (tE G W (eOr f g)) :=
  (pe_or h1 h2).imp fun σ H Q ⟨Se, He, ρ, m, p⟩ => ⟨Se, He, ρ, m, PostE.bindE p fun va x H1 e1 r1 p1 => by
    obtain ⟨k, rfl, p2⟩ := PostE.bindB r1 p1
    refine ⟨k, rfl, ?_⟩
    cases k with
    | true => rw [if_pos rfl] at p2 ⊢; exact p2 _ H1 (Ex.refl H1) (by show Rep _ _ _ _; unfold Rep; rfl)
    | false => rw [if_neg Bool.false_ne_true] at p2 ⊢; exact ⟨Se, He, ρ, m.mono e1, p2⟩⟩
theorem d_not (h1 : PE X a (tE G W f)) : PE X (.UnaryOp .Not a pos) (tE G W (eNot f)) :=
  (pe_not h1).imp fun σ H Q ⟨Se, He, ρ, m, p⟩ => ⟨Se, He, ρ, m, PostE.bindE p fun va x H1 e1 r1 p1 => by
    obtain ⟨k, rfl, p2⟩ := PostE.bindB r1 p1
    exact ⟨k, rfl, p2 _ H1 (Ex.refl H1) (by show Rep _ _ _ _; unfold Rep; rfl)⟩⟩
variable {t u : En → R Bool}
def tAndD (t u : En → R Bool) : En → R Bool := fun ρ => (t ρ).bind fun k => if k = true then u ρ else .ok false
def tOrD (t u : En → R Bool) : En → R Bool := fun ρ => (t ρ).bind fun k => if k = true then .ok true else u ρ
def tNotD (t : En → R Bool) : En → R Bool := fun ρ => (t ρ).bind fun k => .ok (!k)
theorem d_wand1 (h1 : PT X a (tT G W t)) : PW X (.BoolOp .And [a] pos) (tT G W t) := pw_and1 h1
theorem d_wor1 (h1 : PT X a (tT G W t)) : PW X (.BoolOp .Or [a] pos) (tT G W t) := pw_or1 h1
theorem d_wand (h1 : PT X a (tT G W t)) (h2 : PW X (.BoolOp .And (b :: rest) pos) (tT G W u)) : PW X (.BoolOp .And (a :: b :: rest) pos) (tT G W (tAndD t u)) :=
  (pw_and h1 h2).imp fun σ H Q ⟨Se, He, ρ, m, p⟩ => ⟨Se, He, ρ, m, PostT.bindT p fun k H1 e1 p1 => by
    cases k with
    | true => rw [if_pos rfl] at p1 ⊢; exact ⟨Se, He, ρ, m.mono e1, p1⟩
    | false => rw [if_neg Bool.false_ne_true] at p1 ⊢; exact p1 H1 (Ex.refl H1)⟩
theorem d_wor (h1 : PT X a (tT G W t)) (h2 : PW X (.BoolOp .Or (b :: rest) pos) (tT G W u)) : PW X (.BoolOp .Or (a :: b :: rest) pos) (tT G W (tOrD t u)) :=
  (pw_or h1 h2).imp fun σ H Q ⟨Se, He, ρ, m, p⟩ => ⟨Se, He, ρ, m, PostT.bindT p fun k H1 e1 p1 => by
    cases k with
    | true => rw [if_pos rfl] at p1 ⊢; exact p1 H1 (Ex.refl H1)
    | false => rw [if_neg Bool.false_ne_true] at p1 ⊢; exact ⟨Se, He, ρ, m.mono e1, p1⟩⟩
theorem d_tnot (h1 : PT X a (tT G W t)) : PT X (.UnaryOp .Not a pos) (tT G W (tNotD t)) :=
  (pt_not h1).imp fun σ H Q ⟨Se, He, ρ, m, p⟩ => ⟨Se, He, ρ, m, PostT.bindT p fun k H1 e1 p1 => p1 H1 (Ex.refl H1)⟩
def eIf (t : En → R Bool) (f g : En → R Val) : En → R Val := fun ρ => (t ρ).bind fun k => if k = true then f ρ else g ρ
theorem d_ifExp (h0 : PT X c (tT G W t)) (h1 : PE X a (tE G W f)) (h2 : PE X b (tE G W g)) : PE X (.IfExp c a b pos) (tE G W (eIf t f g)) :=
  (pe_ifExp h0 h1 h2).imp fun σ H Q ⟨Se, He, ρ, m, p⟩ => ⟨Se, He, ρ, m, PostE.bindT p fun k H1 e1 p1 => by
    cases k with
    | true => rw [if_pos rfl] at p1 ⊢; exact ⟨Se, He, ρ, m.mono e1, p1⟩
    | false => rw [if_neg Bool.false_ne_true] at p1 ⊢; exact ⟨Se, He, ρ, m.mono e1, p1⟩⟩

/-! ### arguments, displays, calls -/
variable {es : List Expr} {fs : En → R (List D)}
def aNil : En → R (List D) := fun _ => .ok []
def aCons (f : En → R Val) (fs : En → R (List D)) : En → R (List D) := fun ρ => (f ρ).bind fun a => (fs ρ).bind fun ds => .ok (a.d :: ds)
def itemsOf : D → R (List D)
  | .tup ds => .ok ds
  | .lst ds => .ok ds
  | .fz ds => .ok ds
  | _ => .no
def aStar (f : En → R Val) (fs : En → R (List D)) : En → R (List D) := fun ρ => (f ρ).bind fun a => (itemsOf a.d).bind fun xs => (fs ρ).bind fun ds => .ok (xs ++ ds)
theorem d_nil : PA X [] (tA G W aNil) := pa_nil.imp fun σ H Q ⟨Se, He, ρ, m, p⟩ => p [] H (Ex.refl H) reps_nil
theorem d_cons (h1 : PE X e (tE G W f)) (h2 : PA X es (tA G W fs)) (hs : starEach (e :: es) X.env = (false, eval e X.env) :: starEach es X.env := by rfl) : PA X (e :: es) (tA G W (aCons f fs)) :=
  (pa_cons h1 h2 hs).imp fun σ H Q ⟨Se, He, ρ, m, p⟩ => ⟨Se, He, ρ, m, PostA.bindE p fun va x H1 e1 r1 p1 => ⟨Se, He, ρ, m.mono e1, PostA.bindA p1 fun ds vs H2 e2 r2 p2 =>
    p2 (x :: vs) H2 (Ex.refl H2) (reps_cons (VRep.rep (r1.mono e2) fun _ z => m.dom z) r2)⟩⟩
theorem items_inv {S : Addr → Prop} {H : Hp} {d : D} {v : V} {ds : List D} (hd : itemsOf d = .ok ds) (r : Rep G (hid S H) d v) : ∃ p xs, v = V.ref p ∧ (SqT G.K H p xs ∨ SqL G.K H p xs) ∧ Reps G (hid S H) ds xs := by
  cases d <;> cases hd
  · obtain ⟨a, vs, rfl, h1, h2⟩ := rep_tup r
    exact ⟨a, vs, rfl, .inl (hid_sqT h1), h2⟩
  · obtain ⟨a, vs, rfl, h1, h2⟩ := rep_lst r
    exact ⟨a, vs, rfl, .inr (sq_of (hid_lst h1)), h2⟩
  · obtain ⟨a, vs, rfl, h1, h2⟩ := rep_fz r
    exact ⟨a, vs, rfl, .inr (hid_sqL h1), h2⟩
theorem d_star {p0 : Pos} (hG : X.K = G.K) (h1 : PE X e (tE G W f)) (h2 : PA X es (tA G W fs)) (hs : starEach (.Starred e p0 :: es) X.env = (true, eval e X.env) :: starEach es X.env := by rfl) : PA X (.Starred e p0 :: es) (tA G W (aStar f fs)) :=
  (StX.pa_star h1 h2 hs).imp fun σ H Q ⟨Se, He, ρ, m, p⟩ => ⟨Se, He, ρ, m, PostA.bindE p fun va x H1 e1 r1 p1 => by
    have rr := VRep.rep r1 fun _ z => m.dom z
    cases hd : itemsOf va.d with
    | ok ds =>
      rw [hd] at p1
      obtain ⟨p, xs, rfl, hq, rs⟩ := items_inv hd rr
      refine ⟨p, xs, rfl, by rw [hG]; exact hq, Se, He, ρ, m.mono e1, PostA.bindA p1 fun es vs H2 e2 r2 p2 => p2 (xs ++ vs) H2 (Ex.refl H2) (Reps.app (Reps.mono (ex_hid e2 fun _ z => z) _ _ rs) r2)⟩
    | ex c d => cases hv : va.d <;> rw [hv] at hd <;> cases hd
    | no => rw [hd] at p1; exact p1.elim⟩
noncomputable def eTup (fs : En → R (List D)) : En → R Val := fun ρ => (fs ρ).bind fun ds => chk (fit ds.length) (mk (.tup ds))
noncomputable def eLst (fs : En → R (List D)) : En → R Val := fun ρ => (fs ρ).bind fun ds => chk (fit ds.length) (.ok (.fr ds))
theorem PostE.chk {S : Addr → Prop} {H : Hp} {Wp : Value → Option Addr → Hp → Prop} {Q : VK} {b : Bool} {r : R Val} (h : PostE G S H Wp Q (Dn.chk b r)) : b = true ∧ PostE G S H Wp Q r := by
  cases b with
  | true => exact ⟨rfl, h⟩
  | false => exact h.elim
theorem PostE.tt {S : Addr → Prop} {H : Hp} {Wp : Value → Option Addr → Hp → Prop} {Q : VK} {c : Prop} [Decidable c] {r : R Val} (h : PostE G S H Wp Q (tt c r)) : c ∧ PostE G S H Wp Q r := by
  unfold Dn.tt at h
  by_cases hc : c
  · rw [if_pos hc] at h; exact ⟨hc, h⟩
  · rw [if_neg hc] at h; exact h.elim
theorem d_tup {k : Nat} (h1 : PA X es (tA G W fs)) : PE X (.Tuple es k pos) (tE G W (eTup fs)) :=
  (pe_tup h1).imp fun σ H Q ⟨Se, He, ρ, m, p⟩ => ⟨Se, He, ρ, m, PostE.bindA p fun ds vs H1 e1 r1 p1 => by
    obtain ⟨hc', p2⟩ := PostE.chk p1
    have hc := fit_iff.mp hc'
    refine ⟨by rw [r1.len]; exact hc, PostV.newT (fun _ z => (m.mono e1).dom z) (H := H1) (ds := ds) p2 r1⟩⟩
theorem d_lst (h1 : PA X es (tA G W fs)) : PE X (.List es pos) (tE G W (eLst fs)) :=
  (pe_lst h1).imp fun σ H Q ⟨Se, He, ρ, m, p⟩ => ⟨Se, He, ρ, m, PostE.bindA p fun ds vs H1 e1 r1 p1 => by
    obtain ⟨hc', p2⟩ := PostE.chk p1
    have hc := fit_iff.mp hc'
    refine ⟨by rw [r1.len]; exact hc, PostV.newL (S := SS Se ρ σ) (H := H1) (ds := ds) p2 r1⟩⟩
def eCB (F : List D → R Val) (fs : En → R (List D)) : En → R Val := fun ρ => (fs ρ).bind fun ds => (F ds).vl
theorem cb_imp {r : List V → Hp → VK → Prop} {F : List D → R Val} (hb : CB G r F) {σ : L2.St} {H : Hp} {Q : VK} (q : tE G W (eCB F fs) σ H Q) : tCB r (tA G W fs) σ H Q := by
  obtain ⟨Se, He, ρ, m, p⟩ := q
  exact ⟨Se, He, ρ, m, PostE.bindA p fun ds vs H1 e1 r1 p1 => hb _ H1 ds vs Q (fun _ z => (m.mono e1).dom z) r1 (PostE.vl p1)⟩
variable {x : Str} {p : Pos} {F : List D → R Val} {r : List V → Hp → VK → Prop}
theorem d_callB {id : String} (hc : CallR X (.builtin id) r) (hb : CB G r F) (hg : Gl X x) (hm : X.mg x = none) (hv : bootBuiltins x = some (.builtin id)) (ha : PA X (e :: es) (tA G W fs)) (hn : x ≠ "__name__" := by decide) (hdb : (x == ("__debug__" : Str)) = false := by decide)
    (he : starEach (e :: es) X.env = (false, eval e X.env) :: starEach es X.env := by rfl) (hpl : (backTo pos (starEach es X.env)).any (·.1) = false := by rfl) : PE X (.Call (.Name x p) (e :: es) [] pos) (tE G W (eCB F fs)) :=
  (pe_callB hc hg hm hv ha hn hdb he hpl).imp fun _ _ _ q => cb_imp hb q
theorem d_callTy {T : String} (hc : CallR X (.type T) r) (hb : CB G r F) (hg : Gl X x) (hm : X.mg x = none) (hv : bootBuiltins x = some (.type T)) (ha : PA X (e :: es) (tA G W fs)) (hn : x ≠ "__name__" := by decide) (hdb : (x == ("__debug__" : Str)) = false := by decide)
    (he : starEach (e :: es) X.env = (false, eval e X.env) :: starEach es X.env := by rfl) (hpl : (backTo pos (starEach es X.env)).any (·.1) = false := by rfl) : PE X (.Call (.Name x p) (e :: es) [] pos) (tE G W (eCB F fs)) :=
  (pe_callTy hc hg hm hv ha hn hdb he hpl).imp fun _ _ _ q => cb_imp hb q
/-- a def's promise by its denotation, n arguments -/
def ar (n : Nat) (den : List D → R Val) (ds : List D) : R Val := if ds.length = n then den ds else .no
def spD (G : Kx) (n : Nat) (den : List D → R Val) : Sp := fun vs H Q E => ∃ S ds, (∀ a, S a → H a ≠ none) ∧ Reps G (hid S H) ds vs ∧ PostE G S H E Q (ar n den ds)
theorem spD_len {n : Nat} {den : List D → R Val} {vs : List V} {H : Hp} {Q : VK} {E : XK} (h : spD G n den vs H Q E) : vs.length = n := by
  obtain ⟨S, ds, _, r, p⟩ := h
  unfold ar at p
  split at p
  · rename_i e; rw [r.len]; exact e
  · exact p.elim
def eCall (n : Nat) (den : List D → R Val) (fs : En → R (List D)) : En → R Val := fun ρ => (fs ρ).bind (ar n den)
theorem d_call {k n : Nat} {fa : Addr} {fd : FuncData} {ps : List Str} {den : List D → R Val} (Fo : FnOk X.prog X.w X.K X.mg X.base (L2.CX X.prog X.w) k fa fd ps (spD G n den)) (tk : Takes X W) (hr : Room k X.A) (hg : Gl X x) (hm : X.mg x = some (.ref fa)) (hk : PySem.W.keepIn X.K (.ref fa) = true) (hb : Binds X.K fd ps [])
    (ha : PA X (e :: es) (tA G W fs)) (hdb : (x == ("__debug__" : Str)) = false := by decide) (he : starEach (e :: es) X.env = (false, eval e X.env) :: starEach es X.env := by rfl) (hpl : (backTo pos (starEach es X.env)).any (·.1) = false := by rfl) :
    PE X (.Call (.Name x p) (e :: es) [] pos) (tE G W (eCall n den fs)) :=
  (pe_callS Fo hr hg hm hk hb (fun σ => passAt tk σ) ha hdb he hpl).imp fun σ H Q ⟨Se, He, ρ, m, p⟩ => ⟨Se, He, ρ, m, PostE.bindA p fun ds vs H1 e1 r1 p1 => ⟨_, ds, fun _ z => (m.mono e1).dom z, r1, p1⟩⟩

/-! ### items, slices -/
theorem d_ix {r : R2} {F : D → D → R Val} (ho : IxR X r) (hb : OB G r F) (h1 : PE X a (tE G W f)) (h2 : PE X b (tE G W g)) (hs : PlainIx b := by exact fun _ _ => rfl) : PE X (.Subscript a b pos) (tE G W (eOp F f g)) :=
  (pe_ix ho h1 h2 hs).imp fun _ _ _ q => op_imp hb q
def PostO (G : Kx) (S : Addr → Prop) (H : Hp) (Wp : Value → Option Addr → Hp → Prop) (Q : Option Int → Hp → Prop) : R (Option Int) → Prop
  | .ok o => ∀ H', Ex H H' → Q o H'
  | .ex c d => ∀ cls dd H', Ex H H' → XRep G S H' cls dd c d → Wp cls dd H'
  | .no => False
def tO (G : Kx) (W : WX) (f : En → R (Option Int)) : TO := fun σ H Q => ∃ Se He ρ, M G Se He σ H ρ ∧ PostO G (SS Se ρ σ) H (WS W σ) Q (f ρ)
def oNone : En → R (Option Int) := fun _ => .ok none
def asI : Val → R (Option Int)
  | .sh (.int i) => .ok (some i)
  | _ => .no
def oSome (f : En → R Val) : En → R (Option Int) := fun ρ => (f ρ).bind asI
theorem _root_.L2.PO.imp {o : Option Expr} {t t' : TO} (h : PO X o t) (i : ∀ σ H Q, t' σ H Q → t σ H Q) : PO X o t' := ⟨fun pins s σ H Q I q => h.run pins s σ H Q I (i σ H Q q)⟩
theorem d_oNone : PO X none (tO G W oNone) := PO.imp po_none fun σ H Q ⟨Se, He, ρ, m, p⟩ => p H (Ex.refl H)
theorem d_oSome (h1 : PE X e (tE G W f)) : PO X (some e) (tO G W (oSome f)) := PO.imp (po_some h1) fun σ H Q ⟨Se, He, ρ, m, p⟩ => ⟨Se, He, ρ, m, by
  unfold oSome at p
  cases hf : f ρ with
  | ok val =>
    rw [hf] at p
    intro v H1 e1 r1
    cases val with
    | sh d =>
      cases d with
      | int i => exact ⟨i, vrep_int r1, p H1 e1⟩
      | _ => exact p.elim
    | fr _ => exact p.elim
  | ex c d => rw [hf] at p; exact p
  | no => rw [hf] at p; exact p⟩
def eSl (F : D → Option Int → Option Int → R Val) (f : En → R Val) (lo hi : En → R (Option Int)) : En → R Val := fun ρ => (f ρ).bind fun a => (lo ρ).bind fun l => (hi ρ).bind fun u => (F a.d l u).vl
theorem PostE.bindO {S : Addr → Prop} {H : Hp} {Wp : Value → Option Addr → Hp → Prop} {Q : VK} {Q' : Option Int → Hp → Prop} {r : R (Option Int)} {k : Option Int → R Val} (h : PostE G S H Wp Q (r.bind k)) (hk : ∀ o H', Ex H H' → PostE G S H' Wp Q (k o) → Q' o H') : PostO G S H Wp Q' r := by
  cases r with
  | ok val => exact fun H' e => hk val H' e (PostE.mono (r := k val) h e)
  | ex c d => exact h
  | no => exact h
theorem d_slice {r : V → Option Int → Option Int → Hp → VK → Prop} {F : D → Option Int → Option Int → R Val} {lo hi : Option Expr} {l u : En → R (Option Int)} {p2 : Pos} (ho : SlR X r) (hb : SB G r F) (h1 : PE X e (tE G W f)) (h2 : PO X lo (tO G W l)) (h3 : PO X hi (tO G W u)) :
    PE X (.Subscript e (.Slice lo hi none p2) pos) (tE G W (eSl F f l u)) :=
  (pe_slice ho h1 h2 h3).imp fun σ H Q ⟨Se, He, ρ, m, p⟩ => ⟨Se, He, ρ, m, PostE.bindE p fun va x H1 e1 r1 p1 => ⟨Se, He, ρ, m.mono e1, PostE.bindO p1 fun o H2 e2 p2 => ⟨Se, He, ρ, (m.mono e1).mono e2, PostE.bindO p2 fun o' H3 e3 p3 =>
    hb _ H3 va.d x o o' Q (fun _ z => (((m.mono e1).mono e2).mono e3).dom z) (VRep.rep ((r1.mono e2).mono e3) fun _ z => m.dom z) (PostE.vl p3)⟩⟩⟩
end

/-! ### the library's operators put together -/
section
variable {X : Cx} {G : Kx}
theorem or_add (hG : X.K = G.K) : OpR X (binaryOp .Add) (fun x y H Q => rI0 (fun i j => .int (i + j)) x y H Q ∨ (rCat x y H Q ∨ rCatA G.K x y H Q)) := by rw [← hG]; exact OpR.or op_add (OpR.or op_cat op_catA)
theorem or_mul (hG : X.K = G.K) : OpR X (binaryOp .Mult) (fun x y H Q => rI CMulW (fun i j => .int (i * j)) x y H Q ∨ (rRep x y H Q ∨ rRepT G.K x y H Q)) := by rw [← hG]; exact OpR.or op_mulW (OpR.or op_rep op_repT)
theorem or_eq (hG : X.K = G.K) (hu : X.A.units + 64 < cLine) : OpR X (compareOp .Eq) (fun x y H Q => rEq x y H Q ∨ rEqD G.K x y H Q) := by rw [← hG]; exact OpR.or op_eq (op_eqD hu)
theorem or_ne (hG : X.K = G.K) (hu : X.A.units + 64 < cLine) : OpR X (compareOp .NotEq) (fun x y H Q => rNe x y H Q ∨ rNeD G.K x y H Q) := by rw [← hG]; exact OpR.or op_ne (op_neD hu)
theorem or_ix (hG : X.K = G.K) : IxR X (fun x y H Q => rIxL G.K x y H Q ∨ rIxT G.K x y H Q) := by rw [← hG]; exact IxR.or ix_list ix_tup
theorem or_sl (hG : X.K = G.K) : SlR X (fun x lo hi H Q => rSlL G.K x lo hi H Q ∨ rSlA G.K x lo hi H Q) := by rw [← hG]; exact SlR.or sl_list sl_tupA
theorem cr_len (hG : X.K = G.K) : CallR X (.builtin "len") (fun xs H Q => ∃ p ys, xs = [.ref p] ∧ (SqL G.K H p ys ∨ SqT G.K H p ys) ∧ Q (.int ys.length) H) := by rw [← hG]; exact call_len_seq
theorem cr_tuple (hG : X.K = G.K) : CallR X (.type "tuple") (fun xs H Q => ∃ p ys, xs = [.ref p] ∧ ((SqL G.K H p ys ∧ ∀ l, H l = none → Q (.ref l) (upd H l (.tup ys))) ∨ (SqT G.K H p ys ∧ Q (.ref p) H))) := by rw [← hG]; exact call_tuple_of
theorem cr_list (hG : X.K = G.K) : CallR X (.type "list") (fun xs H Q => ∃ p ys, xs = [.ref p] ∧ (SqL G.K H p ys ∨ SqT G.K H p ys) ∧ ∀ l, H l = none → Q (.ref l) (upd H l (.lst ys))) := by rw [← hG]; exact call_list_of
theorem cr_sum' (hG : X.K = G.K) (hc : X.calm = true) : CallR X (.builtin "sum") (rSum G.K) := by rw [← hG]; exact cr_sum hc
theorem cr_max' (hG : X.K = G.K) (hc : X.calm = true) : CallR X (.builtin "max") (rMax G.K) := by rw [← hG]; exact cr_max hc
theorem cr_min' (hG : X.K = G.K) (hc : X.calm = true) : CallR X (.builtin "min") (rMin G.K) := by rw [← hG]; exact cr_min hc
theorem cr_all' (hG : X.K = G.K) (hc : X.calm = true) : CallR X (.builtin "all") (rAll G.K) := by rw [← hG]; exact cr_all hc
theorem cr_any' (hG : X.K = G.K) (hc : X.calm = true) : CallR X (.builtin "any") (rAny G.K) := by rw [← hG]; exact cr_any hc
end
end Dn
namespace Dn
open PySem PySem.Spec PyProof.Rows L2 Evl

/-! ## what is walked -/
/-- J walks the data ds, whatever comes to the heap beside B -/
def ItOk (G : Kx) (B : Hp) (J : It) (ds : List D) : Prop := ∀ i H2 S2, (∀ a, S2 a → H2 a ≠ none) → Ex B (hid S2 H2) →
  (∀ d, ds[i]? = some d → J.go i H2 ∧ ∀ x H3, J.yld i H2 x H3 → Ex H2 H3 ∧ Rep G (hid S2 H3) d x) ∧ (i = ds.length → J.stop i H2)
def PostI (G : Kx) (S : Addr → Prop) (H : Hp) (Wp : Value → Option Addr → Hp → Prop) (Q : It → Hp → Prop) : R (List D) → Prop
  | .ok ds => ∀ J H', Ex H H' → ItOk G (hid S H') J ds → Q J H'
  | .ex c d => ∀ cls dd H', Ex H H' → XRep G S H' cls dd c d → Wp cls dd H'
  | .no => False
def tI (G : Kx) (W : WX) (f : En → R (List D)) : TI := fun σ H Q => ∃ Se He ρ, M G Se He σ H ρ ∧ PostI G (SS Se ρ σ) H (WS W σ) Q (f ρ)
section
variable {X : Cx} {G : Kx} {W : WX}
theorem PostI.mono {S : Addr → Prop} {H H' : Hp} {Wp : Value → Option Addr → Hp → Prop} {Q : It → Hp → Prop} {r : R (List D)} (h : PostI G S H Wp Q r) (e : Ex H H') : PostI G S H' Wp Q r := by
  cases r with
  | ok val => exact fun v H2 e2 vr => h v H2 (e.trans e2) vr
  | ex c d => exact fun cls dd H2 e2 xr => h cls dd H2 (e.trans e2) xr
  | no => exact h
theorem PostI.bindE {S : Addr → Prop} {H : Hp} {Wp : Value → Option Addr → Hp → Prop} {Q : It → Hp → Prop} {Q' : VK} {r : R Val} {k : Val → R (List D)} (h : PostI G S H Wp Q (r.bind k)) (hk : ∀ val v H', Ex H H' → VRep G S H H' v val → PostI G S H' Wp Q (k val) → Q' v H') : PostE G S H Wp Q' r := by
  cases r with
  | ok val => exact fun v H' e vr => hk val v H' e vr (PostI.mono (r := k val) h e)
  | ex c d => exact h
  | no => exact h
theorem PostI.bindA {S : Addr → Prop} {H : Hp} {Wp : Value → Option Addr → Hp → Prop} {Q : It → Hp → Prop} {Q' : List V → Hp → Prop} {r : R (List D)} {k : List D → R (List D)} (h : PostI G S H Wp Q (r.bind k)) (hk : ∀ val v H', Ex H H' → Reps G (hid S H') val v → PostI G S H' Wp Q (k val) → Q' v H') : PostA G S H Wp Q' r := by
  cases r with
  | ok val => exact fun v H' e vr => hk val v H' e vr (PostI.mono (r := k val) h e)
  | ex c d => exact h
  | no => exact h
theorem itok_list {B : Hp} {a : Addr} {vs : List V} {ds : List D} (hq : SqL G.K B a vs) (rs : Reps G B ds vs) : ItOk G B (Itl G.K a) ds := fun i H2 S2 hs e => by
  have hq2 : SqL G.K H2 a vs := hid_sqL (ex_l e hq)
  refine ⟨fun d hd => ?_, fun hi => ⟨vs, hq2, by rw [rs.len]; omega⟩⟩
  obtain ⟨v, hv, r⟩ := rs.at hd
  refine ⟨⟨vs, v, hq2, hv⟩, fun x H3 hy => ?_⟩
  obtain ⟨e3, hx⟩ := hy
  subst e3
  have := hx vs hq2
  rw [hv] at this; cases this
  exact ⟨Ex.refl _, Rep.mono e _ _ r⟩
theorem itok_tup {B : Hp} {a : Addr} {vs : List V} {ds : List D} (hq : SqT G.K B a vs) (rs : Reps G B ds vs) : ItOk G B (Itt G.K a) ds := fun i H2 S2 hs e => by
  have hq2 : SqT G.K H2 a vs := hid_sqT (ex_t e hq)
  refine ⟨fun d hd => ?_, fun hi => ⟨vs, hq2, by rw [rs.len]; omega⟩⟩
  obtain ⟨v, hv, r⟩ := rs.at hd
  refine ⟨⟨vs, v, hq2, hv⟩, fun x H3 hy => ?_⟩
  obtain ⟨e3, hx⟩ := hy
  subst e3
  have := hx vs hq2
  rw [hv] at this; cases this
  exact ⟨Ex.refl _, Rep.mono e _ _ r⟩
def rangeD (lo : Int) (n : Nat) : List D := (List.range n).map fun (k : Nat) => D.int (lo + (k : Int))
theorem itok_rng {B : Hp} {lo : Int} {n : Nat} : ItOk G B (Itr lo n) (rangeD lo n) := fun i H2 S2 hs e => by
  refine ⟨fun d hd => ?_, fun hi => by show n ≤ i; rw [hi]; simp [rangeD]⟩
  unfold rangeD at hd
  rw [List.getElem?_map] at hd
  by_cases hlt : i < n
  · rw [List.getElem?_range hlt] at hd
    cases hd
    refine ⟨hlt, fun x H3 hy => ?_⟩
    obtain ⟨rfl, rfl⟩ := hy
    exact ⟨Ex.refl _, by unfold Rep; rfl⟩
  · rw [List.getElem?_eq_none (by simp; omega)] at hd
    cases hd
def iSeq (f : En → R Val) : En → R (List D) := fun ρ => (f ρ).bind fun v => itemsOf v.d
variable {tg e a b : Expr} {f : En → R Val} {fs : En → R (List D)} {pos p0 : Pos}
theorem d_iter (hG : X.K = G.K) (h1 : PE X e (tE G W f)) : PI X tg e (tI G W (iSeq f)) :=
  (PI.or (pi_list h1) (pi_tup h1)).imp fun σ H Q ⟨Se, He, ρ, m, p⟩ => by
    rw [hG]
    unfold iSeq at p
    cases hf : f ρ with
    | ok va =>
      rw [hf] at p
      have p' : PostI G (SS Se ρ σ) H (WS W σ) Q (itemsOf va.d) := p
      cases hd : va.d with
      | tup ds =>
        rw [hd] at p'
        refine .inr ⟨Se, He, ρ, m, ?_⟩
        rw [hf]
        intro v H1 e1 r1
        have rr := VRep.rep r1 fun _ z => m.dom z
        rw [hd] at rr
        obtain ⟨q, vs, rfl, q1, q2⟩ := rep_tup rr
        exact ⟨q, rfl, ⟨vs, hid_sqT q1⟩, p' _ H1 e1 (itok_tup q1 q2)⟩
      | lst ds =>
        rw [hd] at p'
        refine .inl ⟨Se, He, ρ, m, ?_⟩
        rw [hf]
        intro v H1 e1 r1
        have rr := VRep.rep r1 fun _ z => m.dom z
        rw [hd] at rr
        obtain ⟨q, vs, rfl, q1, q2⟩ := rep_lst rr
        exact ⟨q, rfl, ⟨vs, sq_of (hid_lst q1)⟩, p' _ H1 e1 (itok_list (sq_of q1) q2)⟩
      | fz ds =>
        rw [hd] at p'
        refine .inl ⟨Se, He, ρ, m, ?_⟩
        rw [hf]
        intro v H1 e1 r1
        have rr := VRep.rep r1 fun _ z => m.dom z
        rw [hd] at rr
        obtain ⟨q, vs, rfl, q1, q2⟩ := rep_fz rr
        exact ⟨q, rfl, ⟨vs, hid_sqL q1⟩, p' _ H1 e1 (itok_list q1 q2)⟩
      | _ => rw [hd] at p'; exact p'.elim
    | ex c d =>
      rw [hf] at p
      refine .inl ⟨Se, He, ρ, m, ?_⟩
      rw [hf]; exact p
    | no => rw [hf] at p; exact p.elim
noncomputable def rng1 : List D → R (List D)
  | [.int n] => chk (rngFit n) (.ok (rangeD 0 n.toNat))
  | _ => .no
noncomputable def rng2 : List D → R (List D)
  | [.int i, .int j] => chk (rngFit i && rngFit j) (.ok (rangeD i (j - i).toNat))
  | _ => .no
def iFun (F : List D → R (List D)) (fs : En → R (List D)) : En → R (List D) := fun ρ => (fs ρ).bind F
theorem d_range1 (hg : Gl X "range") (hm : X.mg "range" = none) (ha : PA X [a] (tA G W fs)) (hs : starEach [a] X.env = [(false, eval a X.env)] := by rfl) : PI X tg (.Call (.Name "range" p0) [a] [] pos) (tI G W (iFun rng1 fs)) :=
  (pi_range1 hg hm ha hs).imp fun σ H Q ⟨Se, He, ρ, m, p⟩ => ⟨Se, He, ρ, m, PostI.bindA p fun ds vs H1 e1 r1 p1 => by
    unfold rng1 at p1
    split at p1
    · rename_i n
      cases hc0 : rngFit n with
      | false => rw [hc0] at p1; exact p1.elim
      | true =>
        rw [hc0] at p1
        have hc := rngFit_iff.mp hc0
        obtain ⟨v, r, rfl, h1, h2⟩ := reps_cons_inv r1
        rw [reps_nil_inv h2, rep_int h1]
        exact ⟨n, rfl, hc.1, hc.2, p1 _ H1 (Ex.refl H1) itok_rng⟩
    · exact p1.elim⟩
theorem d_range2 (hg : Gl X "range") (hm : X.mg "range" = none) (ha : PA X [a, b] (tA G W fs)) (hs : starEach [a, b] X.env = [(false, eval a X.env), (false, eval b X.env)] := by rfl) (hs2 : starEach [b] X.env = [(false, eval b X.env)] := by rfl) :
    PI X tg (.Call (.Name "range" p0) [a, b] [] pos) (tI G W (iFun rng2 fs)) :=
  (pi_range2 hg hm ha hs hs2).imp fun σ H Q ⟨Se, He, ρ, m, p⟩ => ⟨Se, He, ρ, m, PostI.bindA p fun ds vs H1 e1 r1 p1 => by
    unfold rng2 at p1
    split at p1
    · rename_i n k
      cases hc0 : rngFit n && rngFit k with
      | false => rw [hc0] at p1; exact p1.elim
      | true =>
        rw [hc0] at p1
        rw [Bool.and_eq_true] at hc0
        have hc1 := rngFit_iff.mp hc0.1
        have hc2 := rngFit_iff.mp hc0.2
        have hc := And.intro hc1.1 (And.intro hc1.2 hc2)
        obtain ⟨v, r, rfl, h1, h2⟩ := reps_cons_inv r1
        obtain ⟨v', r', rfl, h1', h2'⟩ := reps_cons_inv h2
        rw [reps_nil_inv h2', rep_int h1, rep_int h1']
        exact ⟨n, k, rfl, hc, p1 _ H1 (Ex.refl H1) itok_rng⟩
    · exact p1.elim⟩
end

/-! ## targets -/
inductive Tg where
  | nm (i : Nat) | tp (ts : List Tg)
mutual
def Tg.asg : Tg → D → En → Option En
  | .nm i, d, ρ => some (ρ.set i (.sh d))
  | .tp ts, d, ρ => match d with
    | .tup ds => if ds.length = ts.length then asgs ts ds ρ else none
    | _ => none
def asgs : List Tg → List D → En → Option En
  | [], _, ρ => some ρ
  | t :: ts, [], ρ => none
  | t :: ts, d :: ds, ρ => match t.asg d ρ with
    | some ρ' => asgs ts ds ρ'
    | none => none
end
mutual
def Tg.slots : Tg → List Nat
  | .nm i => [i]
  | .tp ts => slotss ts
def slotss : List Tg → List Nat
  | [] => []
  | t :: ts => t.slots ++ slotss ts
end
def Apart (l : List Nat) (σ σ' : L2.St) : Prop := σ'.length = σ.length ∧ ∀ i, i ∉ l → σ'[i]? = σ[i]?
def gD (G : Kx) (t : Tg) : TG := fun v σ H Q => ∃ Se He ρ d ρ', M G Se He σ H ρ ∧ Rep G (hid Se He) d v ∧ t.asg d ρ = some ρ' ∧ ∀ σ', M G Se He σ' H ρ' → Apart t.slots σ σ' → Q σ' H
def gDs (G : Kx) (ts : List Tg) : TGs := fun vs σ H Q => ∃ Se He ρ ds ρ', M G Se He σ H ρ ∧ Reps G (hid Se He) ds vs ∧ ds.length = ts.length ∧ asgs ts ds ρ = some ρ' ∧ ∀ σ', M G Se He σ' H ρ' → Apart (slotss ts) σ σ' → Q σ' H
section
variable {X : Cx} {G : Kx} {W : WX}
theorem _root_.L2.PG.imp {tg : Expr} {t t' : TG} (h : PG X tg t) (i : ∀ v σ H Q, t' v σ H Q → t v σ H Q) : PG X tg t' := ⟨fun pins s σ H v u Q I r q => h.run pins s σ H v u Q I r (i v σ H Q q)⟩
theorem _root_.L2.PGs.imp {tg : List Expr} {t t' : TGs} (h : PGs X tg t) (i : ∀ v σ H Q, t' v σ H Q → t v σ H Q) : PGs X tg t' := ⟨fun pins s σ H v u Q I r q => h.run pins s σ H v u Q I r (i v σ H Q q)⟩
variable {x : Str} {pos : Pos} {es : List Expr} {e : Expr} {t : Tg} {ts : List Tg}
theorem d_nm {i : Nat} (h : PG X (.Name x pos) (gName i)) : PG X (.Name x pos) (gD G (.nm i)) := h.imp fun v σ H Q ⟨Se, He, ρ, d, ρ', m, r, ha, k⟩ => by
  cases ha
  refine k _ (M.set m (Ex.refl H) i (val := .sh d) (Rep.mono m.stable _ _ r)) ⟨by simp, fun j hj => ?_⟩
  rw [set_other]
  intro z; subst z; exact hj (by simp [Tg.slots])
theorem d_gnil : PGs X [] (gDs G []) := pgs_nil.imp fun vs σ H Q ⟨Se, He, ρ, ds, ρ', m, r, hl, ha, k⟩ => by
  have e : ds = [] := List.eq_nil_of_length_eq_zero hl
  subst e
  cases ha
  exact ⟨reps_nil_inv r, k σ m ⟨rfl, fun _ _ => rfl⟩⟩
theorem d_gcons (h1 : PG X e (gD G t)) (h2 : PGs X es (gDs G ts)) (hs : (assignEach (e :: es) X.env).map (·.2) = assign e X.env :: (assignEach es X.env).map (·.2) := by rfl) : PGs X (e :: es) (gDs G (t :: ts)) :=
  (pgs_cons h1 h2 hs).imp fun vs σ H Q ⟨Se, He, ρ, ds, ρ', m, r, hl, ha, k⟩ => by
    cases ds with
    | nil => cases hl
    | cons d ds =>
      obtain ⟨v, vr, rfl, r1, r2⟩ := reps_cons_inv r
      unfold asgs at ha
      split at ha
      · rename_i ρ1 e1
        refine ⟨v, vr, rfl, Se, He, ρ, d, ρ1, m, r1, e1, fun σ1 m1 a1 => ⟨Se, He, ρ1, ds, ρ', m1, r2, by simpa using hl, ha, fun σ2 m2 a2 => k σ2 m2 ⟨a2.1.trans a1.1, fun i hi => ?_⟩⟩⟩
        unfold slotss at hi
        rw [List.mem_append] at hi
        rw [a2.2 i fun z => hi (.inr z), a1.2 i fun z => hi (.inl z)]
      · cases ha
theorem d_tp {k n : Nat} (hG : X.K = G.K) (hc : X.calm = true) (h : PGs X es (gDs G ts)) (hn : (assignEach es X.env).length = n := by rfl) (hst : (assignEach es X.env).findIdx? (·.1) = none := by rfl) (hnt : n = ts.length := by rfl) : PG X (.Tuple es k pos) (gD G (.tp ts)) :=
  (pg_tup hc h hn hst).imp fun v σ H Q ⟨Se, He, ρ, d, ρ', m, r, ha, q⟩ => by
    cases d with
    | tup ds =>
      have ha' : (if ds.length = ts.length then asgs ts ds ρ else none) = some ρ' := by unfold Tg.asg at ha; exact ha
      by_cases hl : ds.length = ts.length
      · rw [if_pos hl] at ha'
        obtain ⟨a, vs, rfl, r1, r2⟩ := rep_tup r
        refine ⟨a, vs, rfl, by rw [hG]; exact ex_t m.ext (hid_sqT r1), by rw [r2.len, hl, hnt], Se, He, ρ, ds, ρ', m, r2, hl, ha', fun σ' m' ap => q σ' m' ?_⟩
        exact ap
      · rw [if_neg hl] at ha'; cases ha'
    | _ => unfold Tg.asg at ha; cases ha
end

/-! ## comprehensions -/
def wipeE : En → List Nat → En
  | ρ, [] => ρ
  | ρ, v :: vs => (wipeE ρ vs).set v .un
theorem M.wipe {G : Kx} {Se : Addr → Prop} {He H : Hp} {σ : L2.St} {ρ : En} (m : M G Se He σ H ρ) : ∀ vs : List Nat, M G Se He (wipe σ vs) H (wipeE ρ vs)
  | [] => m
  | v :: vs => (M.wipe m vs).drop v none
theorem wipe_apart {l vs : List Nat} (hl : ∀ i ∈ l, i ∈ vs) {σ σ' : L2.St} (h : Apart l σ σ') : wipe σ' vs = wipe σ vs := by
  apply List.ext_getElem?
  intro i
  have key : ∀ (vs : List Nat) (τ τ' : L2.St), τ'.length = τ.length → (i ∈ vs ∨ τ'[i]? = τ[i]?) → (L2.wipe τ' vs)[i]? = (L2.wipe τ vs)[i]? := by
    intro vs
    induction vs with
    | nil => intro τ τ' _ h; rcases h with h | h; cases h; exact h
    | cons v vs ih =>
      intro τ τ' hlen h
      show ((L2.wipe τ' vs).set v none)[i]? = ((L2.wipe τ vs).set v none)[i]?
      rw [List.getElem?_set, List.getElem?_set, wipe_length, wipe_length, hlen]
      by_cases e : v = i
      · rw [if_pos e, if_pos e]
      · rw [if_neg e, if_neg e]
        refine ih τ τ' hlen ?_
        rcases h with h | h
        · rcases List.mem_cons.mp h with h | h
          · exact absurd h.symm e
          · exact .inl h
        · exact .inr h
  refine key vs σ σ' h.1 ?_
  by_cases hi : i ∈ l
  · exact .inl (hl i hi)
  · exact .inr (h.2 i hi)

def W0 : WX := fun _ _ _ _ => False
/-- one clause: the data of the elements -/
def lcD (t : Tg) (c : En → R Bool) (g : En → R Val) (ρ : En) : List D → R (List D)
  | [] => .ok []
  | d :: ds => match t.asg d ρ with
    | none => .no
    | some ρ1 => match c ρ1 with
      | .ok true => match g ρ1 with
        | .ok v => (lcD t c g ρ ds).bind fun rs => .ok (v.d :: rs)
        | _ => .no
      | .ok false => lcD t c g ρ ds
      | _ => .no
noncomputable def eLc (vs : List Nat) (f : En → R (List D)) (t : Tg) (c : En → R Bool) (g : En → R Val) : En → R Val := fun ρ => (f ρ).bind fun ds => match lcD t c g (wipeE ρ vs) ds with
  | .ok rs => chk (fit rs.length) (.ok (.fr rs))
  | _ => .no
def tYesD : En → R Bool := fun _ => .ok true
section
variable {X : Cx} {G : Kx} {W : WX}
theorem PostI.bindI {S : Addr → Prop} {H : Hp} {Wp : Value → Option Addr → Hp → Prop} {Q : VK} {Q' : It → Hp → Prop} {r : R (List D)} {k : List D → R Val} (h : PostE G S H Wp Q (r.bind k)) (hk : ∀ ds J H', Ex H H' → ItOk G (hid S H') J ds → PostE G S H' Wp Q (k ds) → Q' J H') : PostI G S H Wp Q' r := by
  cases r with
  | ok val => exact fun J H' e vr => hk val J H' e vr (PostE.mono (r := k val) h e)
  | ex c d => exact h
  | no => exact h
theorem bind_ok {α β : Type} {r : R α} {k : α → R β} {y : β} (h : r.bind k = .ok y) : ∃ x, r = .ok x ∧ k x = .ok y := by
  cases r with
  | ok x => exact ⟨x, rfl, h⟩
  | ex c d => cases h
  | no => cases h
/-- an environment within a comprehension: σ, ρ the def's own, Da the list that grows -/
structure Der (G : Kx) (Se : Addr → Prop) (ρ : En) (σ : L2.St) (Da : Addr) (vs : List Nat) (σx : L2.St) (H : Hp) (ρx : En) : Prop where
  len : ρx.length = σx.length
  ow : ∀ (i : Nat) (ds : List D), ρx[i]? = some (Sl.ow ds) → ρ[i]? = some (Sl.ow ds) ∧ σx[i]? = σ[i]?
  sh : ∀ (i : Nat) (d : D), ρx[i]? = some (Sl.sh d) → ∃ v : V, σx[i]? = some (some v) ∧ Rep G (hid (ins1 (SS Se ρ σ) Da) H) d v
  no : ∀ i ∈ vs, ∀ ds : List D, ρx[i]? ≠ some (Sl.ow ds)
section
variable {Se : Addr → Prop} {He H H1 H' : Hp} {σ σx σy : L2.St} {ρ ρx ρy : En} {Da : Addr} {vs : List Nat}
theorem Der.mono (d : Der G Se ρ σ Da vs σx H ρx) (e : Ex H H') : Der G Se ρ σ Da vs σx H' ρx :=
  ⟨d.len, d.ow, fun i x h => by obtain ⟨v, a, r⟩ := d.sh i x h; exact ⟨v, a, Rep.mono (ex_hid e fun _ z => z) _ _ r⟩, d.no⟩
theorem Der.upd (d : Der G Se ρ σ Da vs σx H ρx) (o : HO) : Der G Se ρ σ Da vs σx (upd H Da o) ρx :=
  ⟨d.len, d.ow, fun i x h => by obtain ⟨v, a, r⟩ := d.sh i x h; exact ⟨v, a, by rw [hid_upd (.inr rfl)]; exact r⟩, d.no⟩
theorem Der.own (d : Der G Se ρ σ Da vs σx H ρx) {a : Addr} (h : Own ρx σx a) : Own ρ σ a := by
  obtain ⟨i, ds, h1, h2⟩ := h
  obtain ⟨a1, a2⟩ := d.ow i ds h1
  exact ⟨i, ds, a1, by rw [← a2]; exact h2⟩
theorem Der.wipe1 (d : Der G Se ρ σ Da vs σx H ρx) (i : Nat) : Der G Se ρ σ Da vs (σx.set i none) H (ρx.set i .un) := by
  refine ⟨by simp [d.len], fun j ds h => ?_, fun j x h => ?_, fun j hj ds h => ?_⟩
  · rcases get_set h with ⟨_, e, _⟩ | ⟨e1, e2⟩
    · cases e
    · obtain ⟨a, b⟩ := d.ow j ds e2
      exact ⟨a, by rw [set_other e1]; exact b⟩
  · rcases get_set h with ⟨_, e, _⟩ | ⟨e1, e2⟩
    · cases e
    · obtain ⟨v, a, r⟩ := d.sh j x e2
      exact ⟨v, by rw [set_other e1]; exact a, r⟩
  · rcases get_set h with ⟨_, e, _⟩ | ⟨e1, e2⟩
    · cases e
    · exact d.no j hj ds e2
theorem Der.wipe (d : Der G Se ρ σ Da vs σx H ρx) : ∀ us : List Nat, Der G Se ρ σ Da vs (L2.wipe σx us) H (wipeE ρx us)
  | [] => d
  | u :: us => (Der.wipe d us).wipe1 u
theorem wipeE_un : ∀ (us : List Nat) (ρ : En) (i : Nat) (ds : List D), i ∈ us → (wipeE ρ us)[i]? ≠ some (Sl.ow ds)
  | [], ρ, i, ds, h => by cases h
  | u :: us, ρ, i, ds, h => fun z => by
    rcases get_set (show ((wipeE ρ us).set u .un)[i]? = some (Sl.ow ds) from z) with ⟨_, e, _⟩ | ⟨e1, e2⟩
    · cases e
    · rcases List.mem_cons.mp h with h | h
      · exact e1 h.symm
      · exact wipeE_un us ρ i ds h e2
theorem Der.start (m : M G Se He σ H1 ρ) (e : Ex H1 H) (hD : H1 Da = none) (vs : List Nat) : Der G Se ρ σ Da vs (L2.wipe σ vs) H (wipeE ρ vs) := by
  have d0 : Der G Se ρ σ Da [] σ H ρ := ⟨m.len, fun i ds h => ⟨h, rfl⟩, fun i x h => by
    obtain ⟨v, a, r⟩ := m.sh i x h
    refine ⟨v, a, Rep.mono (ex_hid2 e fun a z => ?_) _ _ r⟩
    rcases z with z | z
    · exact .inl z
    · rw [z]; exact .inr hD, fun i h => by cases h⟩
  have d1 := d0.wipe vs
  exact ⟨d1.len, d1.ow, d1.sh, fun i hi ds => wipeE_un vs ρ i ds hi⟩
def SdOf (Se : Addr → Prop) (ρ : En) (σ : L2.St) (Da : Addr) (ρx : En) (σx : L2.St) : Addr → Prop := fun a => a = Da ∨ (SS Se ρ σ a ∧ ¬ Own ρx σx a)
theorem Der.ss (d : Der G Se ρ σ Da vs σx H ρx) (a : Addr) : SS (SdOf Se ρ σ Da ρx σx) ρx σx a ↔ ins1 (SS Se ρ σ) Da a := by
  constructor
  · intro z
    rcases z with (z | z) | z
    · exact .inr z
    · exact .inl z.1
    · exact .inl (.inr (d.own z))
  · intro z
    by_cases o : Own ρx σx a
    · exact .inr o
    · rcases z with z | z
      · exact .inl (.inr ⟨z, o⟩)
      · exact .inl (.inl z)
theorem Der.m (d : Der G Se ρ σ Da vs σx H ρx) (m : M G Se He σ H1 ρ) (e : Ex H1 H) (hD : H1 Da = none) (hDa : H Da ≠ none) : M G (SdOf Se ρ σ Da ρx σx) (ground ρx σx H) σx H ρx := by
  have nD : ¬ Own ρx σx Da := fun z => m.dom (.inr (d.own z)) hD
  have sub : ∀ a, SS (SdOf Se ρ σ Da ρx σx) ρx σx a → SS Se ρ σ a ∨ H1 a = none := fun a z => by
    rcases (d.ss a).mp z with z | z
    · exact .inl z
    · rw [z]; exact .inr hD
  refine ⟨hid_le, d.len, fun a z => ?_, fun i x h => ?_, fun i ds h => ?_, fun i j ds es p h1 h2 h3 h4 => ?_⟩
  · have no : ¬ Own ρx σx a := by
      rcases z with z | z
      · rw [z]; exact nD
      · exact z.2
    unfold ground
    rw [hid_out no]
    rcases z with z | z
    · rw [z]; exact hDa
    · exact (m.mono e).dom z.1
  · obtain ⟨v, a, r⟩ := d.sh i x h
    exact ⟨v, a, Rep.mono (ex_hid (Ex.refl _) fun a z => (d.ss a).mp z) _ _ r⟩
  · obtain ⟨a1, a2⟩ := d.ow i ds h
    obtain ⟨p, ws, b1, b2, b3, b4⟩ := m.ow i ds a1
    refine ⟨p, ws, by rw [a2]; exact b1, hid_in ⟨i, ds, h, by rw [a2]; exact b1⟩, e _ _ b3, Reps.mono (ex_hid2 e sub) _ _ b4⟩
  · obtain ⟨a1, a2⟩ := d.ow i ds h1
    obtain ⟨c1, c2⟩ := d.ow j es h2
    exact m.dj i j ds es p a1 c1 (by rw [← a2]; exact h3) (by rw [← c2]; exact h4)
end
mutual
theorem asg_get : ∀ (t : Tg) (d : D) (ρ ρ' : En), t.asg d ρ = some ρ' → (∀ i, i ∉ t.slots → ρ'[i]? = ρ[i]?) ∧ ∀ i (ds : List D), ρ'[i]? = some (Sl.ow ds) → ρ[i]? = some (Sl.ow ds) ∧ i ∉ t.slots
  | .nm j, d, ρ, ρ', h => by
    cases h
    refine ⟨fun i hi => set_other fun z => hi (by rw [z]; simp [Tg.slots]), fun i ds h => ?_⟩
    rcases get_set h with ⟨_, e, _⟩ | ⟨e1, e2⟩
    · cases e
    · refine ⟨e2, fun z => e1 ?_⟩
      have q : i = j := by simpa [Tg.slots] using z
      exact q.symm
  | .tp ts, d, ρ, ρ', h => by
    unfold Tg.asg at h
    split at h
    · rename_i ds
      split at h
      · unfold Tg.slots
        exact asgs_get ts ds ρ ρ' h
      · cases h
    · cases h
theorem asgs_get : ∀ (ts : List Tg) (ds : List D) (ρ ρ' : En), asgs ts ds ρ = some ρ' → (∀ i, i ∉ slotss ts → ρ'[i]? = ρ[i]?) ∧ ∀ i (ds : List D), ρ'[i]? = some (Sl.ow ds) → ρ[i]? = some (Sl.ow ds) ∧ i ∉ slotss ts
  | [], ds, ρ, ρ', h => by
    unfold asgs at h
    cases h
    exact ⟨fun _ _ => rfl, fun i ds h => ⟨h, by simp [slotss]⟩⟩
  | t :: ts, [], ρ, ρ', h => by unfold asgs at h; cases h
  | t :: ts, d :: ds, ρ, ρ', h => by
    unfold asgs at h
    split at h
    · rename_i ρ1 e1
      obtain ⟨a1, a2⟩ := asg_get t d ρ ρ1 e1
      obtain ⟨b1, b2⟩ := asgs_get ts ds ρ1 ρ' h
      refine ⟨fun i hi => ?_, fun i es h => ?_⟩
      · unfold slotss at hi
        rw [List.mem_append] at hi
        rw [b1 i fun z => hi (.inr z), a1 i fun z => hi (.inl z)]
      · obtain ⟨c1, c2⟩ := b2 i es h
        obtain ⟨c3, c4⟩ := a2 i es c1
        refine ⟨c3, fun z => ?_⟩
        unfold slotss at z
        rw [List.mem_append] at z
        rcases z with z | z
        · exact c4 z
        · exact c2 z
    · cases h
end
/-- behind a target -/
theorem Der.asg {Se : Addr → Prop} {Hg H : Hp} {σ σx σy : L2.St} {ρ ρx ρy : En} {Da : Addr} {vs : List Nat} {t : Tg} {d : D} (dx : Der G Se ρ σ Da vs σx H ρx) (ha : t.asg d ρx = some ρy) (hs : ∀ i ∈ t.slots, i ∈ vs) (ap : Apart t.slots σx σy)
    (my : M G (SdOf Se ρ σ Da ρx σx) Hg σy H ρy) : Der G Se ρ σ Da vs σy H ρy := by
  obtain ⟨g1, g2⟩ := asg_get t d ρx ρy ha
  have ow : ∀ (i : Nat) (ds : List D), ρy[i]? = some (Sl.ow ds) → ρ[i]? = some (Sl.ow ds) ∧ σy[i]? = σ[i]? := fun i ds h => by
    obtain ⟨a, b⟩ := g2 i ds h
    obtain ⟨a1, a2⟩ := dx.ow i ds a
    exact ⟨a1, by rw [ap.2 i b]; exact a2⟩
  refine ⟨my.len, ow, fun i x h => ?_, fun i hi ds h => ?_⟩
  · obtain ⟨v, a, r⟩ := my.sh i x h
    refine ⟨v, a, Rep.mono (ex_hid (Ex.refl _) fun a z => ?_) _ _ r⟩
    rcases (dx.ss a).mpr z with z | z
    · exact .inl z
    · obtain ⟨j, es, h1, h2⟩ := z
      refine .inr ⟨j, es, ?_, ?_⟩
      · rw [g1 j fun q => dx.no j (hs j q) es h1]; exact h1
      · rw [ap.2 j fun q => dx.no j (hs j q) es h1]; exact h2
  · exact dx.no i hi ds (g2 i ds h).1
theorem lc_imp {vs : List Nat} {f : En → R (List D)} {t : Tg} {c : En → R Bool} {g : En → R Val} (ht : ∀ i ∈ t.slots, i ∈ vs) {σ : L2.St} {H : Hp} {Q : VK} (h : tE G W (eLc vs f t c g) σ H Q) : tLc (tI G W f) (gD G t) (tT G W0 c) (tE G W0 g) vs σ H Q := by
  obtain ⟨Se, He, ρ, m, p⟩ := h
  refine ⟨Se, He, ρ, m, PostI.bindI p fun ds J H1 e1 it p1 => ?_⟩
  have m1 := m.mono e1
  cases hl : lcD t c g (wipeE ρ vs) ds with
  | ex _ _ => rw [hl] at p1; exact p1.elim
  | no => rw [hl] at p1; exact p1.elim
  | ok rs =>
    rw [hl] at p1
    obtain ⟨hsz', p2⟩ := PostE.chk p1
    have hsz := fit_iff.mp hsz'
    intro Da hD
    refine ⟨fun i k H2 => k = ds.length - i ∧ i ≤ ds.length ∧ Ex H1 H2 ∧ ∃ acc as rest, H2 Da = some (.lst acc) ∧ Reps G (hid (ins1 (SS Se ρ σ) Da) H2) as acc ∧ lcD t c g (wipeE ρ vs) (ds.drop i) = .ok rest ∧ as ++ rest = rs,
      ⟨ds.length, rfl, Nat.zero_le _, Ex.new hD, [], [], rs, upd_same, reps_nil, hl, rfl⟩, ?_⟩
    rintro i k H2 ⟨rfl, hi, e2, acc, as, rest, hDa, ra, hr, hsum⟩
    have hds : ∀ a, ins1 (SS Se ρ σ) Da a → H2 a ≠ none := fun a z => by
      rcases z with z | z
      · exact (m1.mono e2).dom z
      · rw [z, hDa]; intro q; cases q
    have hB : Ex (hid (SS Se ρ σ) H1) (hid (ins1 (SS Se ρ σ) Da) H2) := ex_hid2 e2 fun a z => by
      rcases z with z | z
      · exact .inl z
      · rw [z]; exact .inr hD
    have hit := it i H2 _ hds hB
    by_cases hlt : i < ds.length
    · have hd : ds[i]? = some ds[i] := List.getElem?_eq_getElem hlt
      rw [List.drop_eq_getElem_cons hlt] at hr
      obtain ⟨hgo, hy⟩ := hit.1 _ hd
      refine .inr ⟨hgo, fun H' => i + 1 ≤ ds.length ∧ Ex H1 H' ∧ ∃ acc as rest, H' Da = some (.lst acc) ∧ Reps G (hid (ins1 (SS Se ρ σ) Da) H') as acc ∧ lcD t c g (wipeE ρ vs) (ds.drop (i + 1)) = .ok rest ∧ as ++ rest = rs,
        fun H' ⟨q1, q2, q3⟩ => ⟨ds.length - (i + 1), by omega, rfl, q1, q2, q3⟩, fun x H3 hx => ?_⟩
      obtain ⟨e3, rx⟩ := hy x H3 hx
      have hDa3 : H3 Da = some (.lst acc) := e3 _ _ hDa
      have nDa3 : H3 Da ≠ none := by rw [hDa3]; intro q; cases q
      have e13 := e2.trans e3
      have d0 := Der.start (G := G) (H := H3) m1 e13 hD vs
      have mx := d0.m m1 e13 hD nDa3
      unfold lcD at hr
      cases ha : t.asg ds[i] (wipeE ρ vs) with
      | none => rw [ha] at hr; cases hr
      | some ρ1 =>
        rw [ha] at hr
        dsimp only at hr
        refine ⟨_, _, _, ds[i], ρ1, mx, Rep.mono (fun a o h => ?_) _ _ rx, ha, fun σ2 my ap => ?_⟩
        · obtain ⟨h1, h2⟩ := hid_some.mp h
          exact hid_some.mpr ⟨fun z => h1 ((d0.ss a).mp (.inl z)), hid_some.mpr ⟨fun z => h1 ((d0.ss a).mp (.inr z)), h2⟩⟩
        · refine ⟨wipe_apart ht ap |>.trans ?_, _, _, ρ1, my, ?_⟩
          · have idem : ∀ us : List Nat, ∀ τ : L2.St, L2.wipe (L2.wipe τ us) us = L2.wipe τ us := fun us τ => wipe_apart (l := us) (fun _ z => z) ⟨wipe_length τ us, fun j hj => by
              have : ∀ (ws : List Nat), j ∉ ws → (L2.wipe τ ws)[j]? = τ[j]? := by
                intro ws
                induction ws with
                | nil => intro _; rfl
                | cons w ws ih =>
                  intro hw
                  show ((L2.wipe τ ws).set w none)[j]? = _
                  rw [set_other fun z => hw (by rw [z]; simp), ih fun z => hw (List.mem_cons_of_mem _ z)]
              exact this us hj⟩
            exact idem vs σ
          · have dy := d0.asg ha ht ap my
            cases hc : c ρ1 with
            | ex _ _ => rw [hc] at hr; cases hr
            | no => rw [hc] at hr; cases hr
            | ok b =>
              rw [hc] at hr
              intro H4 e4
              cases b with
              | false =>
                dsimp only at hr
                rw [if_neg Bool.false_ne_true]
                refine ⟨hlt, e13.trans e4, acc, as, rest, e4 _ _ hDa3, ?_, hr, hsum⟩
                exact Reps.mono (ex_hid (e3.trans e4) fun _ z => z) _ _ ra
              | true =>
                dsimp only at hr
                rw [if_pos rfl]
                refine ⟨_, _, ρ1, my.mono e4, ?_⟩
                cases hv : g ρ1 with
                | ex _ _ => rw [hv] at hr; cases hr
                | no => rw [hv] at hr; cases hr
                | ok val =>
                  rw [hv] at hr
                  dsimp only at hr
                  obtain ⟨rest', hr1, hr2⟩ := bind_ok hr
                  cases hr2
                  intro v H5 e5 rv
                  have rr := VRep.rep rv fun _ z => (my.mono e4).dom z
                  have hDa5 : H5 Da = some (.lst acc) := e5 _ _ (e4 _ _ hDa3)
                  have sub : ∀ a, ins1 (SS Se ρ σ) Da a → SS (SdOf Se ρ σ Da (wipeE ρ vs) (L2.wipe σ vs)) ρ1 σ2 a := fun a z => by
                    rcases (d0.ss a).mpr z with z | z
                    · exact .inl z
                    · obtain ⟨j, es, h1, h2⟩ := z
                      have nj : j ∉ t.slots := fun q => d0.no j (ht j q) es h1
                      exact .inr ⟨j, es, by rw [(asg_get t _ _ _ ha).1 j nj]; exact h1, by rw [ap.2 j nj]; exact h2⟩
                  refine ⟨acc, hDa5, ?_, hlt, Ex.mut (e13.trans (e4.trans e5)) hD, acc ++ [v], as ++ [val.d], rest', upd_same, ?_, hr1, by rw [List.append_assoc]; exact hsum⟩
                  · rw [ra.len]
                    have : rs.length = as.length + (rest'.length + 1) := by rw [← hsum]; simp
                    omega
                  · rw [hid_upd (.inr rfl)]
                    exact Reps.app (Reps.mono (ex_hid (e3.trans (e4.trans e5)) fun _ z => z) _ _ ra) (reps_one (Rep.mono (ex_hid (Ex.refl _) sub) _ _ rr))
    · have e : i = ds.length := by omega
      subst e
      rw [List.drop_length] at hr
      cases hr
      rw [List.append_nil] at hsum
      subst hsum
      refine .inl ⟨hit.2 rfl, ?_⟩
      exact p2 (.ref Da) H2 e2 ⟨Da, acc, rfl, hD, hDa, ra⟩
end
end Dn
namespace Dn
open PySem PySem.Spec PyProof.Rows L2 Evl

theorem wipe_idem (us : List Nat) (τ : L2.St) : L2.wipe (L2.wipe τ us) us = L2.wipe τ us := wipe_apart (l := us) (fun _ z => z) ⟨wipe_length τ us, fun j hj => by
  have : ∀ (ws : List Nat), j ∉ ws → (L2.wipe τ ws)[j]? = τ[j]? := by
    intro ws
    induction ws with
    | nil => intro _; rfl
    | cons w ws ih =>
      intro hw
      show ((L2.wipe τ ws).set w none)[j]? = _
      rw [set_other fun z => hw (by rw [z]; simp), ih fun z => hw (List.mem_cons_of_mem _ z)]
  exact this us hj⟩
/-- two clauses -/
def lc2D (t : Tg) (c : En → R Bool) (f2 : En → R (List D)) (vs1 : List Nat) (t2 : Tg) (c2 : En → R Bool) (g : En → R Val) (ρ : En) : List D → R (List D)
  | [] => .ok []
  | d :: ds => match t.asg d ρ with
    | none => .no
    | some ρ1 => match c ρ1 with
      | .ok true => match f2 ρ1 with
        | .ok es => match lcD t2 c2 g (wipeE ρ1 vs1) es with
          | .ok rs => (lc2D t c f2 vs1 t2 c2 g ρ ds).bind fun qs => .ok (rs ++ qs)
          | _ => .no
        | _ => .no
      | .ok false => lc2D t c f2 vs1 t2 c2 g ρ ds
      | _ => .no
noncomputable def eLc2 (vs : List Nat) (f : En → R (List D)) (t : Tg) (c : En → R Bool) (vs1 : List Nat) (f2 : En → R (List D)) (t2 : Tg) (c2 : En → R Bool) (g : En → R Val) : En → R Val := fun ρ => (f ρ).bind fun ds => match lc2D t c f2 vs1 t2 c2 g (wipeE ρ vs) ds with
  | .ok rs => chk (fit rs.length) (.ok (.fr rs))
  | _ => .no
section
variable {X : Cx} {G : Kx} {W : WX}
theorem Der.sub {Se : Addr → Prop} {H : Hp} {σ σx σy : L2.St} {ρ ρx ρy : En} {Da : Addr} {vs : List Nat} {t : Tg} {d : D} (d0 : Der G Se ρ σ Da vs σx H ρx) (ha : t.asg d ρx = some ρy) (ht : ∀ i ∈ t.slots, i ∈ vs) (ap : Apart t.slots σx σy) :
    ∀ a, ins1 (SS Se ρ σ) Da a → SS (SdOf Se ρ σ Da ρx σx) ρy σy a := fun a z => by
  rcases (d0.ss a).mpr z with z | z
  · exact .inl z
  · obtain ⟨j, es, h1, h2⟩ := z
    have nj : j ∉ t.slots := fun q => d0.no j (ht j q) es h1
    exact .inr ⟨j, es, by rw [(asg_get t _ _ _ ha).1 j nj]; exact h1, by rw [ap.2 j nj]; exact h2⟩
theorem Der.gnd {Se : Addr → Prop} {H : Hp} {σ σx : L2.St} {ρ ρx : En} {Da : Addr} {vs : List Nat} (d0 : Der G Se ρ σ Da vs σx H ρx) : Ex (hid (ins1 (SS Se ρ σ) Da) H) (hid (SdOf Se ρ σ Da ρx σx) (ground ρx σx H)) := fun a o h => by
  obtain ⟨h1, h2⟩ := hid_some.mp h
  exact hid_some.mpr ⟨fun z => h1 ((d0.ss a).mp (.inl z)), hid_some.mpr ⟨fun z => h1 ((d0.ss a).mp (.inr z)), h2⟩⟩
theorem lc2_imp {vs vs1 : List Nat} {f f2 : En → R (List D)} {t t2 : Tg} {c c2 : En → R Bool} {g : En → R Val} (ht : ∀ i ∈ t.slots, i ∈ vs) (ht2 : ∀ i ∈ t2.slots, i ∈ vs1) (hv : ∀ i ∈ vs1, i ∈ vs) {σ : L2.St} {H : Hp} {Q : VK} (h : tE G W (eLc2 vs f t c vs1 f2 t2 c2 g) σ H Q) :
    tLc2 (tI G W f) (gD G t) (tT G W0 c) (tI G W0 f2) (gD G t2) (tT G W0 c2) (tE G W0 g) vs vs1 σ H Q := by
  obtain ⟨Se, He, ρ, m, p⟩ := h
  refine ⟨Se, He, ρ, m, PostI.bindI p fun ds J H1 e1 it p1 => ?_⟩
  have m1 := m.mono e1
  cases hl : lc2D t c f2 vs1 t2 c2 g (wipeE ρ vs) ds with
  | ex _ _ => rw [hl] at p1; exact p1.elim
  | no => rw [hl] at p1; exact p1.elim
  | ok rs =>
    rw [hl] at p1
    obtain ⟨hsz', p2⟩ := PostE.chk p1
    have hsz := fit_iff.mp hsz'
    intro Da hD
    refine ⟨fun i k H2 => k = ds.length - i ∧ i ≤ ds.length ∧ Ex H1 H2 ∧ ∃ acc as rest, H2 Da = some (.lst acc) ∧ Reps G (hid (ins1 (SS Se ρ σ) Da) H2) as acc ∧ lc2D t c f2 vs1 t2 c2 g (wipeE ρ vs) (ds.drop i) = .ok rest ∧ as ++ rest = rs,
      ⟨ds.length, rfl, Nat.zero_le _, Ex.new hD, [], [], rs, upd_same, reps_nil, hl, rfl⟩, ?_⟩
    rintro i k H2 ⟨rfl, hi, e2, acc, as, rest, hDa, ra, hr, hsum⟩
    have hds : ∀ a, ins1 (SS Se ρ σ) Da a → H2 a ≠ none := fun a z => by
      rcases z with z | z
      · exact (m1.mono e2).dom z
      · rw [z, hDa]; intro q; cases q
    have hB : Ex (hid (SS Se ρ σ) H1) (hid (ins1 (SS Se ρ σ) Da) H2) := ex_hid2 e2 fun a z => by
      rcases z with z | z
      · exact .inl z
      · rw [z]; exact .inr hD
    have hit := it i H2 _ hds hB
    by_cases hlt : i < ds.length
    · have hd : ds[i]? = some ds[i] := List.getElem?_eq_getElem hlt
      rw [List.drop_eq_getElem_cons hlt] at hr
      obtain ⟨hgo, hy⟩ := hit.1 _ hd
      refine .inr ⟨hgo, fun H' => i + 1 ≤ ds.length ∧ Ex H1 H' ∧ ∃ acc as rest, H' Da = some (.lst acc) ∧ Reps G (hid (ins1 (SS Se ρ σ) Da) H') as acc ∧ lc2D t c f2 vs1 t2 c2 g (wipeE ρ vs) (ds.drop (i + 1)) = .ok rest ∧ as ++ rest = rs,
        fun H' ⟨q1, q2, q3⟩ => ⟨ds.length - (i + 1), by omega, rfl, q1, q2, q3⟩, fun x H3 hx => ?_⟩
      obtain ⟨e3, rx⟩ := hy x H3 hx
      have hDa3 : H3 Da = some (.lst acc) := e3 _ _ hDa
      have nDa3 : H3 Da ≠ none := by rw [hDa3]; intro q; cases q
      have e13 := e2.trans e3
      have d0 := Der.start (G := G) (H := H3) m1 e13 hD vs
      have mx := d0.m m1 e13 hD nDa3
      unfold lc2D at hr
      cases ha : t.asg ds[i] (wipeE ρ vs) with
      | none => rw [ha] at hr; cases hr
      | some ρ1 =>
        rw [ha] at hr
        dsimp only at hr
        refine ⟨_, _, _, ds[i], ρ1, mx, Rep.mono d0.gnd _ _ rx, ha, fun σ2 my ap => ?_⟩
        refine ⟨wipe_apart ht ap |>.trans (wipe_idem vs σ), _, _, ρ1, my, ?_⟩
        have dy := d0.asg ha ht ap my
        cases hc : c ρ1 with
        | ex _ _ => rw [hc] at hr; cases hr
        | no => rw [hc] at hr; cases hr
        | ok b =>
          rw [hc] at hr
          intro H4 e4
          cases b with
          | false =>
            dsimp only at hr
            rw [if_neg Bool.false_ne_true]
            refine ⟨hlt, e13.trans e4, acc, as, rest, e4 _ _ hDa3, ?_, hr, hsum⟩
            exact Reps.mono (ex_hid (e3.trans e4) fun _ z => z) _ _ ra
          | true =>
            dsimp only at hr
            rw [if_pos rfl]
            refine ⟨_, _, ρ1, my.mono e4, ?_⟩
            cases hf2 : f2 ρ1 with
            | ex _ _ => rw [hf2] at hr; cases hr
            | no => rw [hf2] at hr; cases hr
            | ok es =>
              rw [hf2] at hr
              dsimp only at hr
              cases hin : lcD t2 c2 g (wipeE ρ1 vs1) es with
              | ex _ _ => rw [hin] at hr; cases hr
              | no => rw [hin] at hr; cases hr
              | ok ins =>
                rw [hin] at hr
                dsimp only at hr
                obtain ⟨qs, hr1, hr2⟩ := bind_ok hr
                cases hr2
                intro J1 H5 e5 it1
                have hDa5 : H5 Da = some (.lst acc) := e5 _ _ (e4 _ _ hDa3)
                have e15 : Ex H1 H5 := e13.trans (e4.trans e5)
                have ra5 : Reps G (hid (ins1 (SS Se ρ σ) Da) H5) as acc := Reps.mono (ex_hid (e3.trans (e4.trans e5)) fun _ z => z) _ _ ra
                -- what the inner clause walks stands while Da grows
                have sub := d0.sub ha ht ap
                refine ⟨fun j k H6 => k = es.length - j ∧ j ≤ es.length ∧ Ex (hid (ins1 (SS Se ρ σ) Da) H5) (hid (ins1 (SS Se ρ σ) Da) H6) ∧ Ex H1 H6 ∧ ∃ acc as2 rest2, H6 Da = some (.lst acc) ∧ Reps G (hid (ins1 (SS Se ρ σ) Da) H6) as2 acc ∧ lcD t2 c2 g (wipeE ρ1 vs1) (es.drop j) = .ok rest2 ∧ as2 ++ rest2 = as ++ ins,
                  ⟨es.length, rfl, Nat.zero_le _, Ex.refl _, e15, acc, as, ins, hDa5, ra5, hin, rfl⟩, ?_⟩
                rintro j k H6 ⟨rfl, hj, eB, e16, acc6, as6, rest6, hDa6, ra6, hr6, hs6⟩
                have hds6 : ∀ a, ins1 (SS Se ρ σ) Da a → H6 a ≠ none := fun a z => by
                  rcases z with z | z
                  · exact (m1.mono e16).dom z
                  · rw [z, hDa6]; intro q; cases q
                have hB6 : Ex (hid (SS (SdOf Se ρ σ Da (wipeE ρ vs) (L2.wipe σ vs)) ρ1 σ2) H5) (hid (ins1 (SS Se ρ σ) Da) H6) := (ex_hid (Ex.refl _) sub).trans eB
                have hit6 := it1 j H6 _ hds6 hB6
                by_cases hlt6 : j < es.length
                · have he : es[j]? = some es[j] := List.getElem?_eq_getElem hlt6
                  rw [List.drop_eq_getElem_cons hlt6] at hr6
                  obtain ⟨hgo6, hy6⟩ := hit6.1 _ he
                  refine .inr ⟨hgo6, fun H' => j + 1 ≤ es.length ∧ Ex (hid (ins1 (SS Se ρ σ) Da) H5) (hid (ins1 (SS Se ρ σ) Da) H') ∧ Ex H1 H' ∧ ∃ acc as2 rest2, H' Da = some (.lst acc) ∧ Reps G (hid (ins1 (SS Se ρ σ) Da) H') as2 acc ∧ lcD t2 c2 g (wipeE ρ1 vs1) (es.drop (j + 1)) = .ok rest2 ∧ as2 ++ rest2 = as ++ ins,
                    fun H' ⟨q1, q2, q3⟩ => ⟨es.length - (j + 1), by omega, rfl, q1, q2, q3⟩, fun x7 H7 hx7 => ?_⟩
                  obtain ⟨e7, rx7⟩ := hy6 x7 H7 hx7
                  have hDa7 : H7 Da = some (.lst acc6) := e7 _ _ hDa6
                  have nDa7 : H7 Da ≠ none := by rw [hDa7]; intro q; cases q
                  have e17 := e16.trans e7
                  -- the environment of the outer turn, at this heap
                  have dy7 : Der G Se ρ σ Da vs σ2 H7 ρ1 := ⟨dy.len, dy.ow, fun i x h => by
                    obtain ⟨v, a, r⟩ := dy.sh i x h
                    exact ⟨v, a, Rep.mono (((ex_hid (e4.trans e5) fun _ z => z).trans eB).trans (ex_hid e7 fun _ z => z)) _ _ r⟩, dy.no⟩
                  have dw7 := dy7.wipe vs1
                  have mw7 := dw7.m m1 e17 hD nDa7
                  unfold lcD at hr6
                  cases ha7 : t2.asg es[j] (wipeE ρ1 vs1) with
                  | none => rw [ha7] at hr6; cases hr6
                  | some ρ3 =>
                    rw [ha7] at hr6
                    dsimp only at hr6
                    refine ⟨_, _, _, es[j], ρ3, mw7, Rep.mono dw7.gnd _ _ rx7, ha7, fun σ3 my7 ap7 => ?_⟩
                    have ht2v : ∀ i ∈ t2.slots, i ∈ vs := fun i q => hv i (ht2 i q)
                    refine ⟨wipe_apart ht2 ap7 |>.trans (wipe_idem vs1 σ2), _, _, ρ3, my7, ?_⟩
                    have sub7 := dw7.sub ha7 ht2v ap7
                    cases hc7 : c2 ρ3 with
                    | ex _ _ => rw [hc7] at hr6; cases hr6
                    | no => rw [hc7] at hr6; cases hr6
                    | ok b7 =>
                      rw [hc7] at hr6
                      intro H8 e8
                      cases b7 with
                      | false =>
                        dsimp only at hr6
                        rw [if_neg Bool.false_ne_true]
                        exact ⟨hlt6, eB.trans (ex_hid (e7.trans e8) fun _ z => z), e17.trans e8, acc6, as6, rest6, e8 _ _ hDa7, Reps.mono (ex_hid (e7.trans e8) fun _ z => z) _ _ ra6, hr6, hs6⟩
                      | true =>
                        dsimp only at hr6
                        rw [if_pos rfl]
                        refine ⟨_, _, ρ3, my7.mono e8, ?_⟩
                        cases hv7 : g ρ3 with
                        | ex _ _ => rw [hv7] at hr6; cases hr6
                        | no => rw [hv7] at hr6; cases hr6
                        | ok val =>
                          rw [hv7] at hr6
                          dsimp only at hr6
                          obtain ⟨rest8, hr8, hr9⟩ := bind_ok hr6
                          cases hr9
                          intro v H9 e9 rv
                          have rr := VRep.rep rv fun _ z => (my7.mono e8).dom z
                          have hDa9 : H9 Da = some (.lst acc6) := e9 _ _ (e8 _ _ hDa7)
                          refine ⟨acc6, hDa9, ?_, hlt6, ?_, Ex.mut (e17.trans (e8.trans e9)) hD, acc6 ++ [v], as6 ++ [val.d], rest8, upd_same, ?_, hr8, by rw [List.append_assoc]; exact hs6⟩
                          · rw [ra6.len]
                            have h1 : (as6 ++ val.d :: rest8).length = (as ++ ins).length := by rw [hs6]
                            have h2 : (as ++ (ins ++ qs)).length ≤ sizeLine := by rw [hsum]; exact hsz
                            simp only [List.length_append, List.length_cons] at h1 h2
                            omega
                          · rw [hid_upd (.inr rfl)]
                            exact eB.trans (ex_hid (e7.trans (e8.trans e9)) fun _ z => z)
                          · rw [hid_upd (.inr rfl)]
                            exact Reps.app (Reps.mono (ex_hid (e7.trans (e8.trans e9)) fun _ z => z) _ _ ra6) (reps_one (Rep.mono (ex_hid (Ex.refl _) sub7) _ _ rr))
                · have e : j = es.length := by omega
                  subst e
                  rw [List.drop_length] at hr6
                  cases hr6
                  rw [List.append_nil] at hs6
                  exact .inl ⟨hit6.2 rfl, hlt, e16, acc6, as6, qs, hDa6, ra6, hr1, by rw [hs6, List.append_assoc]; exact hsum⟩
    · have e : i = ds.length := by omega
      subst e
      rw [List.drop_length] at hr
      cases hr
      rw [List.append_nil] at hsum
      subst hsum
      refine .inl ⟨hit.2 rfl, ?_⟩
      exact p2 (.ref Da) H2 e2 ⟨Da, acc, rfl, hD, hDa, ra⟩
theorem d_yes {X : Cx} : PTs X [] (tT G W0 tYesD) := ⟨fun pins s σ H Q I h => pts_nil.run pins s σ H Q I (by
  obtain ⟨Se, He, ρ, m, p⟩ := h
  exact p H (Ex.refl H))⟩
end

/-! ## statements -/
def PostS (G : Kx) (W : WX) (Dn : Ends) (Se : Addr → Prop) (He : Hp) : Out → Prop
  | .nx ρ' => ∀ σ' H', M G Se He σ' H' ρ' → Dn.nx σ' H'
  | .bk ρ' => ∀ σ' H', M G Se He σ' H' ρ' → Dn.bk σ' H'
  | .ct ρ' => ∀ σ' H', M G Se He σ' H' ρ' → Dn.ct σ' H'
  | .rt val => ∀ v H', Ex He H' → VRep G Se He H' v val → Dn.rt v H'
  | .ex c d ρ' => ∀ cls dd σ' H', M G Se He σ' H' ρ' → XRep G (SS Se ρ' σ') H' cls dd c d → W cls dd σ' H'
  | .no => False
def tS (G : Kx) (W : WX) (f : En → Out) : TS := fun Dn σ H => ∃ Se He ρ, M G Se He σ H ρ ∧ PostS G W Dn Se He (f ρ)
section
variable {X : Cx} {G : Kx} {W : WX}
theorem PostS.lower {Dn : Ends} {Se : Addr → Prop} {He Hg : Hp} {o : Out} (h : PostS G W Dn Se He o) (e : Ex He Hg) (hs : ∀ a, Se a → He a ≠ none) : PostS G W Dn Se Hg o := by
  cases o with
  | nx ρ => exact fun σ' H' m => h σ' H' (m.lower e hs)
  | bk ρ => exact fun σ' H' m => h σ' H' (m.lower e hs)
  | ct ρ => exact fun σ' H' m => h σ' H' (m.lower e hs)
  | rt val => exact fun v H' e' r => h v H' (e.trans e') (r.back e)
  | ex c d ρ => exact fun cls dd σ' H' m x => h cls dd σ' H' (m.lower e hs) x
  | no => exact h
def sSeq (f g : En → Out) : En → Out := fun ρ => match f ρ with
  | .nx ρ' => g ρ'
  | .bk ρ' => .bk ρ'
  | .ct ρ' => .ct ρ'
  | .rt v => .rt v
  | .ex c d ρ' => .ex c d ρ'
  | .no => .no
def sNx : En → Out := fun ρ => .nx ρ
variable {st : Stmt} {rest : List Stmt} {f g : En → Out} {pos : Pos}
theorem d_snil : PSs X [] (tS G W sNx) := pss_nil.imp fun Dn σ H ⟨Se, He, ρ, m, p⟩ => p σ H m
theorem d_sone (h1 : PS X st (tS G W f)) : PSs X [st] (tS G W f) := pss_one h1
theorem d_scons (h1 : PS X st (tS G W f)) (h2 : PSs X rest (tS G W g)) : PSs X (st :: rest) (tS G W (sSeq f g)) := (pss_cons h1 h2).imp fun Dn σ H ⟨Se, He, ρ, m, p⟩ => by
  refine ⟨Se, He, ρ, m, ?_⟩
  unfold sSeq at p
  cases hf : f ρ with
  | nx ρ' => rw [hf] at p; exact fun σ' H' m' => ⟨Se, He, ρ', m', p⟩
  | bk ρ' => rw [hf] at p; exact p
  | ct ρ' => rw [hf] at p; exact p
  | rt v => rw [hf] at p; exact p
  | ex c d ρ' => rw [hf] at p; exact p
  | no => rw [hf] at p; exact p
def Out.ofE (r : R Val) (ρ : En) (k : Val → Out) : Out := match r with
  | .ok v => k v
  | .ex c d => .ex c d ρ
  | .no => .no
theorem PostS.ofE {Dn : Ends} {Se : Addr → Prop} {He : Hp} {σ : L2.St} {H : Hp} {ρ : En} {r : R Val} {k : Val → Out} {Q : VK} (m : M G Se He σ H ρ) (h : PostS G W Dn Se He (Out.ofE r ρ k))
    (hk : ∀ val v H', Ex H H' → VRep G (SS Se ρ σ) H H' v val → PostS G W Dn Se He (k val) → Q v H') : PostE G (SS Se ρ σ) H (WS W σ) Q r := by
  cases r with
  | ok val => exact fun v H' e vr => hk val v H' e vr h
  | ex c d => exact fun cls dd H' e x => h cls dd σ H' (m.mono e) x
  | no => exact h
def sAsg (i : Nat) (f : En → R Val) : En → Out := fun ρ => Out.ofE (f ρ) ρ fun v => .nx (ρ.set i v.s)
variable {e : Expr} {fe : En → R Val}
theorem asg_imp {i : Nat} {Dn : Ends} {σ : L2.St} {H : Hp} (h : tS G W (sAsg i fe) Dn σ H) : tAsg (tE G W fe) (gName i) Dn σ H := by
  obtain ⟨Se, He, ρ, m, p⟩ := h
  exact ⟨Se, He, ρ, m, PostS.ofE m p fun val v H' e' r p' => p' _ _ (m.set e' i r)⟩
theorem d_asg {i : Nat} (h : ∀ te, PE X e te → PS X st (tAsg te (gName i))) (h1 : PE X e (tE G W fe)) : PS X st (tS G W (sAsg i fe)) := (h _ h1).imp fun _ _ _ q => asg_imp q
def sAsgT (t : Tg) (f : En → R Val) : En → Out := fun ρ => Out.ofE (f ρ) ρ fun v => match t.asg v.d ρ with
  | some ρ' => .nx ρ'
  | none => .no
/-- the statement with a target of several names -/
theorem d_asgT {tg : Expr} {t : Tg} (h1 : PE X e (tE G W fe)) (hg : PG X tg (gD G t)) (hs : swapsWithSole [tg] e pos.line X.env = pure false := by rfl) (hw : swappedStores [tg] e X.env = pure none := by rfl)
    (ha : (assignEach [tg] X.env).map (·.2) = [assign tg X.env] := by rfl) : PS X (.Assign [tg] e pos) (tS G W (sAsgT t fe)) := (ps_asg h1 hg hs hw ha).imp fun Dn σ H ⟨Se, He, ρ, m, p⟩ =>
  ⟨Se, He, ρ, m, PostS.ofE m p fun val v H' e' r p' => by
    cases ht : t.asg val.d ρ with
    | none => rw [ht] at p'; exact p'.elim
    | some ρ' =>
      rw [ht] at p'
      have m' := m.mono e'
      have rr := VRep.rep r fun _ z => m.dom z
      exact ⟨Se, ground ρ σ H', ρ, val.d, ρ', m'.rebase, Rep.mono (ground_hid H') _ _ rr, ht, fun σ' m2 _ => p' σ' H' (m2.lower m'.ground_ex m.se)⟩⟩
def sIf (c : En → R Bool) (f g : En → Out) : En → Out := fun ρ => match c ρ with
  | .ok true => f ρ
  | .ok false => g ρ
  | .ex c d => .ex c d ρ
  | .no => .no
variable {c : Expr} {tc : En → R Bool} {a b : List Stmt}
theorem d_if (h0 : PT X c (tT G W tc)) (h1 : PSs X a (tS G W f)) (h2 : PSs X b (tS G W g)) : PS X (.If c a b pos) (tS G W (sIf tc f g)) := (ps_if h0 h1 h2).imp fun Dn σ H ⟨Se, He, ρ, m, p⟩ => ⟨Se, He, ρ, m, by
  unfold sIf at p
  cases hc : tc ρ with
  | ok k =>
    rw [hc] at p
    intro H' e'
    cases k with
    | true => rw [if_pos rfl]; exact ⟨Se, He, ρ, m.mono e', p⟩
    | false => rw [if_neg Bool.false_ne_true]; exact ⟨Se, He, ρ, m.mono e', p⟩
  | ex c d => rw [hc] at p; exact fun cls dd H' e' x => p cls dd σ H' (m.mono e') x
  | no => rw [hc] at p; exact p.elim⟩
def sRet (f : En → R Val) : En → Out := fun ρ => Out.ofE (f ρ) ρ .rt
theorem ss_se {Se : Addr → Prop} {ρ : En} {σ : L2.St} : ∀ a, Se a → SS Se ρ σ a := fun a z => .inl z
theorem d_ret (h1 : PE X e (tE G W fe)) : PS X (.Return (some e) pos) (tS G W (sRet fe)) := (ps_ret h1).imp fun Dn σ H ⟨Se, He, ρ, m, p⟩ =>
  ⟨Se, He, ρ, m, PostS.ofE m p fun val v H' e' r p' => p' v H' (m.ext.trans e') ((r.less ss_se).back m.ext)⟩
/-- return of a name that may own its list -/
def sRetV (i : Nat) : En → Out := fun ρ => match slt ρ i with
  | some (.sh d) => .rt (.sh d)
  | some (.ow ds) => .rt (.fr ds)
  | _ => .no
theorem d_retV {i : Nat} (h : PE X e (tVar i)) : PS X (.Return (some e) pos) (tS G W (sRetV i)) := (ps_ret h).imp fun Dn σ H ⟨Se, He, ρ, m, p⟩ => by
  unfold sRetV at p
  rw [slt_eq] at p
  split at p
  · rename_i d hd
    obtain ⟨v, e1, r⟩ := m.sh i d hd
    exact ⟨v, e1, p v H m.ext (Rep.mono (ex_hid (Ex.refl _) ss_se) _ _ r)⟩
  · rename_i ds hd
    obtain ⟨q, vs, e1, q1, q2, r⟩ := m.ow i ds hd
    refine ⟨.ref q, e1, p (.ref q) H m.ext ⟨q, vs, rfl, q1, q2, Reps.mono (ex_hid (Ex.refl _) fun a z => ?_) _ _ r⟩⟩
    rcases z with z | z
    · exact .inl z
    · exact .inr ⟨i, ds, hd, by rw [z]; exact e1⟩
  · exact p.elim
theorem d_retN : PS X (.Return none pos) (tS G W fun _ => .rt (.sh .non)) := ps_retN.imp fun Dn σ H ⟨Se, He, ρ, m, p⟩ => p .non H m.ext (by show Rep _ _ _ _; unfold Rep; rfl)
def sDrop (f : En → R Val) : En → Out := fun ρ => Out.ofE (f ρ) ρ fun _ => .nx ρ
theorem d_drop (h1 : PE X e (tE G W fe)) (hs : swapsWith e none pos.line X.env = pure false := by rfl) : PS X (.Expr e pos) (tS G W (sDrop fe)) := (ps_expr h1 hs).imp fun Dn σ H ⟨Se, He, ρ, m, p⟩ =>
  ⟨Se, He, ρ, m, PostS.ofE m p fun val v H' e' r p' => p' σ H' (m.mono e')⟩
theorem d_pass : PS X (.Pass pos) (tS G W sNx) := ps_pass.imp fun Dn σ H ⟨Se, He, ρ, m, p⟩ => p σ H m
theorem d_break : PS X (.Break pos) (tS G W .bk) := ps_break.imp fun Dn σ H ⟨Se, He, ρ, m, p⟩ => p σ H m
theorem d_cont : PS X (.Continue pos) (tS G W .ct) := ps_continue.imp fun Dn σ H ⟨Se, He, ρ, m, p⟩ => p σ H m
theorem d_doc {x : Str} {j : Nat} {pos' : Pos} : PS X (.Expr (.Constant (.str x) j pos) pos') (tS G W sNx) := ps_doc.imp fun Dn σ H ⟨Se, He, ρ, m, p⟩ => p σ H m
/-- a name's list is given up ahead of a statement -/
def frz (i : Nat) (f : En → Out) : En → Out := fun ρ => match slt ρ i with
  | some (.ow ds) => f (ρ.set i (.sh (.lst ds)))
  | _ => f ρ
theorem d_frz (i : Nat) (h : PS X st (tS G W f)) : PS X st (tS G W (frz i f)) := h.imp fun Dn σ H ⟨Se, He, ρ, m, p⟩ => by
  unfold frz at p
  rw [slt_eq] at p
  split at p
  · rename_i ds hd; exact ⟨Se, He, _, m.freeze hd, p⟩
  · exact ⟨Se, He, ρ, m, p⟩
/-! ### changes of an owned list -/
def owned (ρ : En) (i : Nat) : Option (List D) := match slt ρ i with
  | some (.ow ds) => some ds
  | _ => none
theorem owned_eq {ρ : En} {i : Nat} {ds : List D} (h : owned ρ i = some ds) : ρ[i]? = some (.ow ds) := by
  unfold owned at h
  rw [slt_eq] at h
  split at h
  · rename_i es e; cases h; exact e
  · cases h
noncomputable def sApp (i : Nat) (f : En → R Val) : En → Out := fun ρ => match owned ρ i with
  | some ds => Out.ofE (f ρ) ρ fun v => match fitS ds.length with
    | true => .nx (ρ.set i (.ow (ds ++ [v.d])))
    | false => .no
  | none => .no
theorem d_app {i : Nat} (hG : X.K = G.K) (h1 : PE X e (tE G W fe)) (h : ∀ t, PA X [e] t → PS X st (tDrop (tBM X.K "list" rAppend (tVar i) t))) (hst : starEach [e] X.env = (false, eval e X.env) :: starEach [] X.env := by rfl) :
    PS X st (tS G W (sApp i fe)) := (h _ (pa_cons h1 pa_nil hst)).imp fun Dn σ H ⟨Se, He, ρ, m, p⟩ => by
  rw [hG]
  unfold sApp at p
  split at p
  · rename_i ds ho
    have ho := owned_eq ho
    obtain ⟨q, vs, e1, q1, q2, rs⟩ := m.ow i ds ho
    refine ⟨.ref q, e1, .inl ⟨rfl, vs, sq_of q2⟩, Se, He, ρ, m, PostS.ofE m p fun val v H' e' r p' => ?_⟩
    split at p'
    · rename_i hz0
      have hz := fitS_iff.mp hz0
      refine ⟨q, vs, v, rfl, rfl, e' _ _ q2, by rw [rs.len]; exact hz, ?_⟩
      have m' := m.mono e'
      have rr := VRep.rep r fun _ z => m.dom z
      exact p' σ _ (m'.change ho e1 (Reps.app (Reps.mono (ex_hid e' fun _ z => z) _ _ rs) (reps_one rr)))
    · exact p'.elim
  · exact p.elim
def sPop (i : Nat) : En → Out := fun ρ => match owned ρ i with
  | some ds => if ds = [] then .no else .nx (ρ.set i (.ow ds.dropLast))
  | none => .no
instance decNil (ds : List D) : Decidable (ds = []) := match ds with
  | [] => isTrue rfl
  | _ :: _ => isFalse (by simp)
theorem Reps.dropLast {H : Hp} : ∀ {ds : List D} {vs : List V}, Reps G H ds vs → Reps G H ds.dropLast vs.dropLast := fun {ds vs} h => by
  rw [List.dropLast_eq_take, List.dropLast_eq_take, h.len]; exact h.take _
theorem d_pop {i : Nat} (hG : X.K = G.K) (h : PS X st (tDrop (tBM0 X.K "list" rPop (tVar i)))) : PS X st (tS G W (sPop i)) := h.imp fun Dn σ H ⟨Se, He, ρ, m, p⟩ => by
  rw [hG]
  unfold sPop at p
  split at p
  · rename_i ds ho
    have ho := owned_eq ho
    obtain ⟨q, vs, e1, q1, q2, rs⟩ := m.ow i ds ho
    split at p
    · exact p.elim
    · rename_i hne
      have hl : 0 < vs.length := by
        rw [rs.len]
        cases ds with
        | nil => exact absurd rfl hne
        | cons d r => simp
      refine ⟨.ref q, e1, .inl ⟨rfl, vs, sq_of q2⟩, q, vs, vs[vs.length - 1], rfl, rfl, q2, by simp, ?_⟩
      exact p σ _ (m.change ho e1 rs.dropLast)
  · exact p.elim
def sRev (i : Nat) : En → Out := fun ρ => match owned ρ i with
  | some ds => .nx (ρ.set i (.ow ds.reverse))
  | none => .no
theorem d_rev {i : Nat} (hG : X.K = G.K) (h : PS X st (tDrop (tBM0 X.K "list" rReverse (tVar i)))) : PS X st (tS G W (sRev i)) := h.imp fun Dn σ H ⟨Se, He, ρ, m, p⟩ => by
  rw [hG]
  unfold sRev at p
  split at p
  · rename_i ds ho
    have ho := owned_eq ho
    obtain ⟨q, vs, e1, q1, q2, rs⟩ := m.ow i ds ho
    refine ⟨.ref q, e1, .inl ⟨rfl, vs, sq_of q2⟩, q, vs, rfl, rfl, q2, ?_⟩
    exact p σ _ (m.change ho e1 rs.rev)
  · exact p.elim
/-- name[k] = e -/
def sSet (i : Nat) (g f : En → R Val) : En → Out := fun ρ => Out.ofE (f ρ) ρ fun v => match owned ρ i with
  | some ds => Out.ofE (g ρ) ρ fun k => match k with
    | .sh (.int j) => match ixN ds.length j with
      | some n => .nx (ρ.set i (.ow (ds.set n v.d)))
      | none => .no
    | _ => .no
  | none => .no
theorem d_setI {i : Nat} {ge : En → R Val} (h : PS X st (tAsg (tE G W fe) (gSub (tVar i) (tE G W ge) rSetL))) : PS X st (tS G W (sSet i ge fe)) := h.imp fun Dn σ H ⟨Se, He, ρ, m, p⟩ => by
  refine ⟨Se, He, ρ, m, PostS.ofE m p fun val v H' e' r p' => ?_⟩
  have m' := m.mono e'
  split at p'
  · rename_i ds ho
    have ho := owned_eq ho
    obtain ⟨q, vs, e1, q1, q2, rs⟩ := m'.ow i ds ho
    have rr := VRep.rep r fun _ z => m.dom z
    refine ⟨.ref q, e1, Se, He, ρ, m', PostS.ofE m' p' fun vk k H2 e2 rk p2 => ?_⟩
    have m2 := m'.mono e2
    split at p2
    · rename_i j
      split at p2
      · rename_i n hn
        refine ⟨q, vs, j, n, rfl, vrep_int rk, e2 _ _ q2, by rw [rs.len]; exact hn, ?_⟩
        exact p2 σ _ (m2.change ho e1 (Reps.set n (Reps.mono (ex_hid e2 fun _ z => z) _ _ rs) (Rep.mono (ex_hid e2 fun _ z => z) _ _ rr)))
      · exact p2.elim
    · exact p2.elim
  · exact p'.elim
/-- name op= e on ints -/
def sAug (F : Int → Int → Int) (i : Nat) (f : En → R Val) : En → Out := fun ρ => match slt ρ i with
  | some (.sh (.int a)) => Out.ofE (f ρ) ρ fun v => match v with
    | .sh (.int b) => .nx (ρ.set i (.sh (.int (F a b))))
    | _ => .no
  | _ => .no
theorem d_aug {F : Int → Int → Int} {i : Nat} (h : ∀ te, PE X e te → PS X st (tAug i te (ipI F))) (h1 : PE X e (tE G W fe)) : PS X st (tS G W (sAug F i fe)) := (h _ h1).imp fun Dn σ H ⟨Se, He, ρ, m, p⟩ => by
  unfold sAug at p
  rw [slt_eq] at p
  split at p
  · rename_i a ha
    obtain ⟨v, e1, r⟩ := m.sh i _ ha
    have := rep_int r
    subst this
    refine ⟨_, e1, Se, He, ρ, m, PostS.ofE m p fun val v H' e' rv p' => ?_⟩
    split at p'
    · rename_i b
      refine ⟨a, b, rfl, vrep_int rv, ?_⟩
      exact p' _ _ (m.set e' i (val := .sh (.int (F a b))) (by show Rep _ _ _ _; unfold Rep; rfl))
    · exact p'.elim
  · exact p.elim
/-! ### for -/
def loopD (t : Tg) (body : En → Out) : List D → En → Out
  | [], ρ => .nx ρ
  | d :: ds, ρ => match t.asg d ρ with
    | none => .no
    | some ρ1 => match body ρ1 with
      | .nx ρ2 => loopD t body ds ρ2
      | .ct ρ2 => loopD t body ds ρ2
      | .bk ρ2 => .nx ρ2
      | .rt v => .rt v
      | .ex c d ρ2 => .ex c d ρ2
      | .no => .no
def sFor (f : En → R (List D)) (t : Tg) (body : En → Out) : En → Out := fun ρ => match f ρ with
  | .ok ds => loopD t body ds ρ
  | .ex c d => .ex c d ρ
  | .no => .no
theorem for_imp {fl : En → R (List D)} {t : Tg} {body : En → Out} {Dn : Ends} {σ : L2.St} {H : Hp} (h : tS G W (sFor fl t body) Dn σ H) : tFor (tI G W fl) (gD G t) (tS G W body) Dn σ H := by
  obtain ⟨Se, He, ρ, m, p⟩ := h
  refine ⟨Se, He, ρ, m, ?_⟩
  unfold sFor at p
  cases hf : fl ρ with
  | ex c d => rw [hf] at p; exact fun cls dd H' e' x => p cls dd σ H' (m.mono e') x
  | no => rw [hf] at p; exact p.elim
  | ok ds =>
    rw [hf] at p
    intro J H1 e1 it
    have m1 := m.mono e1
    have mg := m1.rebase
    have hg : Ex He (ground ρ σ H1) := m1.ground_ex
    have hst : Ex (hid (SS Se ρ σ) H1) (hid Se (ground ρ σ H1)) := ground_hid H1
    refine ⟨fun i k σ' H' => k = ds.length - i ∧ i ≤ ds.length ∧ ∃ ρ', M G Se (ground ρ σ H1) σ' H' ρ' ∧ PostS G W Dn Se He (loopD t body (ds.drop i) ρ'), ⟨ds.length, rfl, Nat.zero_le _, ρ, mg, p⟩, ?_⟩
    rintro i k σ' H' ⟨rfl, hi, ρ', m', p'⟩
    have hit := it i H' (SS Se ρ' σ') (fun _ z => m'.dom z) (hst.trans m'.stable)
    by_cases hlt : i < ds.length
    · have hd : ds[i]? = some ds[i] := List.getElem?_eq_getElem hlt
      rw [List.drop_eq_getElem_cons hlt] at p'
      obtain ⟨hgo, hy⟩ := hit.1 _ hd
      refine .inr ⟨hgo, fun σ2 H2 => i + 1 ≤ ds.length ∧ ∃ ρ2, M G Se (ground ρ σ H1) σ2 H2 ρ2 ∧ PostS G W Dn Se He (loopD t body (ds.drop (i + 1)) ρ2), fun σ2 H2 ⟨a, b⟩ => ⟨ds.length - (i + 1), by omega, rfl, a, b⟩, fun x H3 hx => ?_⟩
      obtain ⟨e3, rx⟩ := hy x H3 hx
      have m3 := m'.mono e3
      unfold loopD at p'
      cases ha : t.asg ds[i] ρ' with
      | none => rw [ha] at p'; exact p'.elim
      | some ρ1 =>
        rw [ha] at p'
        dsimp only at p'
        refine ⟨Se, ground ρ' σ' H3, ρ', ds[i], ρ1, m3.rebase, Rep.mono (ground_hid H3) _ _ rx, ha, fun σ2 m2 ap => ?_⟩
        have m2' := m2.lower (m3.ground_ex) mg.se
        refine ⟨Se, ground ρ σ H1, ρ1, m2', ?_⟩
        cases hb : body ρ1 with
        | nx ρ2 => rw [hb] at p'; exact fun σ4 H4 m4 => ⟨hlt, ρ2, m4, p'⟩
        | ct ρ2 => rw [hb] at p'; exact fun σ4 H4 m4 => ⟨hlt, ρ2, m4, p'⟩
        | bk ρ2 => rw [hb] at p'; exact fun σ4 H4 m4 => p' σ4 H4 (m4.lower hg m.se)
        | rt val => rw [hb] at p'; exact fun v H4 e4 r4 => p' v H4 (hg.trans e4) (r4.back hg)
        | ex c d ρ2 => rw [hb] at p'; exact fun cls dd σ4 H4 m4 x => p' cls dd σ4 H4 (m4.lower hg m.se) x
        | no => rw [hb] at p'; exact p'.elim
    · have e : i = ds.length := by omega
      subst e
      rw [List.drop_length] at p'
      exact .inl ⟨hit.2 rfl, p' σ' H' (m'.lower hg m.se)⟩
variable {tg iter : Expr} {fl : En → R (List D)} {t : Tg} {body : List Stmt} {fb : En → Out}
theorem d_for (hp : PassesOwn (model X.prog X.w) X.A X.env X.xe) (hc : X.calm = true) (hi : PI X tg iter (tI G W fl)) (hg : PG X tg (gD G t)) (hb : PSs X body (tS G W fb)) (hs : ∀ x, foldedSetIterable iter X.env x = pure x := by intro _; rfl) :
    PS X (.For tg iter body [] pos) (tS G W (sFor fl t fb)) := (ps_for hp hc hi hg hb hs).imp fun _ _ _ q => for_imp q
/-! ### a def -/
def runD (k : Nat) (den : En → Out) (ds : List D) : R Val := match den (ds.map .sh ++ List.replicate (k - ds.length) .un) with
  | .rt v => .ok v
  | .nx _ => .ok (.sh .non)
  | .ex c d _ => .ex c d
  | _ => .no
def WE (E : XK) : WX := fun cls d _ H => E cls d H
theorem start_m {Se : Addr → Prop} {H : Hp} {ds : List D} {vs : List V} (N : List Str) (hs : ∀ a, Se a → H a ≠ none) (r : Reps G (hid Se H) ds vs) : M G Se H (L2.start N vs) H (ds.map .sh ++ List.replicate (N.length - ds.length) .un) := by
  have hl := r.len
  have noown : ∀ (i : Nat) (es : List D), (ds.map Sl.sh ++ List.replicate (N.length - ds.length) Sl.un)[i]? ≠ some (Sl.ow es) := fun i es h => by
    rw [List.getElem?_append] at h
    split at h
    · rw [List.getElem?_map] at h
      cases e : ds[i]? with
      | none => rw [e] at h; cases h
      | some d => rw [e] at h; cases h
    · rw [List.getElem?_replicate] at h
      split at h
      · cases h
      · cases h
  refine ⟨Ex.refl H, by simp [L2.start, hl], hs, fun i d h => ?_, fun i es h => absurd h (noown i es), fun i j es fs p h => absurd h (noown i es)⟩
  have hin : i < ds.length ∧ ds[i]? = some d := by
    rw [List.getElem?_append] at h
    split at h
    · rename_i hlt
      rw [List.getElem?_map] at h
      cases e : ds[i]? with
      | none => rw [e] at h; cases h
      | some d' => rw [e] at h; cases h; exact ⟨by simpa using hlt, rfl⟩
    · rw [List.getElem?_replicate] at h
      split at h
      · cases h
      · cases h
  obtain ⟨v, hv, rv⟩ := r.at hin.2
  refine ⟨v, ?_, Rep.mono (ex_hid (Ex.refl _) fun a z => ?_) _ _ rv⟩
  · unfold L2.start
    rw [List.getElem?_append_left (by simp [hl, hin.1]), List.getElem?_map, hv]
    rfl
  · rcases z with z | ⟨j, es, z, _⟩
    · exact z
    · exact absurd z (noown j es)
theorem fn_den0 {P : Program} {w : World} {K : PySem.W.Frag} {mg : Str → Option Value} {base : Heap} {x qual : Str} {st : Stmt} {f : Addr} {fd : FuncData} {N ps : List Str} {k n : Nat} {den : En → Out} (F : Fun K x qual st f fd) (S : FnScope N ps (defScope st)) (hn : ps.length = n := by rfl)
    (hbody : ∀ (cdv : Value) (A : Around) (outer : List Env) (s : Shared) (H : Hp) (E : XK), Room k (A.deeper (envOfC qual (defScope st) s.heap.objs.size f cdv)) → PSs (cxOf (L2.CX P w) P w K mg base N qual (defScope st) f cdv A outer s H E) (defBody st) (tS G (WE E) den)) :
    FnOk P w K mg base (L2.CX P w) (k + 1) f fd ps (spD G n (runD N.length den)) := by
  refine F.okX S (fun vs H Q E h => by rw [hn]; exact spD_len h) fun cdv A outer s H vs Q E hr h => ⟨_, hbody cdv A outer s H E hr, ?_⟩
  obtain ⟨Se, ds, hs, r, p⟩ := h
  unfold ar at p
  split at p
  · refine ⟨Se, H, _, start_m N hs r, ?_⟩
    unfold runD at p
    split at p
    · rename_i v hv
      rw [hv]
      exact p
    · rename_i ρ' hv
      rw [hv]
      exact fun σ' H' m' => p .non H' m'.ext (by show Rep _ _ _ _; unfold Rep; rfl)
    · rename_i c d ρ' hv
      rw [hv]
      refine fun cls dd σ' H' m' x => p cls dd H' m'.ext ?_
      obtain ⟨x1, x2⟩ := x
      refine ⟨x1, ?_⟩
      cases d with
      | obj c ns ds =>
        obtain ⟨a, vs, y1, y2, y3⟩ := x2
        exact ⟨a, vs, y1, y2, Reps.mono (ex_hid (Ex.refl _) ss_se) _ _ y3⟩
      | _ => exact x2
    · exact p.elim
  · exact p.elim
theorem fn_den {P : Program} {w : World} {K : PySem.W.Frag} {mg : Str → Option Value} {base : Heap} {x qual : Str} {st : Stmt} {f : Addr} {fd : FuncData} {N ps : List Str} {k n kN : Nat} {den : En → Out} {den' : List D → R Val} (hd : den' = runD kN den) (F : Fun K x qual st f fd) (S : FnScope N ps (defScope st)) (hn : ps.length = n) (hk : kN = N.length)
    (hbody : ∀ (cdv : Value) (A : Around) (outer : List Env) (s : Shared) (H : Hp) (E : XK), Room k (A.deeper (envOfC qual (defScope st) s.heap.objs.size f cdv)) → PSs (cxOf (L2.CX P w) P w K mg base N qual (defScope st) f cdv A outer s H E) (defBody st) (tS G (WE E) den)) :
    FnOk P w K mg base (L2.CX P w) (k + 1) f fd ps (spD G n den') := by
  subst hd hk
  exact fn_den0 F S hn hbody
end
end Dn
namespace Dn
open PySem PySem.Spec PyProof.Rows L2 Evl

/-! ## zip and enumerate of lists and tuples -/
inductive Kd where
  | l | t
def SqK (K : PySem.W.Frag) : Kd → Hp → Addr → List V → Prop
  | .l => SqL K
  | .t => SqT K
def ItK (h : Heap) : Kd → Addr → Addr → Nat → Prop
  | .l => h.IsListIter
  | .t => h.IsTupleIter
def CtK (h : Heap) : Kd → Addr → Array Value → Prop
  | .l => h.IsList
  | .t => h.IsTuple
def itO : Kd → Addr → Obj
  | .l, a => { cls := .type "list_iterator", data := .fields #[.ref a, .int 0 0] }
  | .t, a => { cls := .type "tuple_iterator", data := .fields #[.ref a, .int 0 0] }
theorem sqk_in {K : PySem.W.Frag} {S : Addr → Prop} {H : Hp} {kd : Kd} {a : Addr} {xs : List V} (h : SqK K kd (hid S H) a xs) : SqK K kd H a xs := by
  cases kd with
  | l => exact hid_sqL h
  | t => exact hid_sqT h
theorem sqk_ex {K : PySem.W.Frag} {H H' : Hp} {kd : Kd} {a : Addr} {xs : List V} (e : Ex H H') (h : SqK K kd H a xs) : SqK K kd H' a xs := by
  cases kd with
  | l => exact ex_l e h
  | t => exact ex_t e h
theorem itK_at {h h' : Heap} {kd : Kd} {it a : Addr} {i : Nat} (x : ItK h kd it a i) (k : ∀ o, h.get? it = some o → h'.get? it = some o) : ItK h' kd it a i := by
  cases kd with
  | l => exact Heap.IsListIter.at x k
  | t => exact Heap.IsTupleIter.at x k
theorem itK_obj {h : Heap} {kd : Kd} {it a : Addr} {i : Nat} (x : ItK h kd it a i) : ∃ o, h.get? it = some o ∧ ∀ v, o.data ≠ .cell v := by
  cases kd with
  | l => obtain ⟨o, e, c, d⟩ := x; exact ⟨o, e, fun v z => by rw [d] at z; cases z⟩
  | t => obtain ⟨o, e, c, d⟩ := x; exact ⟨o, e, fun v z => by rw [d] at z; cases z⟩
theorem itK_mk {h : Heap} {kd : Kd} {it a : Addr} (x : h.get? it = some (itO kd a)) : ItK h kd it a 0 := by
  cases kd with
  | l => exact ⟨_, x, rfl, rfl⟩
  | t => exact ⟨_, x, rfl, rfl⟩
theorem ctk_of {X : Cx} {pins : List (Addr × Obj)} {σ : L2.St} {H : Hp} {s : Shared} {kd : Kd} {a : Addr} {xs : List V} (I : Inv X pins σ H s) (h : SqK X.K kd H a xs) : ∃ its : List Value, Vals xs its ∧ CtK s.heap kd a its.toArray ∧ a < s.heap.objs.size := by
  cases kd with
  | l => obtain ⟨its, r, p, _⟩ := I.list h; exact ⟨its, r, p.isList, p.lt⟩
  | t => obtain ⟨its, r, p, _⟩ := I.tuple h; obtain ⟨o, ho, _⟩ := id p; exact ⟨its, r, p, Heap.lt_size ho⟩
theorem sqk_inj {X : Cx} {pins : List (Addr × Obj)} {σ : L2.St} {H : Hp} {s : Shared} {kd : Kd} {a : Addr} {xs ys : List V} (I : Inv X pins σ H s) (h : SqK X.K kd H a xs) (h' : SqK X.K kd H a ys) : xs = ys := by
  cases kd with
  | l => exact I.list_inj h h'
  | t => exact I.tuple_inj h h'
theorem begins_k (kd : Kd) (a : Addr) (items : Array Value) : Begins (.ref a) (itO kd a) fun h => CtK h kd a items := by
  cases kd with
  | l => exact begins_list a items
  | t => exact begins_tuple a items
theorem draws_k {prog : Program} {w : World} {A : Around} (hh : A.handled = none) (kd : Kd) (it a : Addr) (hne : a ≠ it) (items : Array Value) :
    Draws prog w A it [it, a] items.size (fun i v => items[i]? = some v) (fun i h => ItK h kd it a i ∧ CtK h kd a items) := by
  cases kd with
  | l => exact Draws.list hh it a hne items
  | t => exact Draws.tuple hh it a hne items

/-- three sources -/
def Itz3 (K : PySem.W.Frag) (ka kb kc : Kd) (a b c : Addr) : It :=
  ⟨fun i H => ∃ (xs ys zs : List V) (x y z : V), SqK K ka H a xs ∧ SqK K kb H b ys ∧ SqK K kc H c zs ∧ xs[i]? = some x ∧ ys[i]? = some y ∧ zs[i]? = some z,
    fun i H v H' => ∃ T x y z, v = .ref T ∧ H T = none ∧ H' = upd H T (.tup [x, y, z]) ∧ (∀ xs, SqK K ka H a xs → xs[i]? = some x) ∧ (∀ ys, SqK K kb H b ys → ys[i]? = some y) ∧ ∀ zs, SqK K kc H c zs → zs[i]? = some z,
    fun i H => ∃ xs ys zs : List V, SqK K ka H a xs ∧ SqK K kb H b ys ∧ SqK K kc H c zs ∧ i = min (min xs.length ys.length) zs.length⟩
structure Ap3 (z TI TO i1 i2 i3 a b c : Addr) : Prop where
  sep : ZipSep3 z TI TO i1 i2 i3 [i1, a] [i2, b] [i3, c]
  n1 : a ≠ i1
  n2 : b ≠ i2
  n3 : c ≠ i3
theorem turn_z3 {P : Program} {w : World} {K : PySem.W.Frag} {elts : List Expr} {kk : Nat} {tpos : Pos} {ka kb kc : Kd} {a b c z TI TO i1 i2 i3 : Addr} (D : Ap3 z TI TO i1 i2 i3 a b c) :
    Turn P w K (.Tuple elts kk tpos) (Itz3 K ka kb kc a b c) [z, TI, TO, i1, i2, i3] z (fun i h => IsZip h z TI TO .none ∧ IsTupOf3 h TI (.ref i1) (.ref i2) (.ref i3) ∧ (∃ a1 a2 a3, IsTupOf3 h TO a1 a2 a3) ∧ ItK h ka i1 a i ∧ ItK h kb i2 b i ∧ ItK h kc i3 c i) where
  mem := by simp
  obj := fun i h st d hd => by
    obtain ⟨hz, hTI, ⟨x, y, u, hTO⟩, h1, h2, h3⟩ := st
    have e' : d = z ∨ d = TI ∨ d = TO ∨ d = i1 ∨ d = i2 ∨ d = i3 := by simpa using hd
    rcases e' with q | q | q | q | q | q
    · rw [q]; exact ⟨_, hz, fun v q => nomatch q⟩
    · rw [q]; exact ⟨_, hTI, fun v q => nomatch q⟩
    · rw [q]; exact ⟨_, hTO, fun v q => nomatch q⟩
    · rw [q]; exact itK_obj h1
    · rw [q]; exact itK_obj h2
    · rw [q]; exact itK_obj h3
  keep := fun i h h' st k => by
    obtain ⟨hz, hTI, ⟨x, y, u, hTO⟩, h1, h2, h3⟩ := st
    exact ⟨k z (by simp) _ hz, k TI (by simp) _ hTI, ⟨x, y, u, k TO (by simp) _ hTO⟩, itK_at h1 fun o q => k i1 (by simp) o q, itK_at h2 fun o q => k i2 (by simp) o q, itK_at h3 fun o q => k i3 (by simp) o q⟩
  item := by
    intro X hP hw hK hc i pins s σ H E I hf st hg
    subst hP hw hK
    obtain ⟨hz, hTI, hTO, h1, h2, h3⟩ := st
    obtain ⟨xs, ys, zs, x, y, v, hqx, hqy, hqz, hx, hy, hv⟩ := hg
    obtain ⟨its, rv, p, _⟩ := ctk_of I hqx
    obtain ⟨its2, rv2, p2, _⟩ := ctk_of I hqy
    obtain ⟨its3, rv3, p3, _⟩ := ctk_of I hqz
    obtain ⟨u, hu, ru⟩ := rv.get hx
    obtain ⟨u2, hu2, ru2⟩ := rv2.get hy
    obtain ⟨u3, hu3, ru3⟩ := rv3.get hv
    have hh : X.A.in1.handled = none := I.ok.hd hc
    have g := GoesN.zip3 (elts := elts) (x1 := kk) (pos := tpos) (prog := X.prog) (w := X.w) (A := X.A) D.sep (draws_k hh ka i1 a D.n1 its.toArray) (draws_k hh kb i2 b D.n2 its2.toArray) (draws_k hh kc i3 c D.n3 its3.toArray)
    have hlt : i < min (min its.toArray.size its2.toArray.size) its3.toArray.size := by
      have q1 := (List.getElem?_eq_some_iff.mp hu).1
      have q2 := (List.getElem?_eq_some_iff.mp hu2).1
      have q3 := (List.getElem?_eq_some_iff.mp hu3).1
      simp only [List.size_toArray]
      omega
    refine g.goes i s _ E hlt ⟨hz, hTI, hTO, ⟨h1, p⟩, ⟨h2, p2⟩, ⟨h3, p3⟩⟩ fun w' h' tk hY st' hk htk => ?_
    obtain ⟨T, x', y', v', rfl, hT, hx', hy', hv', hTup⟩ := hY
    have e1 : x' = u := by
      have q : its.toArray[i]? = some u := by simpa using hu
      rw [q] at hx'; exact (Option.some.inj hx').symm
    have e2 : y' = u2 := by
      have q : its2.toArray[i]? = some u2 := by simpa using hu2
      rw [q] at hy'; exact (Option.some.inj hy').symm
    have e3 : v' = u3 := by
      have q : its3.toArray[i]? = some u3 := by simpa using hu3
      rw [q] at hv'; exact (Option.some.inj hv').symm
    subst e1 e2 e3
    obtain ⟨hz', hTI', hTO', ⟨h1', _⟩, ⟨h2', _⟩, ⟨h3', _⟩⟩ := st'
    have new : ObjOk X.prog X.w (upd H T (.tup [x, y, v])) h' T (.tup [x, y, v]) := ⟨by show 3 ≤ sizeLine; decide, [x', y', v'], .cons ru (.cons ru2 (.cons ru3 .nil)), hTup⟩
    have I1 : Inv X pins σ (upd H T (.tup [x, y, v])) { s with heap := h', toks := tk } := I.turnedNew (ch := [z, TO, i1, i2, i3]) (fun b o hb q => hk b o hb q) (fun b hb => hf b (by
      have e' : b = z ∨ b = TO ∨ b = i1 ∨ b = i2 ∨ b = i3 := by simpa using hb
      rcases e' with q | q | q | q | q <;> rw [q] <;> simp)) hT new
    refine ⟨.ref T, _, I1, rfl, ⟨T, x, y, v, rfl, I.hok.fresh hT, rfl, fun l hl => by rw [sqk_inj I hl hqx]; exact hx, fun l hl => by rw [sqk_inj I hl hqy]; exact hy, fun l hl => by rw [sqk_inj I hl hqz]; exact hv⟩, ⟨hz', hTI', hTO', h1', h2', h3'⟩, fun d hd => ?_⟩
    have hlt2 : d < s.heap.objs.size := by
      have e' : d = z ∨ d = TI ∨ d = TO ∨ d = i1 ∨ d = i2 ∨ d = i3 := by simpa using hd
      obtain ⟨_, _, _, hTO⟩ := hTO
      rcases e' with q | q | q | q | q | q
      · rw [q]; exact Heap.lt_size hz
      · rw [q]; exact Heap.lt_size hTI
      · rw [q]; exact Heap.lt_size hTO
      · rw [q]; obtain ⟨_, e, _⟩ := itK_obj h1; exact Heap.lt_size e
      · rw [q]; obtain ⟨_, e, _⟩ := itK_obj h2; exact Heap.lt_size e
      · rw [q]; obtain ⟨_, e, _⟩ := itK_obj h3; exact Heap.lt_size e
    rw [upd_ne (show d ≠ T from fun q => by rw [q] at hlt2; exact absurd (Nat.lt_of_lt_of_le hlt2 hT) (Nat.lt_irrefl _))]
    exact (hf d hd).1
  done := by
    intro X hP hw hK hc i pins s σ H E I hf st hg
    subst hP hw hK
    obtain ⟨hz, hTI, hTO, h1, h2, h3⟩ := st
    obtain ⟨xs, ys, zs, hqx, hqy, hqz, hend⟩ := hg
    obtain ⟨its, rv, p, _⟩ := ctk_of I hqx
    obtain ⟨its2, rv2, p2, _⟩ := ctk_of I hqy
    obtain ⟨its3, rv3, p3, _⟩ := ctk_of I hqz
    have hh : X.A.in1.handled = none := I.ok.hd hc
    have g := GoesN.zip3 (elts := elts) (x1 := kk) (pos := tpos) (prog := X.prog) (w := X.w) (A := X.A) D.sep (draws_k hh ka i1 a D.n1 its.toArray) (draws_k hh kb i2 b D.n2 its2.toArray) (draws_k hh kc i3 c D.n3 its3.toArray)
    have hn : min (min its.toArray.size its2.toArray.size) its3.toArray.size = i := by
      simp only [List.size_toArray]
      rw [hend, rv.length, rv2.length, rv3.length]
    rw [hn] at g
    refine g.stops s _ E ⟨hz, hTI, hTO, ⟨h1, p⟩, ⟨h2, p2⟩, ⟨h3, p3⟩⟩ fun h' tk hk htk => ?_
    exact I.turnedL (ch := [z, TO, i1, i2, i3]) (fun b o hb q => hk b o hb q) (fun b hb => hf b (by
      have e' : b = z ∨ b = TO ∨ b = i1 ∨ b = i2 ∨ b = i3 := by simpa using hb
      rcases e' with q | q | q | q | q <;> rw [q] <;> simp))
  self := fun A i s Q E st h => wpAny_pyIter_zip st.1 h
/-- two sources -/
def Itz2 (K : PySem.W.Frag) (ka kb : Kd) (a b : Addr) : It :=
  ⟨fun i H => ∃ (xs ys : List V) (x y : V), SqK K ka H a xs ∧ SqK K kb H b ys ∧ xs[i]? = some x ∧ ys[i]? = some y,
    fun i H v H' => ∃ T x y, v = .ref T ∧ H T = none ∧ H' = upd H T (.tup [x, y]) ∧ (∀ xs, SqK K ka H a xs → xs[i]? = some x) ∧ (∀ ys, SqK K kb H b ys → ys[i]? = some y),
    fun i H => ∃ xs ys : List V, SqK K ka H a xs ∧ SqK K kb H b ys ∧ i = min xs.length ys.length⟩
structure Ap2 (z TI TO i1 i2 a b : Addr) : Prop where
  sep : ZipSep2 z TI TO i1 i2 [i1, a] [i2, b]
  n1 : a ≠ i1
  n2 : b ≠ i2
theorem turn_z2 {P : Program} {w : World} {K : PySem.W.Frag} {elts : List Expr} {kk : Nat} {tpos : Pos} {ka kb : Kd} {a b z TI TO i1 i2 : Addr} (D : Ap2 z TI TO i1 i2 a b) :
    Turn P w K (.Tuple elts kk tpos) (Itz2 K ka kb a b) [z, TI, TO, i1, i2] z (fun i h => IsZip h z TI TO .none ∧ IsTupOf2 h TI (.ref i1) (.ref i2) ∧ (∃ a1 a2, IsTupOf2 h TO a1 a2) ∧ ItK h ka i1 a i ∧ ItK h kb i2 b i) where
  mem := by simp
  obj := fun i h st d hd => by
    obtain ⟨hz, hTI, ⟨x, y, hTO⟩, h1, h2⟩ := st
    have e' : d = z ∨ d = TI ∨ d = TO ∨ d = i1 ∨ d = i2 := by simpa using hd
    rcases e' with q | q | q | q | q
    · rw [q]; exact ⟨_, hz, fun v q => nomatch q⟩
    · rw [q]; exact ⟨_, hTI, fun v q => nomatch q⟩
    · rw [q]; exact ⟨_, hTO, fun v q => nomatch q⟩
    · rw [q]; exact itK_obj h1
    · rw [q]; exact itK_obj h2
  keep := fun i h h' st k => by
    obtain ⟨hz, hTI, ⟨x, y, hTO⟩, h1, h2⟩ := st
    exact ⟨k z (by simp) _ hz, k TI (by simp) _ hTI, ⟨x, y, k TO (by simp) _ hTO⟩, itK_at h1 fun o q => k i1 (by simp) o q, itK_at h2 fun o q => k i2 (by simp) o q⟩
  item := by
    intro X hP hw hK hc i pins s σ H E I hf st hg
    subst hP hw hK
    obtain ⟨hz, hTI, hTO, h1, h2⟩ := st
    obtain ⟨xs, ys, x, y, hqx, hqy, hx, hy⟩ := hg
    obtain ⟨its, rv, p, _⟩ := ctk_of I hqx
    obtain ⟨its2, rv2, p2, _⟩ := ctk_of I hqy
    obtain ⟨u, hu, ru⟩ := rv.get hx
    obtain ⟨u2, hu2, ru2⟩ := rv2.get hy
    have hh : X.A.in1.handled = none := I.ok.hd hc
    have g := GoesN.zip2 (elts := elts) (x1 := kk) (pos := tpos) (prog := X.prog) (w := X.w) (A := X.A) D.sep (draws_k hh ka i1 a D.n1 its.toArray) (draws_k hh kb i2 b D.n2 its2.toArray)
    have hlt : i < min its.toArray.size its2.toArray.size := by
      have q1 := (List.getElem?_eq_some_iff.mp hu).1
      have q2 := (List.getElem?_eq_some_iff.mp hu2).1
      simp only [List.size_toArray]
      omega
    refine g.goes i s _ E hlt ⟨hz, hTI, hTO, ⟨h1, p⟩, ⟨h2, p2⟩⟩ fun w' h' tk hY st' hk htk => ?_
    obtain ⟨T, x', y', rfl, hT, hx', hy', hTup⟩ := hY
    have e1 : x' = u := by
      have q : its.toArray[i]? = some u := by simpa using hu
      rw [q] at hx'; exact (Option.some.inj hx').symm
    have e2 : y' = u2 := by
      have q : its2.toArray[i]? = some u2 := by simpa using hu2
      rw [q] at hy'; exact (Option.some.inj hy').symm
    subst e1 e2
    obtain ⟨hz', hTI', hTO', ⟨h1', _⟩, ⟨h2', _⟩⟩ := st'
    have new : ObjOk X.prog X.w (upd H T (.tup [x, y])) h' T (.tup [x, y]) := ⟨by show 2 ≤ sizeLine; decide, [x', y'], .cons ru (.cons ru2 .nil), hTup⟩
    have I1 : Inv X pins σ (upd H T (.tup [x, y])) { s with heap := h', toks := tk } := I.turnedNew (ch := [z, TO, i1, i2]) (fun b o hb q => hk b o hb q) (fun b hb => hf b (by
      have e' : b = z ∨ b = TO ∨ b = i1 ∨ b = i2 := by simpa using hb
      rcases e' with q | q | q | q <;> rw [q] <;> simp)) hT new
    refine ⟨.ref T, _, I1, rfl, ⟨T, x, y, rfl, I.hok.fresh hT, rfl, fun l hl => by rw [sqk_inj I hl hqx]; exact hx, fun l hl => by rw [sqk_inj I hl hqy]; exact hy⟩, ⟨hz', hTI', hTO', h1', h2'⟩, fun d hd => ?_⟩
    have hlt2 : d < s.heap.objs.size := by
      have e' : d = z ∨ d = TI ∨ d = TO ∨ d = i1 ∨ d = i2 := by simpa using hd
      obtain ⟨_, _, hTO⟩ := hTO
      rcases e' with q | q | q | q | q
      · rw [q]; exact Heap.lt_size hz
      · rw [q]; exact Heap.lt_size hTI
      · rw [q]; exact Heap.lt_size hTO
      · rw [q]; obtain ⟨_, e, _⟩ := itK_obj h1; exact Heap.lt_size e
      · rw [q]; obtain ⟨_, e, _⟩ := itK_obj h2; exact Heap.lt_size e
    rw [upd_ne (show d ≠ T from fun q => by rw [q] at hlt2; exact absurd (Nat.lt_of_lt_of_le hlt2 hT) (Nat.lt_irrefl _))]
    exact (hf d hd).1
  done := by
    intro X hP hw hK hc i pins s σ H E I hf st hg
    subst hP hw hK
    obtain ⟨hz, hTI, hTO, h1, h2⟩ := st
    obtain ⟨xs, ys, hqx, hqy, hend⟩ := hg
    obtain ⟨its, rv, p, _⟩ := ctk_of I hqx
    obtain ⟨its2, rv2, p2, _⟩ := ctk_of I hqy
    have hh : X.A.in1.handled = none := I.ok.hd hc
    have g := GoesN.zip2 (elts := elts) (x1 := kk) (pos := tpos) (prog := X.prog) (w := X.w) (A := X.A) D.sep (draws_k hh ka i1 a D.n1 its.toArray) (draws_k hh kb i2 b D.n2 its2.toArray)
    have hn : min its.toArray.size its2.toArray.size = i := by
      simp only [List.size_toArray]
      rw [hend, rv.length, rv2.length]
    rw [hn] at g
    refine g.stops s _ E ⟨hz, hTI, hTO, ⟨h1, p⟩, ⟨h2, p2⟩⟩ fun h' tk hk htk => ?_
    exact I.turnedL (ch := [z, TO, i1, i2]) (fun b o hb q => hk b o hb q) (fun b hb => hf b (by
      have e' : b = z ∨ b = TO ∨ b = i1 ∨ b = i2 := by simpa using hb
      rcases e' with q | q | q | q <;> rw [q] <;> simp))
  self := fun A i s Q E st h => wpAny_pyIter_zip st.1 h
/-! ### as sources of data -/
def kindOf : D → Option (Kd × List D)
  | .lst ds => some (.l, ds)
  | .fz ds => some (.l, ds)
  | .tup ds => some (.t, ds)
  | _ => none
theorem kind_rep {G : Kx} {B : Hp} {d : D} {v : V} {kd : Kd} {ds : List D} (hk : kindOf d = some (kd, ds)) (r : Rep G B d v) : ∃ a vs, v = .ref a ∧ SqK G.K kd B a vs ∧ Reps G B ds vs := by
  cases d <;> cases hk
  · obtain ⟨a, vs, rfl, h1, h2⟩ := rep_tup r; exact ⟨a, vs, rfl, h1, h2⟩
  · obtain ⟨a, vs, rfl, h1, h2⟩ := rep_lst r; exact ⟨a, vs, rfl, sq_of h1, h2⟩
  · obtain ⟨a, vs, rfl, h1, h2⟩ := rep_fz r; exact ⟨a, vs, rfl, h1, h2⟩
def zip2D : List D → List D → List D
  | a :: as, b :: bs => .tup [a, b] :: zip2D as bs
  | _, _ => []
def zip3D : List D → List D → List D → List D
  | a :: as, b :: bs, c :: cs => .tup [a, b, c] :: zip3D as bs cs
  | _, _, _ => []
theorem zip2D_len : ∀ as bs : List D, (zip2D as bs).length = min as.length bs.length
  | [], _ => by simp [zip2D]
  | _ :: _, [] => by simp [zip2D]
  | a :: as, b :: bs => by simp [zip2D, zip2D_len as bs]
theorem zip2D_get : ∀ (as bs : List D) (i : Nat) (d : D), (zip2D as bs)[i]? = some d → ∃ a b, as[i]? = some a ∧ bs[i]? = some b ∧ d = .tup [a, b]
  | [], _, i, d, h => by simp [zip2D] at h
  | _ :: _, [], i, d, h => by simp [zip2D] at h
  | a :: as, b :: bs, 0, d, h => by simp [zip2D] at h; exact ⟨a, b, by simp, by simp, h.symm⟩
  | a :: as, b :: bs, i + 1, d, h => by simp [zip2D] at h; simpa using zip2D_get as bs i d h
theorem zip3D_len : ∀ as bs cs : List D, (zip3D as bs cs).length = min (min as.length bs.length) cs.length
  | [], _, _ => by simp [zip3D]
  | _ :: _, [], _ => by simp [zip3D]
  | _ :: _, _ :: _, [] => by simp [zip3D]
  | a :: as, b :: bs, c :: cs => by simp [zip3D, zip3D_len as bs cs]
theorem zip3D_get : ∀ (as bs cs : List D) (i : Nat) (d : D), (zip3D as bs cs)[i]? = some d → ∃ a b c, as[i]? = some a ∧ bs[i]? = some b ∧ cs[i]? = some c ∧ d = .tup [a, b, c]
  | [], _, _, i, d, h => by simp [zip3D] at h
  | _ :: _, [], _, i, d, h => by simp [zip3D] at h
  | _ :: _, _ :: _, [], i, d, h => by simp [zip3D] at h
  | a :: as, b :: bs, c :: cs, 0, d, h => by simp [zip3D] at h; exact ⟨a, b, c, by simp, by simp, by simp, h.symm⟩
  | a :: as, b :: bs, c :: cs, i + 1, d, h => by simp [zip3D] at h; simpa using zip3D_get as bs cs i d h
theorem new_tup {G : Kx} {S : Addr → Prop} {H : Hp} {T : Addr} {ds : List D} {vs : List V} (hs : ∀ a, S a → H a ≠ none) (hT : H T = none) (r : Reps G (hid S H) ds vs) : Rep G (hid S (upd H T (.tup vs))) (.tup ds) (.ref T) := by
  unfold Rep
  exact ⟨T, vs, rfl, st_of (hid_some.mpr ⟨fun z => hs T z hT, upd_same⟩), Reps.mono (ex_hid (Ex.new hT) fun _ z => z) _ _ r⟩
theorem itok_z2 {G : Kx} {B : Hp} {ka kb : Kd} {a b : Addr} {vs ws : List V} {as bs : List D} (ha : SqK G.K ka B a vs) (hb : SqK G.K kb B b ws) (ra : Reps G B as vs) (rb : Reps G B bs ws) : ItOk G B (Itz2 G.K ka kb a b) (zip2D as bs) := fun i H2 S2 hs e => by
  have ha2 : SqK G.K ka H2 a vs := sqk_in (sqk_ex e ha)
  have hb2 : SqK G.K kb H2 b ws := sqk_in (sqk_ex e hb)
  refine ⟨fun d hd => ?_, fun hi => ⟨vs, ws, ha2, hb2, by rw [hi, zip2D_len, ra.len, rb.len]⟩⟩
  obtain ⟨x, y, hx, hy, rfl⟩ := zip2D_get as bs i d hd
  obtain ⟨v, hv, rv⟩ := ra.at hx
  obtain ⟨w, hw, rw'⟩ := rb.at hy
  refine ⟨⟨vs, ws, v, w, ha2, hb2, hv, hw⟩, fun u H3 hu => ?_⟩
  obtain ⟨T, v', w', rfl, hT, rfl, f1, f2⟩ := hu
  have e1 := f1 vs ha2; rw [hv] at e1; cases e1
  have e2 := f2 ws hb2; rw [hw] at e2; cases e2
  exact ⟨Ex.new hT, new_tup hs hT (reps_cons (Rep.mono e _ _ rv) (reps_one (Rep.mono e _ _ rw')))⟩
theorem itok_z3 {G : Kx} {B : Hp} {ka kb kc : Kd} {a b c : Addr} {vs ws us : List V} {as bs cs : List D} (ha : SqK G.K ka B a vs) (hb : SqK G.K kb B b ws) (hc : SqK G.K kc B c us) (ra : Reps G B as vs) (rb : Reps G B bs ws) (rc : Reps G B cs us) :
    ItOk G B (Itz3 G.K ka kb kc a b c) (zip3D as bs cs) := fun i H2 S2 hs e => by
  have ha2 : SqK G.K ka H2 a vs := sqk_in (sqk_ex e ha)
  have hb2 : SqK G.K kb H2 b ws := sqk_in (sqk_ex e hb)
  have hc2 : SqK G.K kc H2 c us := sqk_in (sqk_ex e hc)
  refine ⟨fun d hd => ?_, fun hi => ⟨vs, ws, us, ha2, hb2, hc2, by rw [hi, zip3D_len, ra.len, rb.len, rc.len]⟩⟩
  obtain ⟨x, y, z, hx, hy, hz, rfl⟩ := zip3D_get as bs cs i d hd
  obtain ⟨v, hv, rv⟩ := ra.at hx
  obtain ⟨w, hw, rw'⟩ := rb.at hy
  obtain ⟨q, hq, rq⟩ := rc.at hz
  refine ⟨⟨vs, ws, us, v, w, q, ha2, hb2, hc2, hv, hw, hq⟩, fun u H3 hu => ?_⟩
  obtain ⟨T, v', w', q', rfl, hT, rfl, f1, f2, f3⟩ := hu
  have e1 := f1 vs ha2; rw [hv] at e1; cases e1
  have e2 := f2 ws hb2; rw [hw] at e2; cases e2
  have e3 := f3 us hc2; rw [hq] at e3; cases e3
  exact ⟨Ex.new hT, new_tup hs hT (reps_cons (Rep.mono e _ _ rv) (reps_cons (Rep.mono e _ _ rw') (reps_one (Rep.mono e _ _ rq))))⟩
def zip2F : Option (Kd × List D) → Option (Kd × List D) → R (List D)
  | some (_, as), some (_, bs) => .ok (zip2D as bs)
  | _, _ => .no
def zip3F : Option (Kd × List D) → Option (Kd × List D) → Option (Kd × List D) → R (List D)
  | some (_, as), some (_, bs), some (_, cs) => .ok (zip3D as bs cs)
  | _, _, _ => .no
def zipF : List D → R (List D)
  | [a, b] => zip2F (kindOf a) (kindOf b)
  | [a, b, c] => zip3F (kindOf a) (kindOf b) (kindOf c)
  | _ => .no
/-- the rule's reading: any kinds -/
def iZ (K : PySem.W.Frag) (ta : TA) : TI := fun σ H R => ta σ H fun vs H1 => (∃ ka kb a b xs ys, vs = [.ref a, .ref b] ∧ SqK K ka H1 a xs ∧ SqK K kb H1 b ys ∧ R (Itz2 K ka kb a b) H1)
def iZ3 (K : PySem.W.Frag) (ta : TA) : TI := fun σ H R => ta σ H fun vs H1 => (∃ ka kb kc a b c xs ys zs, vs = [.ref a, .ref b, .ref c] ∧ SqK K ka H1 a xs ∧ SqK K kb H1 b ys ∧ SqK K kc H1 c zs ∧ R (Itz3 K ka kb kc a b c) H1)
section
variable {X : Cx} {G : Kx} {W : WX} {e e2 e3 : Expr} {ta : TA} {p pos tpos : Pos} {elts : List Expr} {kk : Nat}
theorem new_fp {pins : List (Addr × Obj)} {σ : L2.St} {H : Hp} {s : Shared} (I : Inv X pins σ H s) (l : List Nat) : ∀ c ∈ l.map (s.heap.objs.size + ·), FpOk X pins H c := fun c hc => by
  obtain ⟨k, _, rfl⟩ := List.mem_map.mp hc
  exact I.fpOk (Nat.le_add_right _ _) (I.hok.fresh (Nat.le_add_right _ _))
theorem pi_z2 (hg : Gl X "zip") (hm : X.mg "zip" = none) (ha : PA X [e, e2] ta)
    (hs : starEach [e, e2] X.env = (false, eval e X.env) :: starEach [e2] X.env) (hpl : (backTo pos (starEach [e2] X.env)).any (·.1) = false) :
    PI X (.Tuple elts kk tpos) (.Call (.Name "zip" p) [e, e2] [] pos) (iZ X.K ta) := by
  refine ⟨fun pins s σ H R I h => ?_⟩
  refine Call_ (ld_blt I hg hm PyProof.Rows.boot_zip (PyProof.Rows.callWith_type1 (thn (ha.run pos pins s σ H _ I h) fun us s1 ⟨vs, H1, I1, r1, q1⟩ => ?_) hs hpl))
  obtain ⟨ka, kb, a, b, xs, ys, ex, hqx, hqy, q⟩ := q1
  subst ex
  cases r1 with
  | cons r rr =>
    cases rr with
    | cons r' rr =>
      cases rr
      cases r
      cases r'
      obtain ⟨its, rv, p1, l1⟩ := ctk_of I1 hqx
      obtain ⟨its2, rv2, p2, l2⟩ := ctk_of I1 hqy
      refine zip_begins2 (begins_k ka a its.toArray) (begins_k kb b its2.toArray) p1 p2 fun h' hz hTI hTO h1 h2 hsz hk => wpAny_pyIter_zip hz ?_
      have I2 : Inv X pins σ H1 { s1 with heap := h' } := I1.kept (t' := s1.toks) hk
      have sep : Ap2 (s1.heap.objs.size + 4) (s1.heap.objs.size + 2) (s1.heap.objs.size + 3) s1.heap.objs.size (s1.heap.objs.size + 1) a b := ⟨zip_sep2 (by simpa using l1) (by simpa using l2), Nat.ne_of_lt l1, Nat.ne_of_lt (Nat.lt_succ_of_lt l2)⟩
      exact ⟨s1.heap.objs.size + 4, [s1.heap.objs.size + 4, s1.heap.objs.size + 2, s1.heap.objs.size + 3, s1.heap.objs.size, s1.heap.objs.size + 1], _, _, H1, rfl, I2, turn_z2 sep, ⟨hz, hTI, ⟨_, _, hTO⟩, itK_mk h1, itK_mk h2⟩, new_fp I1 [4, 2, 3, 0, 1], q⟩
theorem pi_z3 (hg : Gl X "zip") (hm : X.mg "zip" = none) (ha : PA X [e, e2, e3] ta)
    (hs : starEach [e, e2, e3] X.env = (false, eval e X.env) :: starEach [e2, e3] X.env) (hpl : (backTo pos (starEach [e2, e3] X.env)).any (·.1) = false) :
    PI X (.Tuple elts kk tpos) (.Call (.Name "zip" p) [e, e2, e3] [] pos) (iZ3 X.K ta) := by
  refine ⟨fun pins s σ H R I h => ?_⟩
  refine Call_ (ld_blt I hg hm PyProof.Rows.boot_zip (PyProof.Rows.callWith_type1 (thn (ha.run pos pins s σ H _ I h) fun us s1 ⟨vs, H1, I1, r1, q1⟩ => ?_) hs hpl))
  obtain ⟨ka, kb, kc, a, b, c, xs, ys, zs, ex, hqx, hqy, hqz, q⟩ := q1
  subst ex
  cases r1 with
  | cons r rr =>
    cases rr with
    | cons r' rr =>
      cases rr with
      | cons r'' rr =>
        cases rr
        cases r
        cases r'
        cases r''
        obtain ⟨its, rv, p1, l1⟩ := ctk_of I1 hqx
        obtain ⟨its2, rv2, p2, l2⟩ := ctk_of I1 hqy
        obtain ⟨its3, rv3, p3, l3⟩ := ctk_of I1 hqz
        refine zip_begins3 (begins_k ka a its.toArray) (begins_k kb b its2.toArray) (begins_k kc c its3.toArray) p1 p2 p3 fun h' hz hTI hTO h1 h2 h3 hsz hk => wpAny_pyIter_zip hz ?_
        have I2 : Inv X pins σ H1 { s1 with heap := h' } := I1.kept (t' := s1.toks) hk
        have sep : Ap3 (s1.heap.objs.size + 5) (s1.heap.objs.size + 3) (s1.heap.objs.size + 4) s1.heap.objs.size (s1.heap.objs.size + 1) (s1.heap.objs.size + 2) a b c := ⟨zip_sep3 (by simpa using l1) (by simpa using l2) (by simpa using l3), Nat.ne_of_lt l1, Nat.ne_of_lt (Nat.lt_succ_of_lt l2), Nat.ne_of_lt (Nat.lt_succ_of_lt (Nat.lt_succ_of_lt l3))⟩
        exact ⟨s1.heap.objs.size + 5, [s1.heap.objs.size + 5, s1.heap.objs.size + 3, s1.heap.objs.size + 4, s1.heap.objs.size, s1.heap.objs.size + 1, s1.heap.objs.size + 2], _, _, H1, rfl, I2, turn_z3 sep, ⟨hz, hTI, ⟨_, _, _, hTO⟩, itK_mk h1, itK_mk h2, itK_mk h3⟩, new_fp I1 [5, 3, 4, 0, 1, 2], q⟩
theorem d_zip2 {fs : En → R (List D)} (hG : X.K = G.K) (hg : Gl X "zip") (hm : X.mg "zip" = none) (ha : PA X [e, e2] (tA G W fs))
    (hs : starEach [e, e2] X.env = (false, eval e X.env) :: starEach [e2] X.env := by rfl) (hpl : (backTo pos (starEach [e2] X.env)).any (·.1) = false := by rfl) (hlen : ∀ ρ ds, fs ρ = .ok ds → ds.length = 2) :
    PI X (.Tuple elts kk tpos) (.Call (.Name "zip" p) [e, e2] [] pos) (tI G W (iFun zipF fs)) := (pi_z2 hg hm ha hs hpl).imp fun σ H Q ⟨Se, He, ρ, m, q⟩ => by
  refine ⟨Se, He, ρ, m, ?_⟩
  unfold iFun at q
  cases hf : fs ρ with
  | ex c d => rw [hf] at q; exact q
  | no => rw [hf] at q; exact q
  | ok ds =>
    have hl := hlen ρ ds hf
    rw [hf] at q
    intro vs H1 e1 r1
    match ds, hl with
    | [a, b], _ =>
      have q' : PostI G (SS Se ρ σ) H (WS W σ) Q (zip2F (kindOf a) (kindOf b)) := q
      match h1 : kindOf a, h2 : kindOf b with
      | some (ka, as), some (kb, bs) =>
        rw [h1, h2] at q'
        obtain ⟨v, r, rfl, g1, g2⟩ := reps_cons_inv r1
        obtain ⟨v', r', rfl, g3, g4⟩ := reps_cons_inv g2
        rw [reps_nil_inv g4]
        obtain ⟨x, xs, rfl, x1, x2⟩ := kind_rep h1 g1
        obtain ⟨y, ys, rfl, y1, y2⟩ := kind_rep h2 g3
        rw [hG]
        exact ⟨ka, kb, x, y, xs, ys, rfl, sqk_in x1, sqk_in y1, q' _ H1 e1 (itok_z2 x1 y1 x2 y2)⟩
      | none, _ => rw [h1] at q'; exact q'.elim
      | some (ka, as), none => rw [h1, h2] at q'; exact q'.elim
theorem d_zip3 {fs : En → R (List D)} (hG : X.K = G.K) (hg : Gl X "zip") (hm : X.mg "zip" = none) (ha : PA X [e, e2, e3] (tA G W fs))
    (hs : starEach [e, e2, e3] X.env = (false, eval e X.env) :: starEach [e2, e3] X.env := by rfl) (hpl : (backTo pos (starEach [e2, e3] X.env)).any (·.1) = false := by rfl) (hlen : ∀ ρ ds, fs ρ = .ok ds → ds.length = 3) :
    PI X (.Tuple elts kk tpos) (.Call (.Name "zip" p) [e, e2, e3] [] pos) (tI G W (iFun zipF fs)) := (pi_z3 hg hm ha hs hpl).imp fun σ H Q ⟨Se, He, ρ, m, q⟩ => by
  refine ⟨Se, He, ρ, m, ?_⟩
  unfold iFun at q
  cases hf : fs ρ with
  | ex c d => rw [hf] at q; exact q
  | no => rw [hf] at q; exact q
  | ok ds =>
    have hl := hlen ρ ds hf
    rw [hf] at q
    intro vs H1 e1 r1
    match ds, hl with
    | [a, b, c], _ =>
      have q' : PostI G (SS Se ρ σ) H (WS W σ) Q (zip3F (kindOf a) (kindOf b) (kindOf c)) := q
      match h1 : kindOf a, h2 : kindOf b, h3 : kindOf c with
      | some (ka, as), some (kb, bs), some (kc, cs) =>
        rw [h1, h2, h3] at q'
        obtain ⟨v, r, rfl, g1, g2⟩ := reps_cons_inv r1
        obtain ⟨v', r', rfl, g3, g4⟩ := reps_cons_inv g2
        obtain ⟨v'', r'', rfl, g5, g6⟩ := reps_cons_inv g4
        rw [reps_nil_inv g6]
        obtain ⟨x, xs, rfl, x1, x2⟩ := kind_rep h1 g1
        obtain ⟨y, ys, rfl, y1, y2⟩ := kind_rep h2 g3
        obtain ⟨z, zs, rfl, z1, z2⟩ := kind_rep h3 g5
        rw [hG]
        exact ⟨ka, kb, kc, x, y, z, xs, ys, zs, rfl, sqk_in x1, sqk_in y1, sqk_in z1, q' _ H1 e1 (itok_z3 x1 y1 z1 x2 y2 z2)⟩
      | none, _, _ => rw [h1] at q'; exact q'.elim
      | some (ka, as), none, _ => rw [h1, h2] at q'; exact q'.elim
      | some (ka, as), some (kb, bs), none => rw [h1, h2, h3] at q'; exact q'.elim
theorem len_cons {f : En → R Val} {fs : En → R (List D)} {n : Nat} (h : ∀ ρ ds, fs ρ = .ok ds → ds.length = n) : ∀ ρ ds, aCons f fs ρ = .ok ds → ds.length = n + 1 := fun ρ ds q => by
  obtain ⟨a, _, q2⟩ := bind_ok q
  obtain ⟨es, h1, h2⟩ := bind_ok q2
  cases h2
  rw [List.length_cons, h ρ es h1]
theorem len_nil : ∀ (ρ : En) (ds : List D), aNil ρ = .ok ds → ds.length = 0 := fun ρ ds q => by cases q; rfl
end
end Dn
namespace Dn
open PySem PySem.Spec PyProof.Rows L2 Evl

/-! ## isinstance -/
def tyName : D → Option Ty5
  | .non => some .non
  | .bl _ => some .bool
  | .int _ => some .int
  | .str _ => some .str
  | .tup _ => some .tuple
  | .lst _ => some .list
  | .fz _ => some .list
  | _ => none
def isiB (t n : Ty5) : Bool := t.same n || (t.same .bool && n.same .int)
theorem kitB_is (t n : Ty5) (hn : n.same .non = false) : kitB t.name n.name = some (isiB t n) := by
  cases t <;> cases n <;> first | (exfalso; cases hn; done) | decide +kernel
theorem tyx_rep {G : Kx} {S : Addr → Prop} {H : Hp} {d : D} {v : V} {t : Ty5} (h : tyName d = some t) (r : Rep G (hid S H) d v) : TyX G.K H v (.type t.name) := by
  cases d <;> cases h
  · rw [rep_non r]; exact .base .non
  · rw [rep_bl r]; exact .base (.bl _)
  · rw [rep_int r]; exact .base (.int _)
  · rw [rep_str r]; exact .base (.str _)
  · obtain ⟨a, vs, rfl, h1, _⟩ := rep_tup r
    rcases hid_sqT h1 with (h | ⟨o, h⟩) | ⟨o, its, n, hk, hc, _⟩
    · exact .base (.tup h)
    · exact .fTuple h
    · exact .kTuple hk hc
  · obtain ⟨a, vs, rfl, h1, _⟩ := rep_lst r
    exact .base (.lst (hid_lst h1))
  · obtain ⟨a, vs, rfl, h1, _⟩ := rep_fz r
    rcases hid_sqL h1 with (h | ⟨o, h⟩) | ⟨o, its, n, hk, hc, _⟩
    · exact .base (.lst h)
    · exact .base (.frz h)
    · exact .kList hk hc
def dIsi : List D → R Val
  | [d, .ty n] => match tyName d with
    | some t => if n.same .non = false then mk (.bl (isiB t n)) else .no
    | none => .no
  | _ => .no
theorem cb_isi {G : Kx} : CB G (rIsi G.K) dIsi := by
  intro S H ds vs Q hs rs h
  unfold dIsi at h
  split at h
  · rename_i d n
    obtain ⟨v, r, rfl, h1, h2⟩ := reps_cons_inv rs
    obtain ⟨v', r', rfl, h3, h4⟩ := reps_cons_inv h2
    rw [reps_nil_inv h4]
    have e3 : v' = .ty n.name := by unfold Rep at h3; exact h3
    subst e3
    split at h
    · rename_i t ht
      split at h
      · rename_i hn
        exact ⟨v, .ty n.name, .type t.name, .type n.name, isiB t n, rfl, .ty n.name, tyx_rep ht h1, kit_ty (kitB_is t n hn), PostV.bl h⟩
      · exact h.elim
    · exact h.elim
  · exact h.elim
section
variable {X : Cx} {G : Kx} {W : WX}
theorem cr_isi (hG : X.K = G.K) : CallR X (.builtin "isinstance") (rIsi G.K) := by rw [← hG]; exact call_isi
theorem d_ty {x : Str} (n : Ty5) {pos : Pos} (h : PE X (.Name x pos) (tC (.ty n.name))) : PE X (.Name x pos) (tE G W (eC (.ty n))) := h.imp fun σ H Q ⟨Se, He, ρ, m, p⟩ => p _ H (Ex.refl H) (by show Rep _ _ _ _; unfold Rep; rfl)
/-! ## an owned list read where it stands -/
def eIxO (i : Nat) (g : En → R Val) : En → R Val := fun ρ => match owned ρ i with
  | some ds => (g ρ).bind fun b => match b with
    | .sh (.int j) => ofO (atI ds j)
    | _ => .no
  | none => eOp dIx (eVar i) g ρ
variable {o b : Expr} {g : En → R Val} {pos : Pos}
theorem d_ixO {i : Nat} (hG : X.K = G.K) (ho : PE X o (tVar i)) (ho2 : PE X o (tE G W (eVar i))) (h2 : PE X b (tE G W g)) (hs : PlainIx b := by exact fun _ _ => rfl) : PE X (.Subscript o b pos) (tE G W (eIxO i g)) :=
  (PE.or (pe_ix (or_ix hG) ho h2 hs) (d_ix (or_ix hG) ob_ix ho2 h2 hs)).imp fun σ H Q ⟨Se, He, ρ, m, p⟩ => by
    unfold eIxO at p
    split at p
    · rename_i ds hds
      have hds := owned_eq hds
      obtain ⟨q, vs, e1, q1, q2, rs⟩ := m.ow i ds hds
      refine .inl ⟨.ref q, e1, Se, He, ρ, m, PostE.bindE p fun val v H1 e r1 p1 => ?_⟩
      split at p1
      · rename_i j
        rw [vrep_int r1]
        cases ha : atI ds j with
        | none => rw [ha] at p1; exact p1.elim
        | some d =>
          rw [ha] at p1
          obtain ⟨w, hw, rw'⟩ := atI_rep rs ha
          exact .inl ⟨q, vs, j, w, rfl, rfl, sq_of (e _ _ q2), hw, p1 w H1 (Ex.refl H1) (Rep.mono (ex_hid e fun _ z => z) _ _ rw')⟩
      · exact p1.elim
    · exact .inr ⟨Se, He, ρ, m, p⟩
def eLenO (i : Nat) : En → R Val := fun ρ => match owned ρ i with
  | some ds => mk (.int ds.length)
  | none => eCB dLen (aCons (eVar i) aNil) ρ
theorem d_lenO {i : Nat} {p p2 : Pos} {y : Str} (hG : X.K = G.K) (ho : PE X (.Name y p2) (tVar i)) (hg : Gl X "len") (hm : X.mg "len" = none) :
    PE X (.Call (.Name "len" p) [.Name y p2] [] pos) (tE G W (eLenO i)) :=
  (PE.or (pe_callB (cr_len hG) hg hm boot_len (pa_cons ho pa_nil (by rfl))) (d_callB (W := W) (cr_len hG) cb_len hg hm boot_len (d_cons (d_var i ho) d_nil (by rfl)))).imp fun σ H Q ⟨Se, He, ρ, m, p⟩ => by
    unfold eLenO at p
    split at p
    · rename_i ds hds
      have hds := owned_eq hds
      obtain ⟨q, vs, e1, q1, q2, rs⟩ := m.ow i ds hds
      refine .inl ⟨.ref q, e1, q, vs, rfl, .inl (sq_of q2), ?_⟩
      rw [rs.len]
      exact p _ H (Ex.refl H) (by show Rep _ _ _ _; unfold Rep; rfl)
    · exact .inr ⟨Se, He, ρ, m, p⟩
/-! ## a name is given shared data -/
def sAsgS (i : Nat) (f : En → R Val) : En → Out := fun ρ => Out.ofE (f ρ) ρ fun v => .nx (ρ.set i (.sh v.d))
theorem asgS_imp {i : Nat} {fe : En → R Val} {Dn : Ends} {σ : L2.St} {H : Hp} (h : tS G W (sAsgS i fe) Dn σ H) : tAsg (tE G W fe) (gName i) Dn σ H := by
  obtain ⟨Se, He, ρ, m, p⟩ := h
  exact ⟨Se, He, ρ, m, PostS.ofE m p fun val v H' e' r p' => p' _ _ (m.set e' i (val := .sh val.d) (VRep.rep r fun _ z => m.dom z))⟩
variable {st : Stmt} {e : Expr} {fe : En → R Val}
theorem d_asgS {i : Nat} (h : ∀ te, PE X e te → PS X st (tAsg te (gName i))) (h1 : PE X e (tE G W fe)) : PS X st (tS G W (sAsgS i fe)) := (h _ h1).imp fun _ _ _ q => asgS_imp q
/-! ## comprehensions: as a value, to a name -/
variable {elt tg iter tg1 iter1 : Expr} {ifs ifs1 : List Expr} {scope : Scope} {own : List (Str × Nat)} {vs1 : List Nat} {f f2 : En → R (List D)} {t t2 : Tg} {c c2 : En → R Bool} {ge : En → R Val}
theorem d_lc (hc : X.calm = true) (hN : X.N.Nodup) (ok : BlkOk X.N X.env.scope scope own) (ht : ∀ i ∈ t.slots, i ∈ own.map (·.2)) (hi : PI X tg iter (tI G W f))
    (hg : ∀ (s : Shared) (H : Hp) (C : Addr) (cl : List (Str × Addr)) (fp : List Addr), PG (X.blk s H scope (compEnvC scope cl C X.env) fp) tg (gD G t)) (hif : ∀ (s : Shared) (H : Hp) (C : Addr) (cl : List (Str × Addr)) (fp : List Addr), PTs (X.blk s H scope (compEnvC scope cl C X.env) fp) ifs (tT G W0 c))
    (he : ∀ (s : Shared) (H : Hp) (C : Addr) (cl : List (Str × Addr)) (fp : List Addr), PE (X.blk s H scope (compEnvC scope cl C X.env) fp) elt (tE G W0 ge)) (hs : ∀ x, foldedSetIterable iter X.env x = pure x := by intro _; rfl) :
    PE X (.ListComp elt [⟨tg, iter, ifs, 0⟩] scope pos) (tE G W (eLc (own.map (·.2)) f t c ge)) := (pe_lc hc hN hi ok hg hif he hs).imp fun _ _ _ q => lc_imp ht q
theorem d_lc2 (hc : X.calm = true) (hN : X.N.Nodup) (ok : BlkOk X.N X.env.scope scope own) (hv : ∀ i ∈ vs1, i ∈ own.map (·.2)) (ht : ∀ i ∈ t.slots, i ∈ own.map (·.2)) (ht2 : ∀ i ∈ t2.slots, i ∈ vs1) (hi : PI X tg iter (tI G W f))
    (hg : ∀ (s : Shared) (H : Hp) (C : Addr) (cl : List (Str × Addr)) (fp : List Addr), PG (X.blk s H scope (compEnvC scope cl C X.env) fp) tg (gD G t)) (hif : ∀ (s : Shared) (H : Hp) (C : Addr) (cl : List (Str × Addr)) (fp : List Addr), PTs (X.blk s H scope (compEnvC scope cl C X.env) fp) ifs (tT G W0 c))
    (hi1 : ∀ (s : Shared) (H : Hp) (C : Addr) (cl : List (Str × Addr)) (fp : List Addr), PI (X.blk s H scope (compEnvC scope cl C X.env) fp) tg1 iter1 (tI G W0 f2))
    (hg1 : ∀ (s : Shared) (H : Hp) (C : Addr) (cl : List (Str × Addr)) (fp : List Addr), PG (X.blk s H scope (compEnvC scope cl C X.env) fp) tg1 (gD G t2)) (hif1 : ∀ (s : Shared) (H : Hp) (C : Addr) (cl : List (Str × Addr)) (fp : List Addr), PTs (X.blk s H scope (compEnvC scope cl C X.env) fp) ifs1 (tT G W0 c2))
    (he : ∀ (s : Shared) (H : Hp) (C : Addr) (cl : List (Str × Addr)) (fp : List Addr), PE (X.blk s H scope (compEnvC scope cl C X.env) fp) elt (tE G W0 ge)) (hs : ∀ x, foldedSetIterable iter X.env x = pure x := by intro _; rfl) (hs1 : ∀ env x, foldedSetIterable iter1 env x = pure x := by intro _ _; rfl) :
    PE X (.ListComp elt [⟨tg, iter, ifs, 0⟩, ⟨tg1, iter1, ifs1, 0⟩] scope pos) (tE G W (eLc2 (own.map (·.2)) f t c vs1 f2 t2 c2 ge)) := (pe_lc2 hc hN hi ok hv hg hif hi1 hg1 hif1 he hs hs1).imp fun _ _ _ q => lc2_imp ht ht2 hv q
/-! name = [..], the name a local: S says whether the list is shared from now on -/
variable {i : Nat} {y : Str} {py spos : Pos}
theorem lcA {te : TE} (h : PS X st (tAsg te (gName i))) (k : ∀ σ H Q, tE G W fe σ H Q → te σ H Q) : PS X st (tS G W (sAsg i fe)) := h.imp fun _ _ _ q => k _ _ _ (asg_imp q)
theorem lcS {te : TE} (h : PS X st (tAsg te (gName i))) (k : ∀ σ H Q, tE G W fe σ H Q → te σ H Q) : PS X st (tS G W (sAsgS i fe)) := h.imp fun _ _ _ q => k _ _ _ (asgS_imp q)
theorem d_asgLc (hc : X.calm = true) (hN : X.N.Nodup) (hy : X.N[i]? = some y) (hyl : X.env.scope.names.lookup y = some .local) (hsw : swapsWith (.ListComp elt [⟨tg, iter, ifs, 0⟩] scope pos) (some (.Name y py)) spos.line X.env = pure true)
    (ok : BlkOk X.N X.env.scope scope own) (ht : ∀ i ∈ t.slots, i ∈ own.map (·.2)) (hi : PI X tg iter (tI G W f))
    (hg : ∀ (s : Shared) (H : Hp) (C : Addr) (cl : List (Str × Addr)) (fp : List Addr), PG (X.blk s H scope (compEnvC scope cl C X.env) fp) tg (gD G t)) (hif : ∀ (s : Shared) (H : Hp) (C : Addr) (cl : List (Str × Addr)) (fp : List Addr), PTs (X.blk s H scope (compEnvC scope cl C X.env) fp) ifs (tT G W0 c))
    (he : ∀ (s : Shared) (H : Hp) (C : Addr) (cl : List (Str × Addr)) (fp : List Addr), PE (X.blk s H scope (compEnvC scope cl C X.env) fp) elt (tE G W0 ge)) (hs : ∀ x, foldedSetIterable iter X.env x = pure x := by intro _; rfl) :
    PS X (.Assign [.Name y py] (.ListComp elt [⟨tg, iter, ifs, 0⟩] scope pos) spos) (tS G W (sAsg i (eLc (own.map (·.2)) f t c ge))) ∧ PS X (.Assign [.Name y py] (.ListComp elt [⟨tg, iter, ifs, 0⟩] scope pos) spos) (tS G W (sAsgS i (eLc (own.map (·.2)) f t c ge))) :=
  have h := ps_setLc (i := i) hc hN hy hyl hsw hi ok hg hif he hs
  ⟨lcA h fun _ _ _ q => lc_imp ht q, lcS h fun _ _ _ q => lc_imp ht q⟩
theorem d_asgLc2 (hc : X.calm = true) (hN : X.N.Nodup) (hy : X.N[i]? = some y) (hyl : X.env.scope.names.lookup y = some .local) (hsw : swapsWith (.ListComp elt [⟨tg, iter, ifs, 0⟩, ⟨tg1, iter1, ifs1, 0⟩] scope pos) (some (.Name y py)) spos.line X.env = pure true)
    (ok : BlkOk X.N X.env.scope scope own) (hv : ∀ i ∈ vs1, i ∈ own.map (·.2)) (ht : ∀ i ∈ t.slots, i ∈ own.map (·.2)) (ht2 : ∀ i ∈ t2.slots, i ∈ vs1) (hi : PI X tg iter (tI G W f))
    (hg : ∀ (s : Shared) (H : Hp) (C : Addr) (cl : List (Str × Addr)) (fp : List Addr), PG (X.blk s H scope (compEnvC scope cl C X.env) fp) tg (gD G t)) (hif : ∀ (s : Shared) (H : Hp) (C : Addr) (cl : List (Str × Addr)) (fp : List Addr), PTs (X.blk s H scope (compEnvC scope cl C X.env) fp) ifs (tT G W0 c))
    (hi1 : ∀ (s : Shared) (H : Hp) (C : Addr) (cl : List (Str × Addr)) (fp : List Addr), PI (X.blk s H scope (compEnvC scope cl C X.env) fp) tg1 iter1 (tI G W0 f2))
    (hg1 : ∀ (s : Shared) (H : Hp) (C : Addr) (cl : List (Str × Addr)) (fp : List Addr), PG (X.blk s H scope (compEnvC scope cl C X.env) fp) tg1 (gD G t2)) (hif1 : ∀ (s : Shared) (H : Hp) (C : Addr) (cl : List (Str × Addr)) (fp : List Addr), PTs (X.blk s H scope (compEnvC scope cl C X.env) fp) ifs1 (tT G W0 c2))
    (he : ∀ (s : Shared) (H : Hp) (C : Addr) (cl : List (Str × Addr)) (fp : List Addr), PE (X.blk s H scope (compEnvC scope cl C X.env) fp) elt (tE G W0 ge)) (hs : ∀ x, foldedSetIterable iter X.env x = pure x := by intro _; rfl) (hs1 : ∀ env x, foldedSetIterable iter1 env x = pure x := by intro _ _; rfl) :
    PS X (.Assign [.Name y py] (.ListComp elt [⟨tg, iter, ifs, 0⟩, ⟨tg1, iter1, ifs1, 0⟩] scope pos) spos) (tS G W (sAsg i (eLc2 (own.map (·.2)) f t c vs1 f2 t2 c2 ge))) ∧ PS X (.Assign [.Name y py] (.ListComp elt [⟨tg, iter, ifs, 0⟩, ⟨tg1, iter1, ifs1, 0⟩] scope pos) spos) (tS G W (sAsgS i (eLc2 (own.map (·.2)) f t c vs1 f2 t2 c2 ge))) :=
  have h := ps_setLc2 (i := i) hc hN hy hyl hsw hi ok hv hg hif hi1 hg1 hif1 he hs hs1
  ⟨lcA h fun _ _ _ q => lc2_imp ht ht2 hv q, lcS h fun _ _ _ q => lc2_imp ht ht2 hv q⟩
theorem d_yes1 {cnd : Expr} {c : En → R Bool} (h : PT X cnd (tT G W c)) : PT X cnd (tT G W c) := h
theorem hu64 {A : Around} {k : Nat} (hr : Room k A) : A.units + 64 < cLine := by have := hr.un; omega
end
/-! a def that is never called so deep -/
theorem fn_no {P : Program} {w : World} {K : PySem.W.Frag} {mg : Str → Option Value} {base : Heap} {CX : CXT} {k n : Nat} {f : Addr} {fd : FuncData} {ps : List Str} {G : Kx} (hn : ps.length = n := by rfl) : FnOk P w K mg base CX k f fd ps (spD G n fun _ => .no) := by
  have no : ∀ vs H Q E, spD G n (fun _ => .no) vs H Q E → False := fun vs H Q E ⟨S, ds, _, _, p⟩ => by
    unfold ar at p
    split at p <;> exact p
  exact ⟨fun vs H Q E h => (no vs H Q E h).elim, fun A outer s H args us vs Q E _ _ _ _ h => (no vs H Q E h).elim⟩
end Dn
namespace Dn
open PySem PySem.Spec PyProof.Rows L2 Evl
theorem hid_no {H : Hp} : hid (fun _ => False) H = H := by funext a; exact hid_out id
theorem reps_ints {G : Kx} {H : Hp} : ∀ ns : List Int, Reps G H (ns.map D.int) (ns.map V.int)
  | [] => reps_nil
  | n :: ns => reps_cons (by unfold Rep; rfl) (reps_ints ns)
/-- the law's own promise, from what it denotes -/
theorem law_end {G : Kx} {den : List D → R Val} {H : Hp} {a : Addr} {ns : List Int} (hS : SqL G.K H a (ns.map V.int)) (h : den [.fz (ns.map D.int)] = .ok (.sh (.bl true))) :
    spD G 1 den [.ref a] H (fun v _ => v = .bl true) fun _ _ _ => False := by
  refine ⟨fun _ => False, [.fz (ns.map D.int)], fun a z => z.elim, ?_, ?_⟩
  · rw [hid_no]
    refine reps_one ?_
    unfold Rep
    exact ⟨a, _, rfl, hS, reps_ints ns⟩
  · unfold ar
    rw [if_pos (show [D.fz (ns.map D.int)].length = 1 from rfl), h]
    exact fun v H' _ r => vrep_bl r
theorem cx_no {P : Program} {w : World} {outer : List Env} {H : Hp} {s : Shared} {e : Value} {s' : Shared} (h : L2.CX P w outer H s (fun _ _ _ => False) e s') : False := by
  obtain ⟨_, _, _, _, _, _, _, _, _, _, _, _, z⟩ := h
  exact z
end Dn
namespace Dn
open PySem PySem.Spec PyProof.Rows L2 Evl
/-! ## an owned list lent for a test -/
def noEx {α : Type} : R α → R α
  | .ok b => .ok b
  | _ => .no
def lendT (i : Nat) (c : En → R Bool) : En → R Bool := fun ρ => match owned ρ i with
  | some ds => noEx (c (ρ.set i (.sh (.lst ds))))
  | none => c ρ
theorem d_lendT {X : Cx} {G : Kx} {W : WX} {e : Expr} {c : En → R Bool} (i : Nat) (h : PT X e (tT G W c)) : PT X e (tT G W (lendT i c)) := h.imp fun σ H Q ⟨Se, He, ρ, m, p⟩ => by
  unfold lendT at p
  split at p
  · rename_i ds hds
    refine ⟨Se, He, _, m.freeze (owned_eq hds), ?_⟩
    cases hc : c (ρ.set i (.sh (.lst ds))) with
    | ok b => rw [hc] at p; exact p
    | ex _ _ => rw [hc] at p; exact p.elim
    | no => rw [hc] at p; exact p.elim
  · exact ⟨Se, He, ρ, m, p⟩
end Dn
namespace Dn
open PySem L2
/-! # reckoning with denotations -/
theorem fit_ok {n : Nat} (h : n ≤ 100000) : fit n = true := fit_iff.mpr (Evl.sz_of h)
theorem fitS_ok {n : Nat} (h : n < 100000) : fitS n = true := fitS_iff.mpr (Evl.sz_lt h)
theorem mulFit_ok {i j : Int} (hi : i.natAbs < 2 ^ 1000) (hj : j.natAbs < 2 ^ 1000) : mulFit i j = true := mulFit_iff.mpr (wide_mul hi hj (by decide) (by decide) (by decide))
theorem divFit_ok {i j : Int} (h : 0 < j) (hj : j.natAbs < 2 ^ 1000) : divFit i j = true := divFit_iff.mpr (wide_div h hj (by decide) (by decide))
theorem rngFit_ok {n : Int} (h0 : -1000000 ≤ n) (h1 : n ≤ 1000000) : rngFit n = true := rngFit_iff.mpr ⟨by omega, by omega⟩
theorem repFit_ok {n : Nat} {k : Int} (h0 : -1000 ≤ k) (h1 : k ≤ 1000) (h2 : n ≤ 100) : repFit n k = true := by
  refine repFit_iff.mpr ⟨by omega, by omega, ?_⟩
  have : n * k.toNat ≤ 100 * 1000 := Nat.mul_le_mul h2 (by omega)
  exact Evl.sz_of this
theorem tt_pos {c : Prop} [Decidable c] {r : R Val} (h : c) : tt c r = r := if_pos h
theorem atI0 {α : Type} {x : α} {xs : List α} : atI (x :: xs) 0 = some x := by simp [atI, ixN]
theorem atI1 {α : Type} {x y : α} {xs : List α} : atI (x :: y :: xs) 1 = some y := by
  have : (1 : Int) < (xs.length : Int) + 1 + 1 := by omega
  simp [atI, ixN, this]
theorem atI_n {α : Type} {xs : List α} {n : Nat} (h : n < xs.length) : atI xs (n : Int) = some xs[n] := atI_nat (List.getElem?_eq_getElem h)
theorem mul_ok {i j : Int} (hi : i.natAbs < 2 ^ 1000) (hj : j.natAbs < 2 ^ 1000) : CMulW i j := wide_mul hi hj (by decide) (by decide) (by decide)
theorem size_ok {n : Nat} (h : n ≤ 100000) : n ≤ sizeLine := Evl.sz_of h
theorem size_lt {n : Nat} (h : n < 100000) : n < sizeLine := Evl.sz_lt h
section
variable {α β : Type} {t t2 : Tg} {c c2 : En → R Bool} {g : En → R Val} {ρ : En} {emb : α → D}
theorem lcD_map {F : α → D} : ∀ (xs : List α), (∀ x ∈ xs, ∃ ρ1 v, t.asg (emb x) ρ = some ρ1 ∧ c ρ1 = .ok true ∧ g ρ1 = .ok v ∧ v.d = F x) → lcD t c g ρ (xs.map emb) = .ok (xs.map F)
  | [], _ => rfl
  | x :: xs, h => by
    obtain ⟨ρ1, v, h1, h2, h3, h4⟩ := h x (by simp)
    show lcD t c g ρ (emb x :: xs.map emb) = _
    unfold lcD
    rw [h1]; dsimp only
    rw [h2]; dsimp only
    rw [h3]; dsimp only
    rw [lcD_map xs fun y hy => h y (List.mem_cons_of_mem _ hy), h4]
    rfl
theorem lcD_filter {F : α → D} {p : α → Bool} : ∀ (xs : List α), (∀ x ∈ xs, ∃ ρ1, t.asg (emb x) ρ = some ρ1 ∧ c ρ1 = .ok (p x) ∧ (p x = true → ∃ v, g ρ1 = .ok v ∧ v.d = F x)) → lcD t c g ρ (xs.map emb) = .ok ((xs.filter p).map F)
  | [], _ => rfl
  | x :: xs, h => by
    obtain ⟨ρ1, h1, h2, h3⟩ := h x (by simp)
    show lcD t c g ρ (emb x :: xs.map emb) = _
    unfold lcD
    rw [h1]; dsimp only
    have ih := lcD_filter xs fun y hy => h y (List.mem_cons_of_mem _ hy)
    cases hp : p x with
    | true =>
      obtain ⟨v, h4, h5⟩ := h3 hp
      rw [h2, hp]; dsimp only
      rw [h4]; dsimp only
      rw [ih, h5, List.filter_cons_of_pos hp]
      rfl
    | false =>
      rw [h2, hp]; dsimp only
      rw [ih, List.filter_cons_of_neg (by rw [hp]; exact Bool.false_ne_true)]
theorem lc2D_map {F : α → List D} {f2 : En → R (List D)} {vs1 : List Nat} : ∀ (xs : List α), (∀ x ∈ xs, ∃ ρ1 es, t.asg (emb x) ρ = some ρ1 ∧ c ρ1 = .ok true ∧ f2 ρ1 = .ok es ∧ lcD t2 c2 g (wipeE ρ1 vs1) es = .ok (F x)) → lc2D t c f2 vs1 t2 c2 g ρ (xs.map emb) = .ok (xs.flatMap F)
  | [], _ => rfl
  | x :: xs, h => by
    obtain ⟨ρ1, es, h1, h2, h3, h4⟩ := h x (by simp)
    show lc2D t c f2 vs1 t2 c2 g ρ (emb x :: xs.map emb) = _
    unfold lc2D
    rw [h1]; dsimp only
    rw [h2]; dsimp only
    rw [h3]; dsimp only
    rw [h4]; dsimp only
    rw [lc2D_map xs fun y hy => h y (List.mem_cons_of_mem _ hy)]
    rfl
theorem loopD_range {P : Nat → En → Prop} {body : En → Out} {n : Nat} {lo : Int} (h : ∀ k ρ, k < n → P k ρ → ∃ ρ1 ρ2, t.asg (.int (lo + (k : Int))) ρ = some ρ1 ∧ body ρ1 = .nx ρ2 ∧ P (k + 1) ρ2) (h0 : P 0 ρ) :
    ∃ ρ', loopD t body (rangeD lo n) ρ = .nx ρ' ∧ P n ρ' := by
  have key : ∀ (m k : Nat) (ρ : En), k + m = n → P k ρ → ∃ ρ', loopD t body ((List.range' k m).map fun (j : Nat) => D.int (lo + (j : Int))) ρ = .nx ρ' ∧ P n ρ' := by
    intro m
    induction m with
    | zero =>
      intro k ρ hk hp
      have : k = n := by omega
      subst this
      exact ⟨ρ, rfl, hp⟩
    | succ m ih =>
      intro k ρ hk hp
      obtain ⟨ρ1, ρ2, h1, h2, h3⟩ := h k ρ (by omega) hp
      obtain ⟨ρ', h4, h5⟩ := ih (k + 1) ρ2 (by omega) h3
      refine ⟨ρ', ?_, h5⟩
      rw [List.range'_succ, List.map_cons]
      unfold loopD
      rw [h1]; dsimp only
      rw [h2]; exact h4
  have := key n 0 ρ (by omega) h0
  unfold rangeD
  rw [List.range_eq_range']
  exact this
theorem loopD_list {P : List α → En → Prop} {body : En → Out} : ∀ (xs : List α) (ρ : En), (∀ pre x post ρ, xs = pre ++ x :: post → P pre ρ → ∃ ρ1 ρ2, t.asg (emb x) ρ = some ρ1 ∧ body ρ1 = .nx ρ2 ∧ P (pre ++ [x]) ρ2) → P [] ρ →
    ∃ ρ', loopD t body (xs.map emb) ρ = .nx ρ' ∧ P xs ρ' := by
  intro xs ρ h h0
  have key : ∀ (post pre : List α) (ρ : En), xs = pre ++ post → P pre ρ → ∃ ρ', loopD t body (post.map emb) ρ = .nx ρ' ∧ P xs ρ' := by
    intro post
    induction post with
    | nil =>
      intro pre ρ e hp
      rw [List.append_nil] at e
      subst e
      exact ⟨ρ, rfl, hp⟩
    | cons x post ih =>
      intro pre ρ e hp
      obtain ⟨ρ1, ρ2, h1, h2, h3⟩ := h pre x post ρ e hp
      obtain ⟨ρ', h4, h5⟩ := ih (pre ++ [x]) ρ2 (by rw [e]; simp) h3
      refine ⟨ρ', ?_, h5⟩
      rw [List.map_cons]
      unfold loopD
      rw [h1]; dsimp only
      rw [h2]; exact h4
  exact key xs [] ρ rfl h0

def outR (o : Out) : R Val := match o with
  | .rt v => .ok v
  | .nx _ => .ok (.sh .non)
  | .ex c d _ => .ex c d
  | _ => .no
theorem runD_eq (k : Nat) (den : En → Out) (ds : List D) : runD k den ds = outR (den (ds.map .sh ++ List.replicate (k - ds.length) .un)) := rfl
def nxP (o : Out) (P : En → Prop) : Prop := match o with
  | .nx ρ => P ρ
  | .ct ρ => P ρ
  | _ => False
def turnP (t : Tg) (body : En → Out) (d : D) (ρ : En) (P : En → Prop) : Prop := match t.asg d ρ with
  | some ρ1 => nxP (body ρ1) P
  | none => False
theorem loop_list {xs : List α} (P : List α → En → Prop) {body : En → Out} (h : ∀ pre x post ρ, xs = pre ++ x :: post → P pre ρ → turnP t body (emb x) ρ (P (pre ++ [x]))) (h0 : P [] ρ) :
    ∃ ρ', loopD t body (xs.map emb) ρ = .nx ρ' ∧ P xs ρ' := by
  have key : ∀ (post pre : List α) (ρ : En), xs = pre ++ post → P pre ρ → ∃ ρ', loopD t body (post.map emb) ρ = .nx ρ' ∧ P xs ρ' := by
    intro post
    induction post with
    | nil =>
      intro pre ρ e hp
      rw [List.append_nil] at e
      subst e
      exact ⟨ρ, rfl, hp⟩
    | cons x post ih =>
      intro pre ρ e hp
      have hh := h pre x post ρ e hp
      unfold turnP at hh
      rw [List.map_cons]
      unfold loopD
      cases ha : t.asg (emb x) ρ with
      | none => rw [ha] at hh; exact hh.elim
      | some ρ1 =>
        rw [ha] at hh
        dsimp only at hh ⊢
        unfold nxP at hh
        cases hb : body ρ1 with
        | nx ρ2 => rw [hb] at hh; exact ih (pre ++ [x]) ρ2 (by rw [e]; simp) hh
        | ct ρ2 => rw [hb] at hh; exact ih (pre ++ [x]) ρ2 (by rw [e]; simp) hh
        | _ => rw [hb] at hh; exact hh.elim
  exact key xs [] ρ rfl h0
theorem loop_range {lo : Int} {n : Nat} (P : Nat → En → Prop) {body : En → Out} (h : ∀ k ρ, k < n → P k ρ → turnP t body (.int (lo + (k : Int))) ρ (P (k + 1))) (h0 : P 0 ρ) :
    ∃ ρ', loopD t body (rangeD lo n) ρ = .nx ρ' ∧ P n ρ' := by
  obtain ⟨ρ', h1, h2⟩ := loop_list (t := t) (emb := fun (k : Nat) => D.int (lo + (k : Int))) (xs := List.range n) (ρ := ρ) (body := body) (fun pre ρ => P pre.length ρ) (fun pre x post ρ e hp => by
    have hx : x = pre.length ∧ x < n := by
      have q : (List.range n)[pre.length]? = some x := by rw [e]; simp
      have hlt : pre.length < n := by
        have : pre.length < (List.range n).length := by rw [e]; simp
        simpa using this
      rw [List.getElem?_range hlt] at q
      cases q; exact ⟨rfl, hlt⟩
    rw [List.length_append, List.length_singleton, ← hx.1]
    rw [← hx.1] at hp
    exact h x ρ hx.2 hp) h0
  exact ⟨ρ', h1, by simpa using h2⟩
theorem wp_seq {f k : En → Out} {ρ ρ' : En} {r : R Val} (h : f ρ = .nx ρ') (hk : outR (k ρ') = r) : outR (sSeq f k ρ) = r := by
  unfold sSeq; rw [h]; exact hk
theorem wp_seqP {f k : En → Out} {ρ : En} {r : R Val} (P : En → Prop) (h : nxP (f ρ) P) (hn : ∀ ρ', f ρ ≠ .ct ρ') (hk : ∀ ρ', P ρ' → outR (k ρ') = r) : outR (sSeq f k ρ) = r := by
  unfold nxP at h
  cases hf : f ρ with
  | nx ρ' => rw [hf] at h; exact wp_seq hf (hk ρ' h)
  | ct ρ' => exact absurd hf (hn ρ')
  | _ => rw [hf] at h; exact h.elim
/-- a for over data, then the rest -/
theorem wp_for {fl : En → R (List D)} {body k : En → Out} {ρ : En} {r : R Val} (emb : α → D) (xs : List α) (P : List α → En → Prop) (hf : fl ρ = .ok (xs.map emb))
    (h : ∀ pre x post ρ, xs = pre ++ x :: post → P pre ρ → turnP t body (emb x) ρ (P (pre ++ [x]))) (h0 : P [] ρ) (hk : ∀ ρ', P xs ρ' → outR (k ρ') = r) : outR (sSeq (sFor fl t body) k ρ) = r := by
  obtain ⟨ρ', h1, h2⟩ := loop_list P h h0
  refine wp_seq (ρ' := ρ') ?_ (hk ρ' h2)
  unfold sFor
  rw [hf]
  exact h1
theorem wp_forR {fl : En → R (List D)} {body k : En → Out} {ρ : En} {r : R Val} (lo : Int) (n : Nat) (P : Nat → En → Prop) (hf : fl ρ = .ok (rangeD lo n))
    (h : ∀ k ρ, k < n → P k ρ → turnP t body (.int (lo + (k : Int))) ρ (P (k + 1))) (h0 : P 0 ρ) (hk : ∀ ρ', P n ρ' → outR (k ρ') = r) : outR (sSeq (sFor fl t body) k ρ) = r := by
  obtain ⟨ρ', h1, h2⟩ := loop_range P h h0
  refine wp_seq (ρ' := ρ') ?_ (hk ρ' h2)
  unfold sFor
  rw [hf]
  exact h1
/-- the same within a body -/
theorem np_seq {f k : En → Out} {ρ ρ' : En} {Q : En → Prop} (h : f ρ = .nx ρ') (hk : nxP (k ρ') Q) : nxP (sSeq f k ρ) Q := by
  unfold sSeq; rw [h]; exact hk
theorem np_for {fl : En → R (List D)} {body k : En → Out} {ρ : En} {Q : En → Prop} (emb : α → D) (xs : List α) (P : List α → En → Prop) (hf : fl ρ = .ok (xs.map emb))
    (h : ∀ pre x post ρ, xs = pre ++ x :: post → P pre ρ → turnP t body (emb x) ρ (P (pre ++ [x]))) (h0 : P [] ρ) (hk : ∀ ρ', P xs ρ' → nxP (k ρ') Q) : nxP (sSeq (sFor fl t body) k ρ) Q := by
  obtain ⟨ρ', h1, h2⟩ := loop_list P h h0
  refine np_seq (ρ' := ρ') ?_ (hk ρ' h2)
  unfold sFor
  rw [hf]
  exact h1
theorem np_for1 {fl : En → R (List D)} {body : En → Out} {ρ : En} {Q : En → Prop} (emb : α → D) (xs : List α) (P : List α → En → Prop) (hf : fl ρ = .ok (xs.map emb))
    (h : ∀ pre x post ρ, xs = pre ++ x :: post → P pre ρ → turnP t body (emb x) ρ (P (pre ++ [x]))) (h0 : P [] ρ) (hk : ∀ ρ', P xs ρ' → Q ρ') : nxP (sFor fl t body ρ) Q := by
  obtain ⟨ρ', h1, h2⟩ := loop_list P h h0
  unfold sFor
  rw [hf]
  show nxP (loopD t body (xs.map emb) ρ) Q
  rw [h1]
  exact hk ρ' h2
theorem np_forR {fl : En → R (List D)} {body k : En → Out} {ρ : En} {Q : En → Prop} (lo : Int) (n : Nat) (P : Nat → En → Prop) (hf : fl ρ = .ok (rangeD lo n))
    (h : ∀ k ρ, k < n → P k ρ → turnP t body (.int (lo + (k : Int))) ρ (P (k + 1))) (h0 : P 0 ρ) (hk : ∀ ρ', P n ρ' → nxP (k ρ') Q) : nxP (sSeq (sFor fl t body) k ρ) Q := by
  obtain ⟨ρ', h1, h2⟩ := loop_range P h h0
  refine np_seq (ρ' := ρ') ?_ (hk ρ' h2)
  unfold sFor
  rw [hf]
  exact h1
def frzE (i : Nat) (ρ : En) : En := match slt ρ i with
  | some (.ow ds) => ρ.set i (.sh (.lst ds))
  | _ => ρ
theorem frz_eq (i : Nat) (f : En → Out) (ρ : En) : frz i f ρ = f (frzE i ρ) := by
  unfold frz frzE
  cases h : slt ρ i with
  | none => rfl
  | some s => cases s <;> rfl
theorem np_frz {i : Nat} {f k : En → Out} {ρ : En} {Q : En → Prop} (h : nxP (sSeq f k (frzE i ρ)) Q) : nxP (sSeq (frz i f) k ρ) Q := by
  unfold sSeq at h ⊢
  rw [frz_eq]; exact h
theorem wp_frz {i : Nat} {f k : En → Out} {ρ : En} {r : R Val} (h : outR (sSeq f k (frzE i ρ)) = r) : outR (sSeq (frz i f) k ρ) = r := by
  unfold sSeq at h ⊢
  rw [frz_eq]; exact h
/-- a test that is known, ahead of the rest -/
theorem wp_ifT {c : En → R Bool} {a b k : En → Out} {ρ : En} {r : R Val} (hc : c ρ = .ok true) (h : outR (sSeq a k ρ) = r) : outR (sSeq (sIf c a b) k ρ) = r := by
  unfold sSeq sIf at *
  rw [hc]; exact h
theorem wp_ifF {c : En → R Bool} {a b k : En → Out} {ρ : En} {r : R Val} (hc : c ρ = .ok false) (h : outR (sSeq b k ρ) = r) : outR (sSeq (sIf c a b) k ρ) = r := by
  unfold sSeq sIf at *
  rw [hc]; exact h
theorem wp_ifN {c : En → R Bool} {a k : En → Out} {ρ : En} {r : R Val} (hc : c ρ = .ok false) (h : outR (k ρ) = r) : outR (sSeq (sIf c a sNx) k ρ) = r := wp_ifF hc h
theorem np_ifN {c : En → R Bool} {a k : En → Out} {ρ : En} {Q : En → Prop} (hc : c ρ = .ok false) (h : nxP (k ρ) Q) : nxP (sSeq (sIf c a sNx) k ρ) Q := by
  unfold sSeq sIf
  rw [hc]; exact h
theorem np_if1 {c : En → R Bool} {a : En → Out} {ρ : En} {Q : En → Prop} (hc : c ρ = .ok false) (h : Q ρ) : nxP (sIf c a sNx ρ) Q := by
  unfold sIf
  rw [hc]; exact h
theorem wp_ret {f : En → R Val} {ρ : En} {v : Val} (h : f ρ = .ok v) : outR (sRet f ρ) = .ok v := by
  unfold sRet; rw [h]; rfl
end
end Dn
namespace La
open PySem PySem.Spec PyProof.Rows L2 Evl Dn
/-! # the text -/
def topS (i : Nat) : Stmt := PySem.Challenge.pw_fardials_k09_places_and_terms.main.body.getD i (.Pass ⟨0, 0, 0, 0⟩)
abbrev s_places : Stmt := topS 1
abbrev s_hand_options : Stmt := topS 2
abbrev s_sign_terms : Stmt := topS 3
abbrev s_entry_terms : Stmt := topS 4
abbrev s__law_cell : Stmt := topS 6
abbrev s__law_same : Stmt := topS 7
abbrev s__law_plan_count : Stmt := topS 8
abbrev s__law_smaller : Stmt := topS 9
abbrev s__law_hands : Stmt := topS 10
abbrev s__law_tuples : Stmt := topS 11
abbrev s__law_counts : Stmt := topS 12
abbrev s__law_signs : Stmt := topS 13
abbrev s__law_options : Stmt := topS 14
abbrev s__law_places : Stmt := topS 15
abbrev s__law_factor : Stmt := topS 16
abbrev s__law_due_terms : Stmt := topS 17
abbrev s__law_listed : Stmt := topS 18
abbrev s__law_entry_holds : Stmt := topS 19
abbrev s__law_hand_leaves : Stmt := topS 20
abbrev s__law_cancels : Stmt := topS 21
abbrev s_law : Stmt := topS 22
theorem bt_bool : bootBuiltins "bool" = some (.type "bool") := by decide +kernel
theorem bt_int : bootBuiltins "int" = some (.type "int") := by decide +kernel
theorem bt_isinstance : bootBuiltins "isinstance" = some (.builtin "isinstance") := by decide +kernel
theorem bt_len : bootBuiltins "len" = some (.builtin "len") := by decide +kernel
theorem bt_list : bootBuiltins "list" = some (.type "list") := by decide +kernel
theorem bt_max : bootBuiltins "max" = some (.builtin "max") := by decide +kernel
theorem bt_range : bootBuiltins "range" = some (.type "range") := by decide +kernel
theorem bt_str : bootBuiltins "str" = some (.type "str") := by decide +kernel
theorem bt_tuple : bootBuiltins "tuple" = some (.type "tuple") := by decide +kernel
theorem bt_zip : bootBuiltins "zip" = some (.type "zip") := by decide +kernel
structure FT (K : PySem.W.Frag) (mg : Str → Option Value) (x : Str) (st : Stmt) (ps : List Str) (f : Addr) (fd : FuncData) : Prop where
  F : Fun K x x st f fd
  g : mg x = some (.ref f)
  b : Binds K fd ps []
structure Tx (K : PySem.W.Frag) (mg : Str → Option Value) where
  f_places : Addr
  fd_places : FuncData
  t_places : FT K mg "places" s_places ["shape"] f_places fd_places
  f_hand_options : Addr
  fd_hand_options : FuncData
  t_hand_options : FT K mg "hand_options" s_hand_options ["dials", "signs"] f_hand_options fd_hand_options
  f_sign_terms : Addr
  fd_sign_terms : FuncData
  t_sign_terms : FT K mg "sign_terms" s_sign_terms ["signs", "dial", "sign"] f_sign_terms fd_sign_terms
  f_entry_terms : Addr
  fd_entry_terms : FuncData
  t_entry_terms : FT K mg "entry_terms" s_entry_terms ["shape", "context", "outcome"] f_entry_terms fd_entry_terms
  f__law_cell : Addr
  fd__law_cell : FuncData
  t__law_cell : FT K mg "_law_cell" s__law_cell ["script", "k"] f__law_cell fd__law_cell
  f__law_same : Addr
  fd__law_same : FuncData
  t__law_same : FT K mg "_law_same" s__law_same ["actual", "due"] f__law_same fd__law_same
  f__law_plan_count : Addr
  fd__law_plan_count : FuncData
  t__law_plan_count : FT K mg "_law_plan_count" s__law_plan_count ["hands"] f__law_plan_count fd__law_plan_count
  f__law_smaller : Addr
  fd__law_smaller : FuncData
  t__law_smaller : FT K mg "_law_smaller" s__law_smaller ["hands"] f__law_smaller fd__law_smaller
  f__law_hands : Addr
  fd__law_hands : FuncData
  t__law_hands : FT K mg "_law_hands" s__law_hands ["cell", "most"] f__law_hands fd__law_hands
  f__law_tuples : Addr
  fd__law_tuples : FuncData
  t__law_tuples : FT K mg "_law_tuples" s__law_tuples ["bounds"] f__law_tuples fd__law_tuples
  f__law_counts : Addr
  fd__law_counts : FuncData
  t__law_counts : FT K mg "_law_counts" s__law_counts ["hands"] f__law_counts fd__law_counts
  f__law_signs : Addr
  fd__law_signs : FuncData
  t__law_signs : FT K mg "_law_signs" s__law_signs ["hands"] f__law_signs fd__law_signs
  f__law_options : Addr
  fd__law_options : FuncData
  t__law_options : FT K mg "_law_options" s__law_options ["hand"] f__law_options fd__law_options
  f__law_places : Addr
  fd__law_places : FuncData
  t__law_places : FT K mg "_law_places" s__law_places ["hands"] f__law_places fd__law_places
  f__law_factor : Addr
  fd__law_factor : FuncData
  t__law_factor : FT K mg "_law_factor" s__law_factor ["hands", "place", "context", "outcome"] f__law_factor fd__law_factor
  f__law_due_terms : Addr
  fd__law_due_terms : FuncData
  t__law_due_terms : FT K mg "_law_due_terms" s__law_due_terms ["hands", "known", "context", "outcome"] f__law_due_terms fd__law_due_terms
  f__law_listed : Addr
  fd__law_listed : FuncData
  t__law_listed : FT K mg "_law_listed" s__law_listed ["hands"] f__law_listed fd__law_listed
  f__law_entry_holds : Addr
  fd__law_entry_holds : FuncData
  t__law_entry_holds : FT K mg "_law_entry_holds" s__law_entry_holds ["hands", "known", "context", "outcome"] f__law_entry_holds fd__law_entry_holds
  f__law_hand_leaves : Addr
  fd__law_hand_leaves : FuncData
  t__law_hand_leaves : FT K mg "_law_hand_leaves" s__law_hand_leaves ["hands", "known", "hand", "context", "rest"] f__law_hand_leaves fd__law_hand_leaves
  f__law_cancels : Addr
  fd__law_cancels : FuncData
  t__law_cancels : FT K mg "_law_cancels" s__law_cancels ["hands", "known", "hand"] f__law_cancels fd__law_cancels
  f_law : Addr
  fd_law : FuncData
  t_law : FT K mg "law" s_law ["script"] f_law fd_law
  m_bool : mg "bool" = none
  m_int : mg "int" = none
  m_isinstance : mg "isinstance" = none
  m_len : mg "len" = none
  m_list : mg "list" = none
  m_max : mg "max" = none
  m_range : mg "range" = none
  m_str : mg "str" = none
  m_tuple : mg "tuple" = none
  m_zip : mg "zip" = none
/-! ## hand_options -/
theorem sc_hand_options : FnScope ["dials", "signs", "dial", "sign"] ["dials", "signs"] (defScope s_hand_options) := ⟨rfl, rfl, rfl, by decide +kernel, rfl, by decide +kernel, by decide +kernel⟩
noncomputable def body_hand_options : En → Out :=
  (sRet (eOp dAdd (eLst (aCons (eC .non) aNil)) (eLc2 [2, 3] (iFun rng1 (aCons (eVar 0) aNil)) (.nm 2) tYesD [3] (iFun rng1 (aCons (eOp dSub (eVar 1) (eC (.int 1))) aNil)) (.nm 3) tYesD (eTup (aCons (eVar 2) (aCons (eVar 3) aNil))))))
noncomputable def den_hand_options : List D → R Val := runD 4 body_hand_options
theorem ok_hand_options {P : Program} {w : World} {K : PySem.W.Frag} {mg : Str → Option Value} {base : Heap} {cl : Nat → Addr} (T : Tx K mg) : FnOk P w K mg base (L2.CX P w) 1 T.f_hand_options T.fd_hand_options ["dials", "signs"] (spD ⟨K, cl⟩ 2 den_hand_options) := by
  refine fn_den (n := 2) (k := 0) (kN := 4) (den := body_hand_options) (den' := den_hand_options) rfl T.t_hand_options.F sc_hand_options rfl rfl ?_
  intro cdv A outer s H E hr
  have tk : Takes (cxOf (L2.CX P w) P w K mg base ["dials", "signs", "dial", "sign"] "hand_options" (defScope s_hand_options) T.f_hand_options cdv A outer s H E) (WE E) := takes_of rfl rfl rfl rfl
  have nd := (sc_hand_options).nd
  exact (d_sone (d_ret (d_op (or_add rfl) ob_add (d_lst (d_cons d_non d_nil)) (d_lc2 rfl nd (own := [("dial", 2), ("sign", 3)]) (vs1 := [3]) (blkOk_by (by first | rfl | kernel_rfl)) (by decide) (by decide) (by decide) (d_range1 (by rfl) T.m_range (d_cons (d_var 0 (pv 0)) d_nil)) (fun _ _ _ _ _ => (d_nm (i := 2) (pg_name nd rfl (by first | exact Or.inl rfl | exact Or.inr rfl)))) (fun _ _ _ _ _ => d_yes) (fun _ _ _ _ _ => (d_range1 (by rfl) T.m_range (d_cons (d_op (op_sub) ob_sub (d_var 1 (pv 1)) d_int) d_nil))) (fun _ _ _ _ _ => (d_nm (i := 3) (pg_name nd rfl (by first | exact Or.inl rfl | exact Or.inr rfl)))) (fun _ _ _ _ _ => d_yes) (fun _ _ _ _ _ => (d_tup (d_cons (d_var 2 (pv 2)) (d_cons (d_var 3 (pv 3)) d_nil))))))))
/-! ## places -/
theorem sc_places : FnScope ["shape", "found", "dials", "signs", "options", "begun", "option"] ["shape"] (defScope s_places) := ⟨rfl, rfl, rfl, by decide +kernel, rfl, by decide +kernel, by decide +kernel⟩
noncomputable def body_places : En → Out :=
  (sSeq (sAsg 1 (eLst (aCons (eTup aNil) aNil)))
    (sSeq (sFor (iSeq (eVar 0)) (.tp [(.nm 2), (.nm 3)])
    (sSeq (sAsgS 4 (eCall 2 den_hand_options (aCons (eVar 2) (aCons (eVar 3) aNil))))
    (frz 1 (sAsg 1 (eLc2 [5, 6] (iSeq (eVar 1)) (.nm 5) tYesD [6] (iSeq (eVar 4)) (.nm 6) tYesD (eTup (aStar (eVar 5) (aCons (eVar 6) aNil))))))))
    (sRetV 1)))
noncomputable def den_places : List D → R Val := runD 7 body_places
theorem ok_places {P : Program} {w : World} {K : PySem.W.Frag} {mg : Str → Option Value} {base : Heap} {cl : Nat → Addr} (T : Tx K mg) : FnOk P w K mg base (L2.CX P w) 2 T.f_places T.fd_places ["shape"] (spD ⟨K, cl⟩ 1 den_places) := by
  refine fn_den (n := 1) (k := 1) (kN := 7) (den := body_places) (den' := den_places) rfl T.t_places.F sc_places rfl rfl ?_
  intro cdv A outer s H E hr
  have tk : Takes (cxOf (L2.CX P w) P w K mg base ["shape", "found", "dials", "signs", "options", "begun", "option"] "places" (defScope s_places) T.f_places cdv A outer s H E) (WE E) := takes_of rfl rfl rfl rfl
  have nd := (sc_places).nd
  exact (d_scons (d_asg (i := 1) (fun te h => ps_set (i := 1) nd rfl (by first | exact Or.inl rfl | exact Or.inr rfl) h) (d_lst (d_cons (d_tup d_nil) d_nil)))
    (d_scons (d_for (passes_of rfl) rfl (d_iter rfl (d_var 0 (pv 0))) (d_tp rfl rfl (d_gcons (d_nm (i := 2) (pg_name nd rfl (by first | exact Or.inl rfl | exact Or.inr rfl))) (d_gcons (d_nm (i := 3) (pg_name nd rfl (by first | exact Or.inl rfl | exact Or.inr rfl))) d_gnil)))
    (d_scons (d_asgS (i := 4) (fun te h => ps_set (i := 4) nd rfl (by first | exact Or.inl rfl | exact Or.inr rfl) h) (d_call (ok_hand_options T) tk (hr.mono (by decide)) (by rfl) T.t_hand_options.g T.t_hand_options.F.kp T.t_hand_options.b (d_cons (d_var 2 (pv 2)) (d_cons (d_var 3 (pv 3)) d_nil))))
    (d_sone (d_frz 1 (d_asgLc2 (i := 1) rfl nd rfl rfl (sw_true rfl rfl rfl (by decide +kernel)) (own := [("begun", 5), ("option", 6)]) (vs1 := [6]) (blkOk_by (by first | rfl | kernel_rfl)) (by decide) (by decide) (by decide) (d_iter rfl (d_var 1 (pv 1))) (fun _ _ _ _ _ => (d_nm (i := 5) (pg_name nd rfl (by first | exact Or.inl rfl | exact Or.inr rfl)))) (fun _ _ _ _ _ => d_yes) (fun _ _ _ _ _ => (d_iter rfl (d_var 4 (pv 4)))) (fun _ _ _ _ _ => (d_nm (i := 6) (pg_name nd rfl (by first | exact Or.inl rfl | exact Or.inr rfl)))) (fun _ _ _ _ _ => d_yes) (fun _ _ _ _ _ => (d_tup (d_star rfl (d_var 5 (pv 5)) (d_cons (d_var 6 (pv 6)) d_nil))))).1))))
    (d_sone (d_retV (i := 1) (pv 1)))))
/-! ## sign_terms -/
theorem sc_sign_terms : FnScope ["signs", "dial", "sign", "first", "other"] ["signs", "dial", "sign"] (defScope s_sign_terms) := ⟨rfl, rfl, rfl, by decide +kernel, rfl, by decide +kernel, by decide +kernel⟩
noncomputable def body_sign_terms : En → Out :=
  (sSeq (sAsgS 3 (eOp dAdd (eC (.int 1)) (eOp dMul (eVar 1) (eOp dSub (eVar 0) (eC (.int 1))))))
    (sSeq (sIf (eTest (eOp dLt (eVar 2) (eOp dSub (eVar 0) (eC (.int 1))))) (sRet (eLst (aCons (eTup (aCons (eOp dAdd (eVar 3) (eVar 2)) (aCons (eC (.int 1)) aNil))) aNil))) sNx)
    (sRet (eOp dAdd (eLst (aCons (eTup (aCons (eC (.int 0)) (aCons (eC (.int 1)) aNil))) aNil)) (eLc [4] (iFun rng1 (aCons (eOp dSub (eVar 0) (eC (.int 1))) aNil)) (.nm 4) tYesD (eTup (aCons (eOp dAdd (eVar 3) (eVar 4)) (aCons (eUn dNeg (eC (.int 1))) aNil))))))))
noncomputable def den_sign_terms : List D → R Val := runD 5 body_sign_terms
theorem ok_sign_terms {P : Program} {w : World} {K : PySem.W.Frag} {mg : Str → Option Value} {base : Heap} {cl : Nat → Addr} (T : Tx K mg) : FnOk P w K mg base (L2.CX P w) 1 T.f_sign_terms T.fd_sign_terms ["signs", "dial", "sign"] (spD ⟨K, cl⟩ 3 den_sign_terms) := by
  refine fn_den (n := 3) (k := 0) (kN := 5) (den := body_sign_terms) (den' := den_sign_terms) rfl T.t_sign_terms.F sc_sign_terms rfl rfl ?_
  intro cdv A outer s H E hr
  have tk : Takes (cxOf (L2.CX P w) P w K mg base ["signs", "dial", "sign", "first", "other"] "sign_terms" (defScope s_sign_terms) T.f_sign_terms cdv A outer s H E) (WE E) := takes_of rfl rfl rfl rfl
  have nd := (sc_sign_terms).nd
  exact (d_scons (d_asgS (i := 3) (fun te h => ps_set (i := 3) nd rfl (by first | exact Or.inl rfl | exact Or.inr rfl) h) (d_op (or_add rfl) ob_add d_int (d_op (or_mul rfl) ob_mul (d_var 1 (pv 1)) (d_op (op_sub) ob_sub (d_var 0 (pv 0)) d_int))))
    (d_scons (d_if (d_tcmp (op_lt) ob_lt (d_var 2 (pv 2)) (d_op (op_sub) ob_sub (d_var 0 (pv 0)) d_int)) (d_sone (d_ret (d_lst (d_cons (d_tup (d_cons (d_op (or_add rfl) ob_add (d_var 3 (pv 3)) (d_var 2 (pv 2))) (d_cons d_int d_nil))) d_nil)))) d_snil)
    (d_sone (d_ret (d_op (or_add rfl) ob_add (d_lst (d_cons (d_tup (d_cons d_int (d_cons d_int d_nil))) d_nil)) (d_lc rfl nd (own := [("other", 4)]) (blkOk_by (by first | rfl | kernel_rfl)) (by decide) (d_range1 (by rfl) T.m_range (d_cons (d_op (op_sub) ob_sub (d_var 0 (pv 0)) d_int) d_nil)) (fun _ _ _ _ _ => (d_nm (i := 4) (pg_name nd rfl (by first | exact Or.inl rfl | exact Or.inr rfl)))) (fun _ _ _ _ _ => d_yes) (fun _ _ _ _ _ => (d_tup (d_cons (d_op (or_add rfl) ob_add (d_var 3 (pv 3)) (d_var 4 (pv 4))) (d_cons (d_un un_neg ub_neg d_int) d_nil))))))))))
/-! ## entry_terms -/
theorem sc_entry_terms : FnScope ["shape", "context", "outcome", "found", "dials", "signs", "dial", "sign", "many", "index", "factor", "number", "times"] ["shape", "context", "outcome"] (defScope s_entry_terms) := ⟨rfl, rfl, rfl, by decide +kernel, rfl, by decide +kernel, by decide +kernel⟩
noncomputable def body_entry_terms : En → Out :=
  (sSeq (sAsg 3 (eLst (aCons (eTup (aCons (eC (.int 0)) (aCons (eC (.int 1)) aNil))) aNil)))
    (sSeq (sFor (iFun zipF (aCons (eVar 0) (aCons (eVar 1) (aCons (eVar 2) aNil)))) (.tp [(.tp [(.nm 4), (.nm 5)]), (.nm 6), (.nm 7)])
    (sSeq (sAsgS 8 (eOp dAdd (eC (.int 1)) (eOp dMul (eVar 4) (eOp dSub (eVar 5) (eC (.int 1))))))
    (frz 3 (sAsg 3 (eLc2 [9, 10, 11, 12] (iSeq (eVar 3)) (.tp [(.nm 9), (.nm 10)]) tYesD [11, 12] (iSeq (eCall 3 den_sign_terms (aCons (eVar 5) (aCons (eVar 6) (aCons (eVar 7) aNil))))) (.tp [(.nm 11), (.nm 12)]) tYesD (eTup (aCons (eOp dAdd (eOp dMul (eVar 9) (eVar 8)) (eVar 11)) (aCons (eOp dMul (eVar 10) (eVar 12)) aNil))))))))
    (sRetV 3)))
noncomputable def den_entry_terms : List D → R Val := runD 13 body_entry_terms
theorem ok_entry_terms {P : Program} {w : World} {K : PySem.W.Frag} {mg : Str → Option Value} {base : Heap} {cl : Nat → Addr} (T : Tx K mg) : FnOk P w K mg base (L2.CX P w) 2 T.f_entry_terms T.fd_entry_terms ["shape", "context", "outcome"] (spD ⟨K, cl⟩ 3 den_entry_terms) := by
  refine fn_den (n := 3) (k := 1) (kN := 13) (den := body_entry_terms) (den' := den_entry_terms) rfl T.t_entry_terms.F sc_entry_terms rfl rfl ?_
  intro cdv A outer s H E hr
  have tk : Takes (cxOf (L2.CX P w) P w K mg base ["shape", "context", "outcome", "found", "dials", "signs", "dial", "sign", "many", "index", "factor", "number", "times"] "entry_terms" (defScope s_entry_terms) T.f_entry_terms cdv A outer s H E) (WE E) := takes_of rfl rfl rfl rfl
  have nd := (sc_entry_terms).nd
  exact (d_scons (d_asg (i := 3) (fun te h => ps_set (i := 3) nd rfl (by first | exact Or.inl rfl | exact Or.inr rfl) h) (d_lst (d_cons (d_tup (d_cons d_int (d_cons d_int d_nil))) d_nil)))
    (d_scons (d_for (passes_of rfl) rfl (d_zip3 rfl (by rfl) T.m_zip (d_cons (d_var 0 (pv 0)) (d_cons (d_var 1 (pv 1)) (d_cons (d_var 2 (pv 2)) d_nil))) (hlen := (len_cons (len_cons (len_cons len_nil))))) (d_tp rfl rfl (d_gcons (d_tp rfl rfl (d_gcons (d_nm (i := 4) (pg_name nd rfl (by first | exact Or.inl rfl | exact Or.inr rfl))) (d_gcons (d_nm (i := 5) (pg_name nd rfl (by first | exact Or.inl rfl | exact Or.inr rfl))) d_gnil))) (d_gcons (d_nm (i := 6) (pg_name nd rfl (by first | exact Or.inl rfl | exact Or.inr rfl))) (d_gcons (d_nm (i := 7) (pg_name nd rfl (by first | exact Or.inl rfl | exact Or.inr rfl))) d_gnil))))
    (d_scons (d_asgS (i := 8) (fun te h => ps_set (i := 8) nd rfl (by first | exact Or.inl rfl | exact Or.inr rfl) h) (d_op (or_add rfl) ob_add d_int (d_op (or_mul rfl) ob_mul (d_var 4 (pv 4)) (d_op (op_sub) ob_sub (d_var 5 (pv 5)) d_int))))
    (d_sone (d_frz 3 (d_asgLc2 (i := 3) rfl nd rfl rfl (sw_true rfl rfl rfl (by decide +kernel)) (own := [("index", 9), ("factor", 10), ("number", 11), ("times", 12)]) (vs1 := [11, 12]) (blkOk_by (by first | rfl | kernel_rfl)) (by decide) (by decide) (by decide) (d_iter rfl (d_var 3 (pv 3))) (fun _ _ _ _ _ => (d_tp rfl rfl (d_gcons (d_nm (i := 9) (pg_name nd rfl (by first | exact Or.inl rfl | exact Or.inr rfl))) (d_gcons (d_nm (i := 10) (pg_name nd rfl (by first | exact Or.inl rfl | exact Or.inr rfl))) d_gnil)))) (fun _ _ _ _ _ => d_yes) (fun _ _ _ _ _ => (d_iter rfl (d_call (ok_sign_terms T) takes0 (hr.mono (by decide)) (by rfl) T.t_sign_terms.g T.t_sign_terms.F.kp T.t_sign_terms.b (d_cons (d_var 5 (pv 5)) (d_cons (d_var 6 (pv 6)) (d_cons (d_var 7 (pv 7)) d_nil)))))) (fun _ _ _ _ _ => (d_tp rfl rfl (d_gcons (d_nm (i := 11) (pg_name nd rfl (by first | exact Or.inl rfl | exact Or.inr rfl))) (d_gcons (d_nm (i := 12) (pg_name nd rfl (by first | exact Or.inl rfl | exact Or.inr rfl))) d_gnil)))) (fun _ _ _ _ _ => d_yes) (fun _ _ _ _ _ => (d_tup (d_cons (d_op (or_add rfl) ob_add (d_op (or_mul rfl) ob_mul (d_var 9 (pv 9)) (d_var 8 (pv 8))) (d_var 11 (pv 11))) (d_cons (d_op (or_mul rfl) ob_mul (d_var 10 (pv 10)) (d_var 12 (pv 12))) d_nil))))).1))))
    (d_sone (d_retV (i := 3) (pv 3)))))
/-! ## _law_cell -/
theorem sc__law_cell : FnScope ["script", "k"] ["script", "k"] (defScope s__law_cell) := ⟨rfl, rfl, rfl, by decide +kernel, rfl, by decide +kernel, by decide +kernel⟩
noncomputable def body__law_cell : En → Out :=
  (sSeq (sIf (eTest (eOp dLt (eVar 1) (eCB dLen (aCons (eVar 0) aNil)))) (sRet (eCB dInt (aCons (eOp dIx (eVar 0) (eVar 1)) aNil))) sNx)
    (sRet (eOp dAdd (eOp dMul (eC (.int 104729)) (eVar 1)) (eCB dLen (aCons (eVar 0) aNil)))))
noncomputable def den__law_cell : List D → R Val := runD 2 body__law_cell
theorem ok__law_cell {P : Program} {w : World} {K : PySem.W.Frag} {mg : Str → Option Value} {base : Heap} {cl : Nat → Addr} (T : Tx K mg) : FnOk P w K mg base (L2.CX P w) 1 T.f__law_cell T.fd__law_cell ["script", "k"] (spD ⟨K, cl⟩ 2 den__law_cell) := by
  refine fn_den (n := 2) (k := 0) (kN := 2) (den := body__law_cell) (den' := den__law_cell) rfl T.t__law_cell.F sc__law_cell rfl rfl ?_
  intro cdv A outer s H E hr
  have tk : Takes (cxOf (L2.CX P w) P w K mg base ["script", "k"] "_law_cell" (defScope s__law_cell) T.f__law_cell cdv A outer s H E) (WE E) := takes_of rfl rfl rfl rfl
  have nd := (sc__law_cell).nd
  exact (d_scons (d_if (d_tcmp (op_lt) ob_lt (d_var 1 (pv 1)) (d_callB (cr_len rfl) cb_len (by rfl) T.m_len bt_len (d_cons (d_var 0 (pv 0)) d_nil))) (d_sone (d_ret (d_callTy (call_int1) cb_int (by rfl) T.m_int bt_int (d_cons (d_ix (or_ix rfl) ob_ix (d_var 0 (pv 0)) (d_var 1 (pv 1))) d_nil)))) d_snil)
    (d_sone (d_ret (d_op (or_add rfl) ob_add (d_op (or_mul rfl) ob_mul d_int (d_var 1 (pv 1))) (d_callB (cr_len rfl) cb_len (by rfl) T.m_len bt_len (d_cons (d_var 0 (pv 0)) d_nil))))))
/-! ## _law_same -/
theorem sc__law_same : FnScope ["actual", "due", "k"] ["actual", "due"] (defScope s__law_same) := ⟨rfl, rfl, rfl, by decide +kernel, rfl, by decide +kernel, by decide +kernel⟩
noncomputable def den__law_same : Nat → List D → R Val
  | 0 => fun _ => .no
  | fuel + 1 => runD 3 (
  (sSeq (sIf (eTest (eOp dIsN (eVar 1) (eC .non))) (sRet (eOp dIsN (eVar 0) (eC .non))) sNx)
    (sSeq (sIf (eTest (eCB dIsi (aCons (eVar 1) (aCons (eC (.ty .bool)) aNil)))) (sRet (eAnd (eCB dIsi (aCons (eVar 0) (aCons (eC (.ty .bool)) aNil))) (eOp dEq (eVar 0) (eVar 1)))) sNx)
    (sSeq (sIf (eTest (eCB dIsi (aCons (eVar 1) (aCons (eC (.ty .int)) aNil)))) (sRet (eAnd (eCB dIsi (aCons (eVar 0) (aCons (eC (.ty .int)) aNil))) (eAnd (eNot (eCB dIsi (aCons (eVar 0) (aCons (eC (.ty .bool)) aNil)))) (eOp dEq (eVar 0) (eVar 1))))) sNx)
    (sSeq (sIf (eTest (eCB dIsi (aCons (eVar 1) (aCons (eC (.ty .str)) aNil)))) (sRet (eAnd (eCB dIsi (aCons (eVar 0) (aCons (eC (.ty .str)) aNil))) (eOp dEq (eVar 0) (eVar 1)))) sNx)
    (sSeq (sIf (tOrD (tAndD (eTest (eCB dIsi (aCons (eVar 1) (aCons (eC (.ty .tuple)) aNil)))) (tNotD (eTest (eCB dIsi (aCons (eVar 0) (aCons (eC (.ty .tuple)) aNil)))))) (tAndD (eTest (eCB dIsi (aCons (eVar 1) (aCons (eC (.ty .list)) aNil)))) (tNotD (eTest (eCB dIsi (aCons (eVar 0) (aCons (eC (.ty .list)) aNil))))))) (sRet (eC (.bl false))) sNx)
    (sSeq (sIf (eTest (eOp dNe (eCB dLen (aCons (eVar 0) aNil)) (eCB dLen (aCons (eVar 1) aNil)))) (sRet (eC (.bl false))) sNx)
    (sSeq (sFor (iFun rng1 (aCons (eCB dLen (aCons (eVar 1) aNil)) aNil)) (.nm 2)
    (sIf (tNotD (eTest (eCall 2 (den__law_same fuel) (aCons (eOp dIx (eVar 0) (eVar 2)) (aCons (eOp dIx (eVar 1) (eVar 2)) aNil))))) (sRet (eC (.bl false))) sNx))
    (sRet (eC (.bl true)))))))))))
theorem ok__law_same {P : Program} {w : World} {K : PySem.W.Frag} {mg : Str → Option Value} {base : Heap} {cl : Nat → Addr} (T : Tx K mg) : ∀ fuel : Nat, FnOk P w K mg base (L2.CX P w) (0 + 1 + fuel) T.f__law_same T.fd__law_same ["actual", "due"] (spD ⟨K, cl⟩ 2 (den__law_same fuel))
  | 0 => fn_no
  | fuel + 1 => by
    have ihk := ok__law_same (P := P) (w := w) (base := base) (cl := cl) T fuel
    refine fn_den (n := 2) (k := 0 + 1 + fuel) (kN := 3) (N := ["actual", "due", "k"]) rfl T.t__law_same.F sc__law_same rfl rfl ?_
    intro cdv A outer s H E hr
    have tk : Takes (cxOf (L2.CX P w) P w K mg base ["actual", "due", "k"] "_law_same" (defScope s__law_same) T.f__law_same cdv A outer s H E) (WE E) := takes_of rfl rfl rfl rfl
    have nd := (sc__law_same).nd
    exact (d_scons (d_if (d_tcmp (op_isN) ob_isN (d_var 1 (pv 1)) d_non) (d_sone (d_ret (d_cmp (op_isN) ob_isN (d_var 0 (pv 0)) d_non))) d_snil)
    (d_scons (d_if (d_tval (d_callB (cr_isi rfl) cb_isi (by rfl) T.m_isinstance bt_isinstance (d_cons (d_var 1 (pv 1)) (d_cons (d_ty .bool (pe_bltn (by rfl) T.m_bool bt_bool rfl)) d_nil)))) (d_sone (d_ret (d_and (d_callB (cr_isi rfl) cb_isi (by rfl) T.m_isinstance bt_isinstance (d_cons (d_var 0 (pv 0)) (d_cons (d_ty .bool (pe_bltn (by rfl) T.m_bool bt_bool rfl)) d_nil))) (d_one (d_cmp (or_eq rfl (hu64 hr)) ob_eq (d_var 0 (pv 0)) (d_var 1 (pv 1))))))) d_snil)
    (d_scons (d_if (d_tval (d_callB (cr_isi rfl) cb_isi (by rfl) T.m_isinstance bt_isinstance (d_cons (d_var 1 (pv 1)) (d_cons (d_ty .int (pe_bltn (by rfl) T.m_int bt_int rfl)) d_nil)))) (d_sone (d_ret (d_and (d_callB (cr_isi rfl) cb_isi (by rfl) T.m_isinstance bt_isinstance (d_cons (d_var 0 (pv 0)) (d_cons (d_ty .int (pe_bltn (by rfl) T.m_int bt_int rfl)) d_nil))) (d_and (d_not (d_callB (cr_isi rfl) cb_isi (by rfl) T.m_isinstance bt_isinstance (d_cons (d_var 0 (pv 0)) (d_cons (d_ty .bool (pe_bltn (by rfl) T.m_bool bt_bool rfl)) d_nil)))) (d_one (d_cmp (or_eq rfl (hu64 hr)) ob_eq (d_var 0 (pv 0)) (d_var 1 (pv 1)))))))) d_snil)
    (d_scons (d_if (d_tval (d_callB (cr_isi rfl) cb_isi (by rfl) T.m_isinstance bt_isinstance (d_cons (d_var 1 (pv 1)) (d_cons (d_ty .str (pe_bltn (by rfl) T.m_str bt_str rfl)) d_nil)))) (d_sone (d_ret (d_and (d_callB (cr_isi rfl) cb_isi (by rfl) T.m_isinstance bt_isinstance (d_cons (d_var 0 (pv 0)) (d_cons (d_ty .str (pe_bltn (by rfl) T.m_str bt_str rfl)) d_nil))) (d_one (d_cmp (or_eq rfl (hu64 hr)) ob_eq (d_var 0 (pv 0)) (d_var 1 (pv 1))))))) d_snil)
    (d_scons (d_if ((d_wor ((d_wand (d_tval (d_callB (cr_isi rfl) cb_isi (by rfl) T.m_isinstance bt_isinstance (d_cons (d_var 1 (pv 1)) (d_cons (d_ty .tuple (pe_bltn (by rfl) T.m_tuple bt_tuple rfl)) d_nil)))) (d_wand1 (d_tnot (d_tval (d_callB (cr_isi rfl) cb_isi (by rfl) T.m_isinstance bt_isinstance (d_cons (d_var 0 (pv 0)) (d_cons (d_ty .tuple (pe_bltn (by rfl) T.m_tuple bt_tuple rfl)) d_nil)))))))).pt (d_wor1 ((d_wand (d_tval (d_callB (cr_isi rfl) cb_isi (by rfl) T.m_isinstance bt_isinstance (d_cons (d_var 1 (pv 1)) (d_cons (d_ty .list (pe_bltn (by rfl) T.m_list bt_list rfl)) d_nil)))) (d_wand1 (d_tnot (d_tval (d_callB (cr_isi rfl) cb_isi (by rfl) T.m_isinstance bt_isinstance (d_cons (d_var 0 (pv 0)) (d_cons (d_ty .list (pe_bltn (by rfl) T.m_list bt_list rfl)) d_nil)))))))).pt))).pt (d_sone (d_ret d_bl)) d_snil)
    (d_scons (d_if (d_tcmp (or_ne rfl (hu64 hr)) ob_ne (d_callB (cr_len rfl) cb_len (by rfl) T.m_len bt_len (d_cons (d_var 0 (pv 0)) d_nil)) (d_callB (cr_len rfl) cb_len (by rfl) T.m_len bt_len (d_cons (d_var 1 (pv 1)) d_nil))) (d_sone (d_ret d_bl)) d_snil)
    (d_scons (d_for (passes_of rfl) rfl (d_range1 (by rfl) T.m_range (d_cons (d_callB (cr_len rfl) cb_len (by rfl) T.m_len bt_len (d_cons (d_var 1 (pv 1)) d_nil)) d_nil)) (d_nm (i := 2) (pg_name nd rfl (by first | exact Or.inl rfl | exact Or.inr rfl)))
    (d_sone (d_if (d_tnot (d_tval (d_call ihk tk (hr.mono (by omega)) (by rfl) T.t__law_same.g T.t__law_same.F.kp T.t__law_same.b (d_cons (d_ix (or_ix rfl) ob_ix (d_var 0 (pv 0)) (d_var 2 (pv 2))) (d_cons (d_ix (or_ix rfl) ob_ix (d_var 1 (pv 1)) (d_var 2 (pv 2))) d_nil))))) (d_sone (d_ret d_bl)) d_snil)))
    (d_sone (d_ret d_bl)))))))))
/-! ## _law_plan_count -/
theorem sc__law_plan_count : FnScope ["hands", "count", "hand", "k"] ["hands"] (defScope s__law_plan_count) := ⟨rfl, rfl, rfl, by decide +kernel, rfl, by decide +kernel, by decide +kernel⟩
noncomputable def body__law_plan_count : En → Out :=
  (sSeq (sAsg 1 (eC (.int 1)))
    (sSeq (sFor (iSeq (eVar 0)) (.nm 2)
    (sFor (iFun rng1 (aCons (eOp dIx (eVar 2) (eC (.int 0))) aNil)) (.nm 3)
    (frz 1 (sAsg 1 (eOp dMul (eVar 1) (eOp dIx (eVar 2) (eC (.int 1))))))))
    (sRetV 1)))
noncomputable def den__law_plan_count : List D → R Val := runD 4 body__law_plan_count
theorem ok__law_plan_count {P : Program} {w : World} {K : PySem.W.Frag} {mg : Str → Option Value} {base : Heap} {cl : Nat → Addr} (T : Tx K mg) : FnOk P w K mg base (L2.CX P w) 1 T.f__law_plan_count T.fd__law_plan_count ["hands"] (spD ⟨K, cl⟩ 1 den__law_plan_count) := by
  refine fn_den (n := 1) (k := 0) (kN := 4) (den := body__law_plan_count) (den' := den__law_plan_count) rfl T.t__law_plan_count.F sc__law_plan_count rfl rfl ?_
  intro cdv A outer s H E hr
  have tk : Takes (cxOf (L2.CX P w) P w K mg base ["hands", "count", "hand", "k"] "_law_plan_count" (defScope s__law_plan_count) T.f__law_plan_count cdv A outer s H E) (WE E) := takes_of rfl rfl rfl rfl
  have nd := (sc__law_plan_count).nd
  exact (d_scons (d_asg (i := 1) (fun te h => ps_set (i := 1) nd rfl (by first | exact Or.inl rfl | exact Or.inr rfl) h) d_int)
    (d_scons (d_for (passes_of rfl) rfl (d_iter rfl (d_var 0 (pv 0))) (d_nm (i := 2) (pg_name nd rfl (by first | exact Or.inl rfl | exact Or.inr rfl)))
    (d_sone (d_for (passes_of rfl) rfl (d_range1 (by rfl) T.m_range (d_cons (d_ix (or_ix rfl) ob_ix (d_var 2 (pv 2)) d_int) d_nil)) (d_nm (i := 3) (pg_name nd rfl (by first | exact Or.inl rfl | exact Or.inr rfl)))
    (d_sone (d_frz 1 (d_asg (i := 1) (fun te h => ps_set (i := 1) nd rfl (by first | exact Or.inl rfl | exact Or.inr rfl) h) (d_op (or_mul rfl) ob_mul (d_var 1 (pv 1)) (d_ix (or_ix rfl) ob_ix (d_var 2 (pv 2)) d_int))))))))
    (d_sone (d_retV (i := 1) (pv 1)))))
/-! ## _law_smaller -/
theorem sc__law_smaller : FnScope ["hands", "widest", "k", "hand"] ["hands"] (defScope s__law_smaller) := ⟨rfl, rfl, rfl, by decide +kernel, rfl, by decide +kernel, by decide +kernel⟩
noncomputable def body__law_smaller : En → Out :=
  (sSeq (frz 0 (sAsgS 1 (eCB dMax (aCons (eLc [3] (iSeq (eVar 0)) (.nm 3) tYesD (eOp dIx (eVar 3) (eC (.int 0)))) aNil))))
    (sSeq (sFor (iFun rng1 (aCons (eLenO 0) aNil)) (.nm 2)
    (sSeq (sIf (tAndD (eTest (eOp dGt (eVar 1) (eC (.int 1)))) (eTest (eOp dEq (eOp dIx (eIxO 0 (eVar 2)) (eC (.int 0))) (eVar 1)))) (frz 0 (sRet (eOp dAdd (eOp dAdd (eSl dSl (eVar 0) oNone (oSome (eVar 2))) (eTup (aCons (eTup (aCons (eOp dSub (eVar 1) (eC (.int 1))) (aCons (eOp dIx (eIxO 0 (eVar 2)) (eC (.int 1))) aNil))) aNil))) (eSl dSl (eVar 0) (oSome (eOp dAdd (eVar 2) (eC (.int 1)))) oNone)))) sNx)
    (sIf (tAndD (eTest (eOp dEq (eVar 1) (eC (.int 1)))) (eTest (eOp dEq (eOp dIx (eIxO 0 (eVar 2)) (eC (.int 1))) (eC (.int 3))))) (frz 0 (sRet (eOp dAdd (eOp dAdd (eSl dSl (eVar 0) oNone (oSome (eVar 2))) (eTup (aCons (eTup (aCons (eC (.int 1)) (aCons (eC (.int 2)) aNil))) aNil))) (eSl dSl (eVar 0) (oSome (eOp dAdd (eVar 2) (eC (.int 1)))) oNone)))) sNx)))
    (sRetV 0)))
noncomputable def den__law_smaller : List D → R Val := runD 4 body__law_smaller
theorem ok__law_smaller {P : Program} {w : World} {K : PySem.W.Frag} {mg : Str → Option Value} {base : Heap} {cl : Nat → Addr} (T : Tx K mg) : FnOk P w K mg base (L2.CX P w) 1 T.f__law_smaller T.fd__law_smaller ["hands"] (spD ⟨K, cl⟩ 1 den__law_smaller) := by
  refine fn_den (n := 1) (k := 0) (kN := 4) (den := body__law_smaller) (den' := den__law_smaller) rfl T.t__law_smaller.F sc__law_smaller rfl rfl ?_
  intro cdv A outer s H E hr
  have tk : Takes (cxOf (L2.CX P w) P w K mg base ["hands", "widest", "k", "hand"] "_law_smaller" (defScope s__law_smaller) T.f__law_smaller cdv A outer s H E) (WE E) := takes_of rfl rfl rfl rfl
  have nd := (sc__law_smaller).nd
  exact (d_scons (d_frz 0 (d_asgS (i := 1) (fun te h => ps_set (i := 1) nd rfl (by first | exact Or.inl rfl | exact Or.inr rfl) h) (d_callB (cr_max' rfl rfl) cb_max (by rfl) T.m_max bt_max (d_cons (d_lc rfl nd (own := [("hand", 3)]) (blkOk_by (by first | rfl | kernel_rfl)) (by decide) (d_iter rfl (d_var 0 (pv 0))) (fun _ _ _ _ _ => (d_nm (i := 3) (pg_name nd rfl (by first | exact Or.inl rfl | exact Or.inr rfl)))) (fun _ _ _ _ _ => d_yes) (fun _ _ _ _ _ => (d_ix (or_ix rfl) ob_ix (d_var 3 (pv 3)) d_int))) d_nil))))
    (d_scons (d_for (passes_of rfl) rfl (d_range1 (by rfl) T.m_range (d_cons (d_lenO rfl (pv 0) (by rfl) T.m_len) d_nil)) (d_nm (i := 2) (pg_name nd rfl (by first | exact Or.inl rfl | exact Or.inr rfl)))
    (d_scons (d_if ((d_wand (d_tcmp (op_gt) ob_gt (d_var 1 (pv 1)) d_int) (d_wand1 (d_tcmp (or_eq rfl (hu64 hr)) ob_eq (d_ix (or_ix rfl) ob_ix (d_ixO rfl (pv 0) (d_var 0 (pv 0)) (d_var 2 (pv 2))) d_int) (d_var 1 (pv 1)))))).pt (d_sone (d_frz 0 (d_ret (d_op (or_add rfl) ob_add (d_op (or_add rfl) ob_add (d_slice (or_sl rfl) sb_sl (d_var 0 (pv 0)) d_oNone (d_oSome (d_var 2 (pv 2)))) (d_tup (d_cons (d_tup (d_cons (d_op (op_sub) ob_sub (d_var 1 (pv 1)) d_int) (d_cons (d_ix (or_ix rfl) ob_ix (d_ixO rfl (pv 0) (d_var 0 (pv 0)) (d_var 2 (pv 2))) d_int) d_nil))) d_nil))) (d_slice (or_sl rfl) sb_sl (d_var 0 (pv 0)) (d_oSome (d_op (or_add rfl) ob_add (d_var 2 (pv 2)) d_int)) d_oNone))))) d_snil)
    (d_sone (d_if ((d_wand (d_tcmp (or_eq rfl (hu64 hr)) ob_eq (d_var 1 (pv 1)) d_int) (d_wand1 (d_tcmp (or_eq rfl (hu64 hr)) ob_eq (d_ix (or_ix rfl) ob_ix (d_ixO rfl (pv 0) (d_var 0 (pv 0)) (d_var 2 (pv 2))) d_int) d_int)))).pt (d_sone (d_frz 0 (d_ret (d_op (or_add rfl) ob_add (d_op (or_add rfl) ob_add (d_slice (or_sl rfl) sb_sl (d_var 0 (pv 0)) d_oNone (d_oSome (d_var 2 (pv 2)))) (d_tup (d_cons (d_tup (d_cons d_int (d_cons d_int d_nil))) d_nil))) (d_slice (or_sl rfl) sb_sl (d_var 0 (pv 0)) (d_oSome (d_op (or_add rfl) ob_add (d_var 2 (pv 2)) d_int)) d_oNone))))) d_snil))))
    (d_sone (d_retV (i := 0) (pv 0)))))
/-! ## _law_hands -/
theorem sc__law_hands : FnScope ["cell", "most", "hands", "rest", "k"] ["cell", "most"] (defScope s__law_hands) := ⟨rfl, rfl, rfl, by decide +kernel, rfl, by decide +kernel, by decide +kernel⟩
noncomputable def body__law_hands : En → Out :=
  (sSeq (sAsg 2 (eTup aNil))
    (sSeq (sAsgS 3 (eOp dFdv (eVar 0) (eC (.int 6))))
    (sSeq (sFor (iFun rng1 (aCons (eOp dIx (eLst (aCons (eC (.int 2)) (aCons (eC (.int 3)) (aCons (eC (.int 2)) (aCons (eC (.int 1)) (aCons (eC (.int 2)) (aCons (eC (.int 2)) aNil))))))) (eOp dMod (eCB dInt (aCons (eVar 0) aNil)) (eC (.int 6)))) aNil)) (.nm 4)
    (sSeq (frz 2 (sAsg 2 (eOp dAdd (eVar 2) (eTup (aCons (eTup (aCons (eOp dAdd (eC (.int 1)) (eOp dMod (eCB dInt (aCons (eOp dAdd (eVar 3) (eC (.int 1))) aNil)) (eC (.int 4)))) (aCons (eOp dAdd (eC (.int 2)) (eOp dFdv (eOp dMod (eCB dInt (aCons (eOp dFdv (eVar 3) (eC (.int 4))) aNil)) (eC (.int 4))) (eC (.int 3)))) aNil))) aNil)))))
    (sAsgS 3 (eOp dFdv (eVar 3) (eC (.int 16))))))
    (sSeq (sFor (iFun rng1 (aCons (eC (.int 12)) aNil)) (.nm 4)
    (sIf (lendT 2 (eTest (eOp dGt (eCall 1 den__law_plan_count (aCons (eVar 2) aNil)) (eVar 1)))) (frz 2 (sAsg 2 (eCall 1 den__law_smaller (aCons (eVar 2) aNil)))) sNx))
    (sRetV 2)))))
noncomputable def den__law_hands : List D → R Val := runD 5 body__law_hands
theorem ok__law_hands {P : Program} {w : World} {K : PySem.W.Frag} {mg : Str → Option Value} {base : Heap} {cl : Nat → Addr} (T : Tx K mg) : FnOk P w K mg base (L2.CX P w) 2 T.f__law_hands T.fd__law_hands ["cell", "most"] (spD ⟨K, cl⟩ 2 den__law_hands) := by
  refine fn_den (n := 2) (k := 1) (kN := 5) (den := body__law_hands) (den' := den__law_hands) rfl T.t__law_hands.F sc__law_hands rfl rfl ?_
  intro cdv A outer s H E hr
  have tk : Takes (cxOf (L2.CX P w) P w K mg base ["cell", "most", "hands", "rest", "k"] "_law_hands" (defScope s__law_hands) T.f__law_hands cdv A outer s H E) (WE E) := takes_of rfl rfl rfl rfl
  have nd := (sc__law_hands).nd
  exact (d_scons (d_asg (i := 2) (fun te h => ps_set (i := 2) nd rfl (by first | exact Or.inl rfl | exact Or.inr rfl) h) (d_tup d_nil))
    (d_scons (d_asgS (i := 3) (fun te h => ps_set (i := 3) nd rfl (by first | exact Or.inl rfl | exact Or.inr rfl) h) (d_op (op_fdivW) ob_fdv (d_var 0 (pv 0)) d_int))
    (d_scons (d_for (passes_of rfl) rfl (d_range1 (by rfl) T.m_range (d_cons (d_ix (or_ix rfl) ob_ix (d_lst (d_cons d_int (d_cons d_int (d_cons d_int (d_cons d_int (d_cons d_int (d_cons d_int d_nil))))))) (d_op (op_mod) ob_mod (d_callTy (call_int1) cb_int (by rfl) T.m_int bt_int (d_cons (d_var 0 (pv 0)) d_nil)) d_int)) d_nil)) (d_nm (i := 4) (pg_name nd rfl (by first | exact Or.inl rfl | exact Or.inr rfl)))
    (d_scons (d_frz 2 (d_asg (i := 2) (fun te h => ps_set (i := 2) nd rfl (by first | exact Or.inl rfl | exact Or.inr rfl) h) (d_op (or_add rfl) ob_add (d_var 2 (pv 2)) (d_tup (d_cons (d_tup (d_cons (d_op (or_add rfl) ob_add d_int (d_op (op_mod) ob_mod (d_callTy (call_int1) cb_int (by rfl) T.m_int bt_int (d_cons (d_op (or_add rfl) ob_add (d_var 3 (pv 3)) d_int) d_nil)) d_int)) (d_cons (d_op (or_add rfl) ob_add d_int (d_op (op_fdivW) ob_fdv (d_op (op_mod) ob_mod (d_callTy (call_int1) cb_int (by rfl) T.m_int bt_int (d_cons (d_op (op_fdivW) ob_fdv (d_var 3 (pv 3)) d_int) d_nil)) d_int) d_int)) d_nil))) d_nil)))))
    (d_sone (d_asgS (i := 3) (fun te h => ps_set (i := 3) nd rfl (by first | exact Or.inl rfl | exact Or.inr rfl) h) (d_op (op_fdivW) ob_fdv (d_var 3 (pv 3)) d_int)))))
    (d_scons (d_for (passes_of rfl) rfl (d_range1 (by rfl) T.m_range (d_cons d_int d_nil)) (d_nm (i := 4) (pg_name nd rfl (by first | exact Or.inl rfl | exact Or.inr rfl)))
    (d_sone (d_if (d_lendT 2 (d_tcmp (op_gt) ob_gt (d_call (ok__law_plan_count T) tk (hr.mono (by decide)) (by rfl) T.t__law_plan_count.g T.t__law_plan_count.F.kp T.t__law_plan_count.b (d_cons (d_var 2 (pv 2)) d_nil)) (d_var 1 (pv 1)))) (d_sone (d_frz 2 (d_asg (i := 2) (fun te h => ps_set (i := 2) nd rfl (by first | exact Or.inl rfl | exact Or.inr rfl) h) (d_call (ok__law_smaller T) tk (hr.mono (by decide)) (by rfl) T.t__law_smaller.g T.t__law_smaller.F.kp T.t__law_smaller.b (d_cons (d_var 2 (pv 2)) d_nil))))) d_snil)))
    (d_sone (d_retV (i := 2) (pv 2)))))))
/-! ## _law_tuples -/
theorem sc__law_tuples : FnScope ["bounds", "found", "bound", "longer", "one", "k"] ["bounds"] (defScope s__law_tuples) := ⟨rfl, rfl, rfl, by decide +kernel, rfl, by decide +kernel, by decide +kernel⟩
noncomputable def body__law_tuples : En → Out :=
  (sSeq (sAsg 1 (eLst (aCons (eTup aNil) aNil)))
    (sSeq (sFor (iSeq (eVar 0)) (.nm 2)
    (sSeq (sAsgS 3 (eLst aNil))
    (sSeq (frz 1 (sFor (iSeq (eVar 1)) (.nm 4)
    (sAsgS 3 (eOp dAdd (eVar 3) (eLc [5] (iFun rng1 (aCons (eVar 2) aNil)) (.nm 5) tYesD (eOp dAdd (eVar 4) (eTup (aCons (eVar 5) aNil))))))))
    (sAsg 1 (eVar 3)))))
    (sRetV 1)))
noncomputable def den__law_tuples : List D → R Val := runD 6 body__law_tuples
theorem ok__law_tuples {P : Program} {w : World} {K : PySem.W.Frag} {mg : Str → Option Value} {base : Heap} {cl : Nat → Addr} (T : Tx K mg) : FnOk P w K mg base (L2.CX P w) 1 T.f__law_tuples T.fd__law_tuples ["bounds"] (spD ⟨K, cl⟩ 1 den__law_tuples) := by
  refine fn_den (n := 1) (k := 0) (kN := 6) (den := body__law_tuples) (den' := den__law_tuples) rfl T.t__law_tuples.F sc__law_tuples rfl rfl ?_
  intro cdv A outer s H E hr
  have tk : Takes (cxOf (L2.CX P w) P w K mg base ["bounds", "found", "bound", "longer", "one", "k"] "_law_tuples" (defScope s__law_tuples) T.f__law_tuples cdv A outer s H E) (WE E) := takes_of rfl rfl rfl rfl
  have nd := (sc__law_tuples).nd
  exact (d_scons (d_asg (i := 1) (fun te h => ps_set (i := 1) nd rfl (by first | exact Or.inl rfl | exact Or.inr rfl) h) (d_lst (d_cons (d_tup d_nil) d_nil)))
    (d_scons (d_for (passes_of rfl) rfl (d_iter rfl (d_var 0 (pv 0))) (d_nm (i := 2) (pg_name nd rfl (by first | exact Or.inl rfl | exact Or.inr rfl)))
    (d_scons (d_asgS (i := 3) (fun te h => ps_set (i := 3) nd rfl (by first | exact Or.inl rfl | exact Or.inr rfl) h) (d_lst d_nil))
    (d_scons (d_frz 1 (d_for (passes_of rfl) rfl (d_iter rfl (d_var 1 (pv 1))) (d_nm (i := 4) (pg_name nd rfl (by first | exact Or.inl rfl | exact Or.inr rfl)))
    (d_sone (d_asgS (i := 3) (fun te h => ps_set (i := 3) nd rfl (by first | exact Or.inl rfl | exact Or.inr rfl) h) (d_op (or_add rfl) ob_add (d_var 3 (pv 3)) (d_lc rfl nd (own := [("k", 5)]) (blkOk_by (by first | rfl | kernel_rfl)) (by decide) (d_range1 (by rfl) T.m_range (d_cons (d_var 2 (pv 2)) d_nil)) (fun _ _ _ _ _ => (d_nm (i := 5) (pg_name nd rfl (by first | exact Or.inl rfl | exact Or.inr rfl)))) (fun _ _ _ _ _ => d_yes) (fun _ _ _ _ _ => (d_op (or_add rfl) ob_add (d_var 4 (pv 4)) (d_tup (d_cons (d_var 5 (pv 5)) d_nil))))))))))
    (d_sone (d_asg (i := 1) (fun te h => ps_set (i := 1) nd rfl (by first | exact Or.inl rfl | exact Or.inr rfl) h) (d_var 3 (pv 3)))))))
    (d_sone (d_retV (i := 1) (pv 1)))))
/-! ## _law_counts -/
theorem sc__law_counts : FnScope ["hands", "hand"] ["hands"] (defScope s__law_counts) := ⟨rfl, rfl, rfl, by decide +kernel, rfl, by decide +kernel, by decide +kernel⟩
noncomputable def body__law_counts : En → Out :=
  (sRet (eLc [1] (iSeq (eVar 0)) (.nm 1) tYesD (eOp dIx (eVar 1) (eC (.int 0)))))
noncomputable def den__law_counts : List D → R Val := runD 2 body__law_counts
theorem ok__law_counts {P : Program} {w : World} {K : PySem.W.Frag} {mg : Str → Option Value} {base : Heap} {cl : Nat → Addr} (T : Tx K mg) : FnOk P w K mg base (L2.CX P w) 1 T.f__law_counts T.fd__law_counts ["hands"] (spD ⟨K, cl⟩ 1 den__law_counts) := by
  refine fn_den (n := 1) (k := 0) (kN := 2) (den := body__law_counts) (den' := den__law_counts) rfl T.t__law_counts.F sc__law_counts rfl rfl ?_
  intro cdv A outer s H E hr
  have tk : Takes (cxOf (L2.CX P w) P w K mg base ["hands", "hand"] "_law_counts" (defScope s__law_counts) T.f__law_counts cdv A outer s H E) (WE E) := takes_of rfl rfl rfl rfl
  have nd := (sc__law_counts).nd
  exact (d_sone (d_ret (d_lc rfl nd (own := [("hand", 1)]) (blkOk_by (by first | rfl | kernel_rfl)) (by decide) (d_iter rfl (d_var 0 (pv 0))) (fun _ _ _ _ _ => (d_nm (i := 1) (pg_name nd rfl (by first | exact Or.inl rfl | exact Or.inr rfl)))) (fun _ _ _ _ _ => d_yes) (fun _ _ _ _ _ => (d_ix (or_ix rfl) ob_ix (d_var 1 (pv 1)) d_int)))))
/-! ## _law_signs -/
theorem sc__law_signs : FnScope ["hands", "hand"] ["hands"] (defScope s__law_signs) := ⟨rfl, rfl, rfl, by decide +kernel, rfl, by decide +kernel, by decide +kernel⟩
noncomputable def body__law_signs : En → Out :=
  (sRet (eLc [1] (iSeq (eVar 0)) (.nm 1) tYesD (eOp dIx (eVar 1) (eC (.int 1)))))
noncomputable def den__law_signs : List D → R Val := runD 2 body__law_signs
theorem ok__law_signs {P : Program} {w : World} {K : PySem.W.Frag} {mg : Str → Option Value} {base : Heap} {cl : Nat → Addr} (T : Tx K mg) : FnOk P w K mg base (L2.CX P w) 1 T.f__law_signs T.fd__law_signs ["hands"] (spD ⟨K, cl⟩ 1 den__law_signs) := by
  refine fn_den (n := 1) (k := 0) (kN := 2) (den := body__law_signs) (den' := den__law_signs) rfl T.t__law_signs.F sc__law_signs rfl rfl ?_
  intro cdv A outer s H E hr
  have tk : Takes (cxOf (L2.CX P w) P w K mg base ["hands", "hand"] "_law_signs" (defScope s__law_signs) T.f__law_signs cdv A outer s H E) (WE E) := takes_of rfl rfl rfl rfl
  have nd := (sc__law_signs).nd
  exact (d_sone (d_ret (d_lc rfl nd (own := [("hand", 1)]) (blkOk_by (by first | rfl | kernel_rfl)) (by decide) (d_iter rfl (d_var 0 (pv 0))) (fun _ _ _ _ _ => (d_nm (i := 1) (pg_name nd rfl (by first | exact Or.inl rfl | exact Or.inr rfl)))) (fun _ _ _ _ _ => d_yes) (fun _ _ _ _ _ => (d_ix (or_ix rfl) ob_ix (d_var 1 (pv 1)) d_int)))))
/-! ## _law_options -/
theorem sc__law_options : FnScope ["hand", "last", "k"] ["hand"] (defScope s__law_options) := ⟨rfl, rfl, rfl, by decide +kernel, rfl, by decide +kernel, by decide +kernel⟩
noncomputable def body__law_options : En → Out :=
  (sSeq (sAsgS 1 (eOp dSub (eOp dIx (eVar 0) (eC (.int 1))) (eC (.int 1))))
    (sRet (eOp dAdd (eLst (aCons (eC .non) aNil)) (eLc [2] (iFun rng1 (aCons (eOp dMul (eOp dIx (eVar 0) (eC (.int 0))) (eVar 1)) aNil)) (.nm 2) tYesD (eTup (aCons (eOp dFdv (eVar 2) (eVar 1)) (aCons (eOp dMod (eCB dInt (aCons (eVar 2) aNil)) (eVar 1)) aNil)))))))
noncomputable def den__law_options : List D → R Val := runD 3 body__law_options
theorem ok__law_options {P : Program} {w : World} {K : PySem.W.Frag} {mg : Str → Option Value} {base : Heap} {cl : Nat → Addr} (T : Tx K mg) : FnOk P w K mg base (L2.CX P w) 1 T.f__law_options T.fd__law_options ["hand"] (spD ⟨K, cl⟩ 1 den__law_options) := by
  refine fn_den (n := 1) (k := 0) (kN := 3) (den := body__law_options) (den' := den__law_options) rfl T.t__law_options.F sc__law_options rfl rfl ?_
  intro cdv A outer s H E hr
  have tk : Takes (cxOf (L2.CX P w) P w K mg base ["hand", "last", "k"] "_law_options" (defScope s__law_options) T.f__law_options cdv A outer s H E) (WE E) := takes_of rfl rfl rfl rfl
  have nd := (sc__law_options).nd
  exact (d_scons (d_asgS (i := 1) (fun te h => ps_set (i := 1) nd rfl (by first | exact Or.inl rfl | exact Or.inr rfl) h) (d_op (op_sub) ob_sub (d_ix (or_ix rfl) ob_ix (d_var 0 (pv 0)) d_int) d_int))
    (d_sone (d_ret (d_op (or_add rfl) ob_add (d_lst (d_cons d_non d_nil)) (d_lc rfl nd (own := [("k", 2)]) (blkOk_by (by first | rfl | kernel_rfl)) (by decide) (d_range1 (by rfl) T.m_range (d_cons (d_op (or_mul rfl) ob_mul (d_ix (or_ix rfl) ob_ix (d_var 0 (pv 0)) d_int) (d_var 1 (pv 1))) d_nil)) (fun _ _ _ _ _ => (d_nm (i := 2) (pg_name nd rfl (by first | exact Or.inl rfl | exact Or.inr rfl)))) (fun _ _ _ _ _ => d_yes) (fun _ _ _ _ _ => (d_tup (d_cons (d_op (op_fdivW) ob_fdv (d_var 2 (pv 2)) (d_var 1 (pv 1))) (d_cons (d_op (op_mod) ob_mod (d_callTy (call_int1) cb_int (by rfl) T.m_int bt_int (d_cons (d_var 2 (pv 2)) d_nil)) (d_var 1 (pv 1))) d_nil)))))))))
/-! ## _law_places -/
theorem sc__law_places : FnScope ["hands", "found", "hand", "longer", "one", "option"] ["hands"] (defScope s__law_places) := ⟨rfl, rfl, rfl, by decide +kernel, rfl, by decide +kernel, by decide +kernel⟩
noncomputable def body__law_places : En → Out :=
  (sSeq (sAsg 1 (eLst (aCons (eTup aNil) aNil)))
    (sSeq (sFor (iSeq (eVar 0)) (.nm 2)
    (sSeq (sAsgS 3 (eLst aNil))
    (sSeq (frz 1 (sFor (iSeq (eVar 1)) (.nm 4)
    (sAsgS 3 (eOp dAdd (eVar 3) (eLc [5] (iSeq (eCall 1 den__law_options (aCons (eVar 2) aNil))) (.nm 5) tYesD (eOp dAdd (eVar 4) (eTup (aCons (eVar 5) aNil))))))))
    (sAsg 1 (eVar 3)))))
    (sRetV 1)))
noncomputable def den__law_places : List D → R Val := runD 6 body__law_places
theorem ok__law_places {P : Program} {w : World} {K : PySem.W.Frag} {mg : Str → Option Value} {base : Heap} {cl : Nat → Addr} (T : Tx K mg) : FnOk P w K mg base (L2.CX P w) 2 T.f__law_places T.fd__law_places ["hands"] (spD ⟨K, cl⟩ 1 den__law_places) := by
  refine fn_den (n := 1) (k := 1) (kN := 6) (den := body__law_places) (den' := den__law_places) rfl T.t__law_places.F sc__law_places rfl rfl ?_
  intro cdv A outer s H E hr
  have tk : Takes (cxOf (L2.CX P w) P w K mg base ["hands", "found", "hand", "longer", "one", "option"] "_law_places" (defScope s__law_places) T.f__law_places cdv A outer s H E) (WE E) := takes_of rfl rfl rfl rfl
  have nd := (sc__law_places).nd
  exact (d_scons (d_asg (i := 1) (fun te h => ps_set (i := 1) nd rfl (by first | exact Or.inl rfl | exact Or.inr rfl) h) (d_lst (d_cons (d_tup d_nil) d_nil)))
    (d_scons (d_for (passes_of rfl) rfl (d_iter rfl (d_var 0 (pv 0))) (d_nm (i := 2) (pg_name nd rfl (by first | exact Or.inl rfl | exact Or.inr rfl)))
    (d_scons (d_asgS (i := 3) (fun te h => ps_set (i := 3) nd rfl (by first | exact Or.inl rfl | exact Or.inr rfl) h) (d_lst d_nil))
    (d_scons (d_frz 1 (d_for (passes_of rfl) rfl (d_iter rfl (d_var 1 (pv 1))) (d_nm (i := 4) (pg_name nd rfl (by first | exact Or.inl rfl | exact Or.inr rfl)))
    (d_sone (d_asgS (i := 3) (fun te h => ps_set (i := 3) nd rfl (by first | exact Or.inl rfl | exact Or.inr rfl) h) (d_op (or_add rfl) ob_add (d_var 3 (pv 3)) (d_lc rfl nd (own := [("option", 5)]) (blkOk_by (by first | rfl | kernel_rfl)) (by decide) (d_iter rfl (d_call (ok__law_options T) tk (hr.mono (by decide)) (by rfl) T.t__law_options.g T.t__law_options.F.kp T.t__law_options.b (d_cons (d_var 2 (pv 2)) d_nil))) (fun _ _ _ _ _ => (d_nm (i := 5) (pg_name nd rfl (by first | exact Or.inl rfl | exact Or.inr rfl)))) (fun _ _ _ _ _ => d_yes) (fun _ _ _ _ _ => (d_op (or_add rfl) ob_add (d_var 4 (pv 4)) (d_tup (d_cons (d_var 5 (pv 5)) d_nil))))))))))
    (d_sone (d_asg (i := 1) (fun te h => ps_set (i := 1) nd rfl (by first | exact Or.inl rfl | exact Or.inr rfl) h) (d_var 3 (pv 3)))))))
    (d_sone (d_retV (i := 1) (pv 1)))))
/-! ## _law_factor -/
theorem sc__law_factor : FnScope ["hands", "place", "context", "outcome", "factor", "k", "last"] ["hands", "place", "context", "outcome"] (defScope s__law_factor) := ⟨rfl, rfl, rfl, by decide +kernel, rfl, by decide +kernel, by decide +kernel⟩
noncomputable def body__law_factor : En → Out :=
  (sSeq (sAsg 4 (eC (.int 1)))
    (sSeq (sFor (iFun rng1 (aCons (eCB dLen (aCons (eVar 0) aNil)) aNil)) (.nm 5)
    (sSeq (sAsgS 6 (eOp dEq (eOp dIx (eVar 3) (eVar 5)) (eOp dSub (eOp dIx (eOp dIx (eVar 0) (eVar 5)) (eC (.int 1))) (eC (.int 1)))))
    (sIf (eTest (eOp dIsN (eOp dIx (eVar 1) (eVar 5)) (eC .non))) (frz 4 (sAsg 4 (eOp dMul (eVar 4) (eCB dInt (aCons (eVar 6) aNil))))) (sIf (eTest (eOp dNe (eOp dIx (eOp dIx (eVar 1) (eVar 5)) (eC (.int 0))) (eOp dIx (eVar 2) (eVar 5)))) (sAsg 4 (eC (.int 0))) (sIf (eTest (eVar 6)) (frz 4 (sAsg 4 (eOp dSub (eC (.int 0)) (eVar 4)))) (frz 4 (sAsg 4 (eOp dMul (eVar 4) (eCB dInt (aCons (eOp dEq (eOp dIx (eOp dIx (eVar 1) (eVar 5)) (eC (.int 1))) (eOp dIx (eVar 3) (eVar 5))) aNil))))))))))
    (sRetV 4)))
noncomputable def den__law_factor : List D → R Val := runD 7 body__law_factor
theorem ok__law_factor {P : Program} {w : World} {K : PySem.W.Frag} {mg : Str → Option Value} {base : Heap} {cl : Nat → Addr} (T : Tx K mg) : FnOk P w K mg base (L2.CX P w) 1 T.f__law_factor T.fd__law_factor ["hands", "place", "context", "outcome"] (spD ⟨K, cl⟩ 4 den__law_factor) := by
  refine fn_den (n := 4) (k := 0) (kN := 7) (den := body__law_factor) (den' := den__law_factor) rfl T.t__law_factor.F sc__law_factor rfl rfl ?_
  intro cdv A outer s H E hr
  have tk : Takes (cxOf (L2.CX P w) P w K mg base ["hands", "place", "context", "outcome", "factor", "k", "last"] "_law_factor" (defScope s__law_factor) T.f__law_factor cdv A outer s H E) (WE E) := takes_of rfl rfl rfl rfl
  have nd := (sc__law_factor).nd
  exact (d_scons (d_asg (i := 4) (fun te h => ps_set (i := 4) nd rfl (by first | exact Or.inl rfl | exact Or.inr rfl) h) d_int)
    (d_scons (d_for (passes_of rfl) rfl (d_range1 (by rfl) T.m_range (d_cons (d_callB (cr_len rfl) cb_len (by rfl) T.m_len bt_len (d_cons (d_var 0 (pv 0)) d_nil)) d_nil)) (d_nm (i := 5) (pg_name nd rfl (by first | exact Or.inl rfl | exact Or.inr rfl)))
    (d_scons (d_asgS (i := 6) (fun te h => ps_set (i := 6) nd rfl (by first | exact Or.inl rfl | exact Or.inr rfl) h) (d_cmp (or_eq rfl (hu64 hr)) ob_eq (d_ix (or_ix rfl) ob_ix (d_var 3 (pv 3)) (d_var 5 (pv 5))) (d_op (op_sub) ob_sub (d_ix (or_ix rfl) ob_ix (d_ix (or_ix rfl) ob_ix (d_var 0 (pv 0)) (d_var 5 (pv 5))) d_int) d_int)))
    (d_sone (d_if (d_tcmp (op_isN) ob_isN (d_ix (or_ix rfl) ob_ix (d_var 1 (pv 1)) (d_var 5 (pv 5))) d_non) (d_sone (d_frz 4 (d_asg (i := 4) (fun te h => ps_set (i := 4) nd rfl (by first | exact Or.inl rfl | exact Or.inr rfl) h) (d_op (or_mul rfl) ob_mul (d_var 4 (pv 4)) (d_callTy (call_int1) cb_int (by rfl) T.m_int bt_int (d_cons (d_var 6 (pv 6)) d_nil)))))) (d_sone (d_if (d_tcmp (or_ne rfl (hu64 hr)) ob_ne (d_ix (or_ix rfl) ob_ix (d_ix (or_ix rfl) ob_ix (d_var 1 (pv 1)) (d_var 5 (pv 5))) d_int) (d_ix (or_ix rfl) ob_ix (d_var 2 (pv 2)) (d_var 5 (pv 5)))) (d_sone (d_asg (i := 4) (fun te h => ps_set (i := 4) nd rfl (by first | exact Or.inl rfl | exact Or.inr rfl) h) d_int)) (d_sone (d_if (d_tval (d_var 6 (pv 6))) (d_sone (d_frz 4 (d_asg (i := 4) (fun te h => ps_set (i := 4) nd rfl (by first | exact Or.inl rfl | exact Or.inr rfl) h) (d_op (op_sub) ob_sub d_int (d_var 4 (pv 4)))))) (d_sone (d_frz 4 (d_asg (i := 4) (fun te h => ps_set (i := 4) nd rfl (by first | exact Or.inl rfl | exact Or.inr rfl) h) (d_op (or_mul rfl) ob_mul (d_var 4 (pv 4)) (d_callTy (call_int1) cb_int (by rfl) T.m_int bt_int (d_cons (d_cmp (or_eq rfl (hu64 hr)) ob_eq (d_ix (or_ix rfl) ob_ix (d_ix (or_ix rfl) ob_ix (d_var 1 (pv 1)) (d_var 5 (pv 5))) d_int) (d_ix (or_ix rfl) ob_ix (d_var 3 (pv 3)) (d_var 5 (pv 5)))) d_nil))))))))))))))
    (d_sone (d_retV (i := 4) (pv 4)))))
/-! ## _law_due_terms -/
theorem sc__law_due_terms : FnScope ["hands", "known", "context", "outcome", "found", "k", "factor"] ["hands", "known", "context", "outcome"] (defScope s__law_due_terms) := ⟨rfl, rfl, rfl, by decide +kernel, rfl, by decide +kernel, by decide +kernel⟩
noncomputable def body__law_due_terms : En → Out :=
  (sSeq (sAsg 4 (eLst aNil))
    (sSeq (sFor (iFun rng1 (aCons (eCB dLen (aCons (eVar 1) aNil)) aNil)) (.nm 5)
    (sSeq (sAsgS 6 (eCall 4 den__law_factor (aCons (eVar 0) (aCons (eOp dIx (eVar 1) (eVar 5)) (aCons (eVar 2) (aCons (eVar 3) aNil))))))
    (sIf (eTest (eOp dNe (eVar 6) (eC (.int 0)))) (sApp 4 (eTup (aCons (eVar 5) (aCons (eVar 6) aNil)))) sNx)))
    (sRetV 4)))
noncomputable def den__law_due_terms : List D → R Val := runD 7 body__law_due_terms
theorem ok__law_due_terms {P : Program} {w : World} {K : PySem.W.Frag} {mg : Str → Option Value} {base : Heap} {cl : Nat → Addr} (T : Tx K mg) : FnOk P w K mg base (L2.CX P w) 2 T.f__law_due_terms T.fd__law_due_terms ["hands", "known", "context", "outcome"] (spD ⟨K, cl⟩ 4 den__law_due_terms) := by
  refine fn_den (n := 4) (k := 1) (kN := 7) (den := body__law_due_terms) (den' := den__law_due_terms) rfl T.t__law_due_terms.F sc__law_due_terms rfl rfl ?_
  intro cdv A outer s H E hr
  have tk : Takes (cxOf (L2.CX P w) P w K mg base ["hands", "known", "context", "outcome", "found", "k", "factor"] "_law_due_terms" (defScope s__law_due_terms) T.f__law_due_terms cdv A outer s H E) (WE E) := takes_of rfl rfl rfl rfl
  have nd := (sc__law_due_terms).nd
  exact (d_scons (d_asg (i := 4) (fun te h => ps_set (i := 4) nd rfl (by first | exact Or.inl rfl | exact Or.inr rfl) h) (d_lst d_nil))
    (d_scons (d_for (passes_of rfl) rfl (d_range1 (by rfl) T.m_range (d_cons (d_callB (cr_len rfl) cb_len (by rfl) T.m_len bt_len (d_cons (d_var 1 (pv 1)) d_nil)) d_nil)) (d_nm (i := 5) (pg_name nd rfl (by first | exact Or.inl rfl | exact Or.inr rfl)))
    (d_scons (d_asgS (i := 6) (fun te h => ps_set (i := 6) nd rfl (by first | exact Or.inl rfl | exact Or.inr rfl) h) (d_call (ok__law_factor T) tk (hr.mono (by decide)) (by rfl) T.t__law_factor.g T.t__law_factor.F.kp T.t__law_factor.b (d_cons (d_var 0 (pv 0)) (d_cons (d_ix (or_ix rfl) ob_ix (d_var 1 (pv 1)) (d_var 5 (pv 5))) (d_cons (d_var 2 (pv 2)) (d_cons (d_var 3 (pv 3)) d_nil))))))
    (d_sone (d_if (d_tcmp (or_ne rfl (hu64 hr)) ob_ne (d_var 6 (pv 6)) d_int) (d_sone (d_app (i := 4) rfl (d_tup (d_cons (d_var 5 (pv 5)) (d_cons (d_var 6 (pv 6)) d_nil))) (fun t h => ps_expr (pe_bm PySem.F.plainAttrs_list PySem.F.slot_list_append PySem.F.type_list_append mt_append (pv 4) h)))) d_snil))))
    (d_sone (d_retV (i := 4) (pv 4)))))
/-! ## _law_listed -/
theorem sc__law_listed : FnScope ["hands", "due", "told"] ["hands"] (defScope s__law_listed) := ⟨rfl, rfl, rfl, by decide +kernel, rfl, by decide +kernel, by decide +kernel⟩
noncomputable def body__law_listed : En → Out :=
  (sSeq (sAsgS 1 (eCall 1 den__law_places (aCons (eVar 0) aNil)))
    (sSeq (sAsg 2 (eCall 1 den_places (aCons (eVar 0) aNil)))
    (sSeq (sIf (lendT 2 (tNotD (eTest (eCall 2 (den__law_same 6) (aCons (eVar 2) (aCons (eVar 1) aNil)))))) (sRet (eC (.bl false))) sNx)
    (sSeq (sPop 2)
    (sSeq (sApp 2 (eOp dMul (eTup (aCons (eC .non) aNil)) (eC (.int 4))))
    (sSeq (sRev 2)
    (sRet (eCall 2 (den__law_same 6) (aCons (eCall 1 den_places (aCons (eVar 0) aNil)) (aCons (eVar 1) aNil))))))))))
noncomputable def den__law_listed : List D → R Val := runD 3 body__law_listed
theorem ok__law_listed {P : Program} {w : World} {K : PySem.W.Frag} {mg : Str → Option Value} {base : Heap} {cl : Nat → Addr} (T : Tx K mg) : FnOk P w K mg base (L2.CX P w) 8 T.f__law_listed T.fd__law_listed ["hands"] (spD ⟨K, cl⟩ 1 den__law_listed) := by
  refine fn_den (n := 1) (k := 7) (kN := 3) (den := body__law_listed) (den' := den__law_listed) rfl T.t__law_listed.F sc__law_listed rfl rfl ?_
  intro cdv A outer s H E hr
  have tk : Takes (cxOf (L2.CX P w) P w K mg base ["hands", "due", "told"] "_law_listed" (defScope s__law_listed) T.f__law_listed cdv A outer s H E) (WE E) := takes_of rfl rfl rfl rfl
  have nd := (sc__law_listed).nd
  exact (d_scons (d_asgS (i := 1) (fun te h => ps_set (i := 1) nd rfl (by first | exact Or.inl rfl | exact Or.inr rfl) h) (d_call (ok__law_places T) tk (hr.mono (by decide)) (by rfl) T.t__law_places.g T.t__law_places.F.kp T.t__law_places.b (d_cons (d_var 0 (pv 0)) d_nil)))
    (d_scons (d_asg (i := 2) (fun te h => ps_set (i := 2) nd rfl (by first | exact Or.inl rfl | exact Or.inr rfl) h) (d_call (ok_places T) tk (hr.mono (by decide)) (by rfl) T.t_places.g T.t_places.F.kp T.t_places.b (d_cons (d_var 0 (pv 0)) d_nil)))
    (d_scons (d_if (d_lendT 2 (d_tnot (d_tval (d_call (ok__law_same T 6) tk (hr.mono (by decide)) (by rfl) T.t__law_same.g T.t__law_same.F.kp T.t__law_same.b (d_cons (d_var 2 (pv 2)) (d_cons (d_var 1 (pv 1)) d_nil)))))) (d_sone (d_ret d_bl)) d_snil)
    (d_scons (d_pop (i := 2) rfl (ps_expr (pe_bm0 PySem.F.plainAttrs_list PySem.F.slot_list_pop PySem.F.type_list_pop mt_pop (pv 2))))
    (d_scons (d_app (i := 2) rfl (d_op (or_mul rfl) ob_mul (d_tup (d_cons d_non d_nil)) d_int) (fun t h => ps_expr (pe_bm PySem.F.plainAttrs_list PySem.F.slot_list_append PySem.F.type_list_append mt_append (pv 2) h)))
    (d_scons (d_rev (i := 2) rfl (ps_expr (pe_bm0 PySem.F.plainAttrs_list PySem.F.slot_list_reverse PySem.F.type_list_reverse mt_reverse (pv 2))))
    (d_sone (d_ret (d_call (ok__law_same T 6) tk (hr.mono (by decide)) (by rfl) T.t__law_same.g T.t__law_same.F.kp T.t__law_same.b (d_cons (d_call (ok_places T) tk (hr.mono (by decide)) (by rfl) T.t_places.g T.t_places.F.kp T.t_places.b (d_cons (d_var 0 (pv 0)) d_nil)) (d_cons (d_var 1 (pv 1)) d_nil)))))))))))
/-! ## _law_entry_holds -/
theorem sc__law_entry_holds : FnScope ["hands", "known", "context", "outcome", "due", "told"] ["hands", "known", "context", "outcome"] (defScope s__law_entry_holds) := ⟨rfl, rfl, rfl, by decide +kernel, rfl, by decide +kernel, by decide +kernel⟩
noncomputable def body__law_entry_holds : En → Out :=
  (sSeq (sAsgS 4 (eCall 4 den__law_due_terms (aCons (eVar 0) (aCons (eVar 1) (aCons (eVar 2) (aCons (eVar 3) aNil))))))
    (sSeq (sAsg 5 (eCall 3 den_entry_terms (aCons (eVar 0) (aCons (eVar 2) (aCons (eVar 3) aNil)))))
    (sSeq (sIf (lendT 5 (tNotD (eTest (eCall 2 (den__law_same 6) (aCons (eVar 5) (aCons (eVar 4) aNil)))))) (sRet (eC (.bl false))) sNx)
    (sSeq (sApp 5 (eTup (aCons (eC (.int 0)) (aCons (eC (.int 7)) aNil))))
    (sSeq (sRev 5)
    (sRet (eCall 2 (den__law_same 6) (aCons (eCall 3 den_entry_terms (aCons (eVar 0) (aCons (eVar 2) (aCons (eVar 3) aNil)))) (aCons (eVar 4) aNil)))))))))
noncomputable def den__law_entry_holds : List D → R Val := runD 6 body__law_entry_holds
theorem ok__law_entry_holds {P : Program} {w : World} {K : PySem.W.Frag} {mg : Str → Option Value} {base : Heap} {cl : Nat → Addr} (T : Tx K mg) : FnOk P w K mg base (L2.CX P w) 8 T.f__law_entry_holds T.fd__law_entry_holds ["hands", "known", "context", "outcome"] (spD ⟨K, cl⟩ 4 den__law_entry_holds) := by
  refine fn_den (n := 4) (k := 7) (kN := 6) (den := body__law_entry_holds) (den' := den__law_entry_holds) rfl T.t__law_entry_holds.F sc__law_entry_holds rfl rfl ?_
  intro cdv A outer s H E hr
  have tk : Takes (cxOf (L2.CX P w) P w K mg base ["hands", "known", "context", "outcome", "due", "told"] "_law_entry_holds" (defScope s__law_entry_holds) T.f__law_entry_holds cdv A outer s H E) (WE E) := takes_of rfl rfl rfl rfl
  have nd := (sc__law_entry_holds).nd
  exact (d_scons (d_asgS (i := 4) (fun te h => ps_set (i := 4) nd rfl (by first | exact Or.inl rfl | exact Or.inr rfl) h) (d_call (ok__law_due_terms T) tk (hr.mono (by decide)) (by rfl) T.t__law_due_terms.g T.t__law_due_terms.F.kp T.t__law_due_terms.b (d_cons (d_var 0 (pv 0)) (d_cons (d_var 1 (pv 1)) (d_cons (d_var 2 (pv 2)) (d_cons (d_var 3 (pv 3)) d_nil))))))
    (d_scons (d_asg (i := 5) (fun te h => ps_set (i := 5) nd rfl (by first | exact Or.inl rfl | exact Or.inr rfl) h) (d_call (ok_entry_terms T) tk (hr.mono (by decide)) (by rfl) T.t_entry_terms.g T.t_entry_terms.F.kp T.t_entry_terms.b (d_cons (d_var 0 (pv 0)) (d_cons (d_var 2 (pv 2)) (d_cons (d_var 3 (pv 3)) d_nil)))))
    (d_scons (d_if (d_lendT 5 (d_tnot (d_tval (d_call (ok__law_same T 6) tk (hr.mono (by decide)) (by rfl) T.t__law_same.g T.t__law_same.F.kp T.t__law_same.b (d_cons (d_var 5 (pv 5)) (d_cons (d_var 4 (pv 4)) d_nil)))))) (d_sone (d_ret d_bl)) d_snil)
    (d_scons (d_app (i := 5) rfl (d_tup (d_cons d_int (d_cons d_int d_nil))) (fun t h => ps_expr (pe_bm PySem.F.plainAttrs_list PySem.F.slot_list_append PySem.F.type_list_append mt_append (pv 5) h)))
    (d_scons (d_rev (i := 5) rfl (ps_expr (pe_bm0 PySem.F.plainAttrs_list PySem.F.slot_list_reverse PySem.F.type_list_reverse mt_reverse (pv 5))))
    (d_sone (d_ret (d_call (ok__law_same T 6) tk (hr.mono (by decide)) (by rfl) T.t__law_same.g T.t__law_same.F.kp T.t__law_same.b (d_cons (d_call (ok_entry_terms T) tk (hr.mono (by decide)) (by rfl) T.t_entry_terms.g T.t_entry_terms.F.kp T.t_entry_terms.b (d_cons (d_var 0 (pv 0)) (d_cons (d_var 2 (pv 2)) (d_cons (d_var 3 (pv 3)) d_nil)))) (d_cons (d_var 4 (pv 4)) d_nil))))))))))
/-! ## _law_hand_leaves -/
theorem sc__law_hand_leaves : FnScope ["hands", "known", "hand", "context", "rest", "totals", "sign", "others", "place", "k", "pair", "due"] ["hands", "known", "hand", "context", "rest"] (defScope s__law_hand_leaves) := ⟨rfl, rfl, rfl, by decide +kernel, rfl, by decide +kernel, by decide +kernel⟩
noncomputable def body__law_hand_leaves : En → Out :=
  (sSeq (sAsg 5 (eOp dMul (eLst (aCons (eC (.int 0)) aNil)) (eCB dLen (aCons (eVar 1) aNil))))
    (sSeq (sFor (iFun rng1 (aCons (eOp dIx (eOp dIx (eVar 0) (eVar 2)) (eC (.int 1))) aNil)) (.nm 6)
    (sFor (iSeq (eCall 3 den_entry_terms (aCons (eVar 0) (aCons (eVar 3) (aCons (eOp dAdd (eOp dAdd (eSl dSl (eVar 4) oNone (oSome (eVar 2))) (eTup (aCons (eVar 6) aNil))) (eSl dSl (eVar 4) (oSome (eVar 2)) oNone)) aNil))))) (.nm 10)
    (sSet 5 (eOp dIx (eVar 10) (eC (.int 0))) (eOp dAdd (eIxO 5 (eOp dIx (eVar 10) (eC (.int 0)))) (eOp dIx (eVar 10) (eC (.int 1)))))))
    (sSeq (sAsgS 7 (eOp dAdd (eSl dSl (eVar 0) oNone (oSome (eVar 2))) (eSl dSl (eVar 0) (oSome (eOp dAdd (eVar 2) (eC (.int 1)))) oNone)))
    (sSeq (sAsgS 8 (eOp dAdd (eSl dSl (eVar 3) oNone (oSome (eVar 2))) (eSl dSl (eVar 3) (oSome (eOp dAdd (eVar 2) (eC (.int 1)))) oNone)))
    (sSeq (sFor (iFun rng1 (aCons (eCB dLen (aCons (eVar 1) aNil)) aNil)) (.nm 9)
    (sSeq (sAsgS 11 (eC (.int 0)))
    (sSeq (sIf (eTest (eOp dIsN (eOp dIx (eOp dIx (eVar 1) (eVar 9)) (eVar 2)) (eC .non))) (sAsgS 11 (eCall 4 den__law_factor (aCons (eVar 7) (aCons (eOp dAdd (eSl dSl (eOp dIx (eVar 1) (eVar 9)) oNone (oSome (eVar 2))) (eSl dSl (eOp dIx (eVar 1) (eVar 9)) (oSome (eOp dAdd (eVar 2) (eC (.int 1)))) oNone)) (aCons (eVar 8) (aCons (eVar 4) aNil)))))) sNx)
    (sIf (eTest (eOp dNe (eIxO 5 (eVar 9)) (eVar 11))) (sRet (eC (.bl false))) sNx))))
    (sRet (eC (.bl true))))))))
noncomputable def den__law_hand_leaves : List D → R Val := runD 12 body__law_hand_leaves
theorem ok__law_hand_leaves {P : Program} {w : World} {K : PySem.W.Frag} {mg : Str → Option Value} {base : Heap} {cl : Nat → Addr} (T : Tx K mg) : FnOk P w K mg base (L2.CX P w) 3 T.f__law_hand_leaves T.fd__law_hand_leaves ["hands", "known", "hand", "context", "rest"] (spD ⟨K, cl⟩ 5 den__law_hand_leaves) := by
  refine fn_den (n := 5) (k := 2) (kN := 12) (den := body__law_hand_leaves) (den' := den__law_hand_leaves) rfl T.t__law_hand_leaves.F sc__law_hand_leaves rfl rfl ?_
  intro cdv A outer s H E hr
  have tk : Takes (cxOf (L2.CX P w) P w K mg base ["hands", "known", "hand", "context", "rest", "totals", "sign", "others", "place", "k", "pair", "due"] "_law_hand_leaves" (defScope s__law_hand_leaves) T.f__law_hand_leaves cdv A outer s H E) (WE E) := takes_of rfl rfl rfl rfl
  have nd := (sc__law_hand_leaves).nd
  exact (d_scons (d_asg (i := 5) (fun te h => ps_set (i := 5) nd rfl (by first | exact Or.inl rfl | exact Or.inr rfl) h) (d_op (or_mul rfl) ob_mul (d_lst (d_cons d_int d_nil)) (d_callB (cr_len rfl) cb_len (by rfl) T.m_len bt_len (d_cons (d_var 1 (pv 1)) d_nil))))
    (d_scons (d_for (passes_of rfl) rfl (d_range1 (by rfl) T.m_range (d_cons (d_ix (or_ix rfl) ob_ix (d_ix (or_ix rfl) ob_ix (d_var 0 (pv 0)) (d_var 2 (pv 2))) d_int) d_nil)) (d_nm (i := 6) (pg_name nd rfl (by first | exact Or.inl rfl | exact Or.inr rfl)))
    (d_sone (d_for (passes_of rfl) rfl (d_iter rfl (d_call (ok_entry_terms T) tk (hr.mono (by decide)) (by rfl) T.t_entry_terms.g T.t_entry_terms.F.kp T.t_entry_terms.b (d_cons (d_var 0 (pv 0)) (d_cons (d_var 3 (pv 3)) (d_cons (d_op (or_add rfl) ob_add (d_op (or_add rfl) ob_add (d_slice (or_sl rfl) sb_sl (d_var 4 (pv 4)) d_oNone (d_oSome (d_var 2 (pv 2)))) (d_tup (d_cons (d_var 6 (pv 6)) d_nil))) (d_slice (or_sl rfl) sb_sl (d_var 4 (pv 4)) (d_oSome (d_var 2 (pv 2))) d_oNone)) d_nil))))) (d_nm (i := 10) (pg_name nd rfl (by first | exact Or.inl rfl | exact Or.inr rfl)))
    (d_sone (d_setI (i := 5) (ps_asg (d_op (or_add rfl) ob_add (d_ixO rfl (pv 5) (d_var 5 (pv 5)) (d_ix (or_ix rfl) ob_ix (d_var 10 (pv 10)) d_int)) (d_ix (or_ix rfl) ob_ix (d_var 10 (pv 10)) d_int)) (pg_sub (pv 5) (d_ix (or_ix rfl) ob_ix (d_var 10 (pv 10)) d_int) set_list)))))))
    (d_scons (d_asgS (i := 7) (fun te h => ps_set (i := 7) nd rfl (by first | exact Or.inl rfl | exact Or.inr rfl) h) (d_op (or_add rfl) ob_add (d_slice (or_sl rfl) sb_sl (d_var 0 (pv 0)) d_oNone (d_oSome (d_var 2 (pv 2)))) (d_slice (or_sl rfl) sb_sl (d_var 0 (pv 0)) (d_oSome (d_op (or_add rfl) ob_add (d_var 2 (pv 2)) d_int)) d_oNone)))
    (d_scons (d_asgS (i := 8) (fun te h => ps_set (i := 8) nd rfl (by first | exact Or.inl rfl | exact Or.inr rfl) h) (d_op (or_add rfl) ob_add (d_slice (or_sl rfl) sb_sl (d_var 3 (pv 3)) d_oNone (d_oSome (d_var 2 (pv 2)))) (d_slice (or_sl rfl) sb_sl (d_var 3 (pv 3)) (d_oSome (d_op (or_add rfl) ob_add (d_var 2 (pv 2)) d_int)) d_oNone)))
    (d_scons (d_for (passes_of rfl) rfl (d_range1 (by rfl) T.m_range (d_cons (d_callB (cr_len rfl) cb_len (by rfl) T.m_len bt_len (d_cons (d_var 1 (pv 1)) d_nil)) d_nil)) (d_nm (i := 9) (pg_name nd rfl (by first | exact Or.inl rfl | exact Or.inr rfl)))
    (d_scons (d_asgS (i := 11) (fun te h => ps_set (i := 11) nd rfl (by first | exact Or.inl rfl | exact Or.inr rfl) h) d_int)
    (d_scons (d_if (d_tcmp (op_isN) ob_isN (d_ix (or_ix rfl) ob_ix (d_ix (or_ix rfl) ob_ix (d_var 1 (pv 1)) (d_var 9 (pv 9))) (d_var 2 (pv 2))) d_non) (d_sone (d_asgS (i := 11) (fun te h => ps_set (i := 11) nd rfl (by first | exact Or.inl rfl | exact Or.inr rfl) h) (d_call (ok__law_factor T) tk (hr.mono (by decide)) (by rfl) T.t__law_factor.g T.t__law_factor.F.kp T.t__law_factor.b (d_cons (d_var 7 (pv 7)) (d_cons (d_op (or_add rfl) ob_add (d_slice (or_sl rfl) sb_sl (d_ix (or_ix rfl) ob_ix (d_var 1 (pv 1)) (d_var 9 (pv 9))) d_oNone (d_oSome (d_var 2 (pv 2)))) (d_slice (or_sl rfl) sb_sl (d_ix (or_ix rfl) ob_ix (d_var 1 (pv 1)) (d_var 9 (pv 9))) (d_oSome (d_op (or_add rfl) ob_add (d_var 2 (pv 2)) d_int)) d_oNone)) (d_cons (d_var 8 (pv 8)) (d_cons (d_var 4 (pv 4)) d_nil))))))) d_snil)
    (d_sone (d_if (d_tcmp (or_ne rfl (hu64 hr)) ob_ne (d_ixO rfl (pv 5) (d_var 5 (pv 5)) (d_var 9 (pv 9))) (d_var 11 (pv 11))) (d_sone (d_ret d_bl)) d_snil)))))
    (d_sone (d_ret d_bl)))))))
/-! ## _law_cancels -/
theorem sc__law_cancels : FnScope ["hands", "known", "hand", "signs", "context", "rest"] ["hands", "known", "hand"] (defScope s__law_cancels) := ⟨rfl, rfl, rfl, by decide +kernel, rfl, by decide +kernel, by decide +kernel⟩
noncomputable def body__law_cancels : En → Out :=
  (sSeq (sAsgS 3 (eCall 1 den__law_signs (aCons (eVar 0) aNil)))
    (sSeq (sFor (iSeq (eCall 1 den__law_tuples (aCons (eCall 1 den__law_counts (aCons (eVar 0) aNil)) aNil))) (.nm 4)
    (sFor (iSeq (eCall 1 den__law_tuples (aCons (eOp dAdd (eSl dSl (eVar 3) oNone (oSome (eVar 2))) (eSl dSl (eVar 3) (oSome (eOp dAdd (eVar 2) (eC (.int 1)))) oNone)) aNil))) (.nm 5)
    (sIf (tNotD (eTest (eCall 5 den__law_hand_leaves (aCons (eVar 0) (aCons (eVar 1) (aCons (eVar 2) (aCons (eVar 4) (aCons (eVar 5) aNil)))))))) (sRet (eC (.bl false))) sNx)))
    (sRet (eC (.bl true)))))
noncomputable def den__law_cancels : List D → R Val := runD 6 body__law_cancels
theorem ok__law_cancels {P : Program} {w : World} {K : PySem.W.Frag} {mg : Str → Option Value} {base : Heap} {cl : Nat → Addr} (T : Tx K mg) : FnOk P w K mg base (L2.CX P w) 4 T.f__law_cancels T.fd__law_cancels ["hands", "known", "hand"] (spD ⟨K, cl⟩ 3 den__law_cancels) := by
  refine fn_den (n := 3) (k := 3) (kN := 6) (den := body__law_cancels) (den' := den__law_cancels) rfl T.t__law_cancels.F sc__law_cancels rfl rfl ?_
  intro cdv A outer s H E hr
  have tk : Takes (cxOf (L2.CX P w) P w K mg base ["hands", "known", "hand", "signs", "context", "rest"] "_law_cancels" (defScope s__law_cancels) T.f__law_cancels cdv A outer s H E) (WE E) := takes_of rfl rfl rfl rfl
  have nd := (sc__law_cancels).nd
  exact (d_scons (d_asgS (i := 3) (fun te h => ps_set (i := 3) nd rfl (by first | exact Or.inl rfl | exact Or.inr rfl) h) (d_call (ok__law_signs T) tk (hr.mono (by decide)) (by rfl) T.t__law_signs.g T.t__law_signs.F.kp T.t__law_signs.b (d_cons (d_var 0 (pv 0)) d_nil)))
    (d_scons (d_for (passes_of rfl) rfl (d_iter rfl (d_call (ok__law_tuples T) tk (hr.mono (by decide)) (by rfl) T.t__law_tuples.g T.t__law_tuples.F.kp T.t__law_tuples.b (d_cons (d_call (ok__law_counts T) tk (hr.mono (by decide)) (by rfl) T.t__law_counts.g T.t__law_counts.F.kp T.t__law_counts.b (d_cons (d_var 0 (pv 0)) d_nil)) d_nil))) (d_nm (i := 4) (pg_name nd rfl (by first | exact Or.inl rfl | exact Or.inr rfl)))
    (d_sone (d_for (passes_of rfl) rfl (d_iter rfl (d_call (ok__law_tuples T) tk (hr.mono (by decide)) (by rfl) T.t__law_tuples.g T.t__law_tuples.F.kp T.t__law_tuples.b (d_cons (d_op (or_add rfl) ob_add (d_slice (or_sl rfl) sb_sl (d_var 3 (pv 3)) d_oNone (d_oSome (d_var 2 (pv 2)))) (d_slice (or_sl rfl) sb_sl (d_var 3 (pv 3)) (d_oSome (d_op (or_add rfl) ob_add (d_var 2 (pv 2)) d_int)) d_oNone)) d_nil))) (d_nm (i := 5) (pg_name nd rfl (by first | exact Or.inl rfl | exact Or.inr rfl)))
    (d_sone (d_if (d_tnot (d_tval (d_call (ok__law_hand_leaves T) tk (hr.mono (by decide)) (by rfl) T.t__law_hand_leaves.g T.t__law_hand_leaves.F.kp T.t__law_hand_leaves.b (d_cons (d_var 0 (pv 0)) (d_cons (d_var 1 (pv 1)) (d_cons (d_var 2 (pv 2)) (d_cons (d_var 4 (pv 4)) (d_cons (d_var 5 (pv 5)) d_nil)))))))) (d_sone (d_ret d_bl)) d_snil)))))
    (d_sone (d_ret d_bl))))
/-! ## law -/
theorem sc_law : FnScope ["script", "hands", "others", "known", "dial_rows", "sign_rows", "context", "outcome", "one", "two"] ["script"] (defScope s_law) := ⟨rfl, rfl, rfl, by decide +kernel, rfl, by decide +kernel, by decide +kernel⟩
noncomputable def body_law : En → Out :=
  (sSeq (sAsgS 1 (eCall 2 den__law_hands (aCons (eCall 2 den__law_cell (aCons (eVar 0) (aCons (eC (.int 0)) aNil))) (aCons (eC (.int 64)) aNil))))
    (sSeq (sAsgS 2 (eCall 2 den__law_hands (aCons (eCall 2 den__law_cell (aCons (eVar 0) (aCons (eC (.int 1)) aNil))) (aCons (eC (.int 64)) aNil))))
    (sSeq (sAsgS 3 (eCall 1 den__law_places (aCons (eVar 1) aNil)))
    (sSeq (sIf (tOrD (tNotD (eTest (eCall 1 den__law_listed (aCons (eVar 1) aNil)))) (tOrD (tNotD (eTest (eCall 1 den__law_listed (aCons (eVar 2) aNil)))) (tNotD (eTest (eCall 1 den__law_listed (aCons (eVar 1) aNil)))))) (sRet (eC (.bl false))) sNx)
    (sSeq (sAsgS 4 (eCall 1 den__law_tuples (aCons (eCall 1 den__law_counts (aCons (eVar 2) aNil)) aNil)))
    (sSeq (sAsgS 5 (eCall 1 den__law_tuples (aCons (eCall 1 den__law_signs (aCons (eVar 2) aNil)) aNil)))
    (sSeq (sAsgS 6 (eOp dIx (eVar 4) (eOp dMod (eCB dInt (aCons (eCall 2 den__law_cell (aCons (eVar 0) (aCons (eC (.int 2)) aNil))) aNil)) (eCB dLen (aCons (eVar 4) aNil)))))
    (sSeq (sAsgS 7 (eOp dIx (eVar 5) (eOp dMod (eCB dInt (aCons (eCall 2 den__law_cell (aCons (eVar 0) (aCons (eC (.int 3)) aNil))) aNil)) (eCB dLen (aCons (eVar 5) aNil)))))
    (sSeq (sFor (iSeq (eCall 1 den__law_tuples (aCons (eCall 1 den__law_counts (aCons (eVar 1) aNil)) aNil))) (.nm 8)
    (sFor (iSeq (eCall 1 den__law_tuples (aCons (eCall 1 den__law_signs (aCons (eVar 1) aNil)) aNil))) (.nm 9)
    (sIf (tNotD (eTest (eCall 4 den__law_entry_holds (aCons (eVar 1) (aCons (eVar 3) (aCons (eVar 8) (aCons (eVar 9) aNil))))))) (sRet (eC (.bl false))) sNx)))
    (sSeq (sIf (tNotD (eTest (eCall 4 den__law_entry_holds (aCons (eVar 2) (aCons (eCall 1 den__law_places (aCons (eVar 2) aNil)) (aCons (eVar 6) (aCons (eVar 7) aNil))))))) (sRet (eC (.bl false))) sNx)
    (sRet (eCall 3 den__law_cancels (aCons (eVar 1) (aCons (eVar 3) (aCons (eOp dMod (eCB dInt (aCons (eCall 2 den__law_cell (aCons (eVar 0) (aCons (eC (.int 4)) aNil))) aNil)) (eCB dLen (aCons (eVar 1) aNil))) aNil)))))))))))))))
noncomputable def den_law : List D → R Val := runD 10 body_law
theorem ok_law {P : Program} {w : World} {K : PySem.W.Frag} {mg : Str → Option Value} {base : Heap} {cl : Nat → Addr} (T : Tx K mg) : FnOk P w K mg base (L2.CX P w) 9 T.f_law T.fd_law ["script"] (spD ⟨K, cl⟩ 1 den_law) := by
  refine fn_den (n := 1) (k := 8) (kN := 10) (den := body_law) (den' := den_law) rfl T.t_law.F sc_law rfl rfl ?_
  intro cdv A outer s H E hr
  have tk : Takes (cxOf (L2.CX P w) P w K mg base ["script", "hands", "others", "known", "dial_rows", "sign_rows", "context", "outcome", "one", "two"] "law" (defScope s_law) T.f_law cdv A outer s H E) (WE E) := takes_of rfl rfl rfl rfl
  have nd := (sc_law).nd
  exact (d_scons (d_asgS (i := 1) (fun te h => ps_set (i := 1) nd rfl (by first | exact Or.inl rfl | exact Or.inr rfl) h) (d_call (ok__law_hands T) tk (hr.mono (by decide)) (by rfl) T.t__law_hands.g T.t__law_hands.F.kp T.t__law_hands.b (d_cons (d_call (ok__law_cell T) tk (hr.mono (by decide)) (by rfl) T.t__law_cell.g T.t__law_cell.F.kp T.t__law_cell.b (d_cons (d_var 0 (pv 0)) (d_cons d_int d_nil))) (d_cons d_int d_nil))))
    (d_scons (d_asgS (i := 2) (fun te h => ps_set (i := 2) nd rfl (by first | exact Or.inl rfl | exact Or.inr rfl) h) (d_call (ok__law_hands T) tk (hr.mono (by decide)) (by rfl) T.t__law_hands.g T.t__law_hands.F.kp T.t__law_hands.b (d_cons (d_call (ok__law_cell T) tk (hr.mono (by decide)) (by rfl) T.t__law_cell.g T.t__law_cell.F.kp T.t__law_cell.b (d_cons (d_var 0 (pv 0)) (d_cons d_int d_nil))) (d_cons d_int d_nil))))
    (d_scons (d_asgS (i := 3) (fun te h => ps_set (i := 3) nd rfl (by first | exact Or.inl rfl | exact Or.inr rfl) h) (d_call (ok__law_places T) tk (hr.mono (by decide)) (by rfl) T.t__law_places.g T.t__law_places.F.kp T.t__law_places.b (d_cons (d_var 1 (pv 1)) d_nil)))
    (d_scons (d_if ((d_wor (d_tnot (d_tval (d_call (ok__law_listed T) tk (hr.mono (by decide)) (by rfl) T.t__law_listed.g T.t__law_listed.F.kp T.t__law_listed.b (d_cons (d_var 1 (pv 1)) d_nil)))) (d_wor (d_tnot (d_tval (d_call (ok__law_listed T) tk (hr.mono (by decide)) (by rfl) T.t__law_listed.g T.t__law_listed.F.kp T.t__law_listed.b (d_cons (d_var 2 (pv 2)) d_nil)))) (d_wor1 (d_tnot (d_tval (d_call (ok__law_listed T) tk (hr.mono (by decide)) (by rfl) T.t__law_listed.g T.t__law_listed.F.kp T.t__law_listed.b (d_cons (d_var 1 (pv 1)) d_nil)))))))).pt (d_sone (d_ret d_bl)) d_snil)
    (d_scons (d_asgS (i := 4) (fun te h => ps_set (i := 4) nd rfl (by first | exact Or.inl rfl | exact Or.inr rfl) h) (d_call (ok__law_tuples T) tk (hr.mono (by decide)) (by rfl) T.t__law_tuples.g T.t__law_tuples.F.kp T.t__law_tuples.b (d_cons (d_call (ok__law_counts T) tk (hr.mono (by decide)) (by rfl) T.t__law_counts.g T.t__law_counts.F.kp T.t__law_counts.b (d_cons (d_var 2 (pv 2)) d_nil)) d_nil)))
    (d_scons (d_asgS (i := 5) (fun te h => ps_set (i := 5) nd rfl (by first | exact Or.inl rfl | exact Or.inr rfl) h) (d_call (ok__law_tuples T) tk (hr.mono (by decide)) (by rfl) T.t__law_tuples.g T.t__law_tuples.F.kp T.t__law_tuples.b (d_cons (d_call (ok__law_signs T) tk (hr.mono (by decide)) (by rfl) T.t__law_signs.g T.t__law_signs.F.kp T.t__law_signs.b (d_cons (d_var 2 (pv 2)) d_nil)) d_nil)))
    (d_scons (d_asgS (i := 6) (fun te h => ps_set (i := 6) nd rfl (by first | exact Or.inl rfl | exact Or.inr rfl) h) (d_ix (or_ix rfl) ob_ix (d_var 4 (pv 4)) (d_op (op_mod) ob_mod (d_callTy (call_int1) cb_int (by rfl) T.m_int bt_int (d_cons (d_call (ok__law_cell T) tk (hr.mono (by decide)) (by rfl) T.t__law_cell.g T.t__law_cell.F.kp T.t__law_cell.b (d_cons (d_var 0 (pv 0)) (d_cons d_int d_nil))) d_nil)) (d_callB (cr_len rfl) cb_len (by rfl) T.m_len bt_len (d_cons (d_var 4 (pv 4)) d_nil)))))
    (d_scons (d_asgS (i := 7) (fun te h => ps_set (i := 7) nd rfl (by first | exact Or.inl rfl | exact Or.inr rfl) h) (d_ix (or_ix rfl) ob_ix (d_var 5 (pv 5)) (d_op (op_mod) ob_mod (d_callTy (call_int1) cb_int (by rfl) T.m_int bt_int (d_cons (d_call (ok__law_cell T) tk (hr.mono (by decide)) (by rfl) T.t__law_cell.g T.t__law_cell.F.kp T.t__law_cell.b (d_cons (d_var 0 (pv 0)) (d_cons d_int d_nil))) d_nil)) (d_callB (cr_len rfl) cb_len (by rfl) T.m_len bt_len (d_cons (d_var 5 (pv 5)) d_nil)))))
    (d_scons (d_for (passes_of rfl) rfl (d_iter rfl (d_call (ok__law_tuples T) tk (hr.mono (by decide)) (by rfl) T.t__law_tuples.g T.t__law_tuples.F.kp T.t__law_tuples.b (d_cons (d_call (ok__law_counts T) tk (hr.mono (by decide)) (by rfl) T.t__law_counts.g T.t__law_counts.F.kp T.t__law_counts.b (d_cons (d_var 1 (pv 1)) d_nil)) d_nil))) (d_nm (i := 8) (pg_name nd rfl (by first | exact Or.inl rfl | exact Or.inr rfl)))
    (d_sone (d_for (passes_of rfl) rfl (d_iter rfl (d_call (ok__law_tuples T) tk (hr.mono (by decide)) (by rfl) T.t__law_tuples.g T.t__law_tuples.F.kp T.t__law_tuples.b (d_cons (d_call (ok__law_signs T) tk (hr.mono (by decide)) (by rfl) T.t__law_signs.g T.t__law_signs.F.kp T.t__law_signs.b (d_cons (d_var 1 (pv 1)) d_nil)) d_nil))) (d_nm (i := 9) (pg_name nd rfl (by first | exact Or.inl rfl | exact Or.inr rfl)))
    (d_sone (d_if (d_tnot (d_tval (d_call (ok__law_entry_holds T) tk (hr.mono (by decide)) (by rfl) T.t__law_entry_holds.g T.t__law_entry_holds.F.kp T.t__law_entry_holds.b (d_cons (d_var 1 (pv 1)) (d_cons (d_var 3 (pv 3)) (d_cons (d_var 8 (pv 8)) (d_cons (d_var 9 (pv 9)) d_nil))))))) (d_sone (d_ret d_bl)) d_snil)))))
    (d_scons (d_if (d_tnot (d_tval (d_call (ok__law_entry_holds T) tk (hr.mono (by decide)) (by rfl) T.t__law_entry_holds.g T.t__law_entry_holds.F.kp T.t__law_entry_holds.b (d_cons (d_var 2 (pv 2)) (d_cons (d_call (ok__law_places T) tk (hr.mono (by decide)) (by rfl) T.t__law_places.g T.t__law_places.F.kp T.t__law_places.b (d_cons (d_var 2 (pv 2)) d_nil)) (d_cons (d_var 6 (pv 6)) (d_cons (d_var 7 (pv 7)) d_nil))))))) (d_sone (d_ret d_bl)) d_snil)
    (d_sone (d_ret (d_call (ok__law_cancels T) tk (hr.mono (by decide)) (by rfl) T.t__law_cancels.g T.t__law_cancels.F.kp T.t__law_cancels.b (d_cons (d_var 1 (pv 1)) (d_cons (d_var 3 (pv 3)) (d_cons (d_op (op_mod) ob_mod (d_callTy (call_int1) cb_int (by rfl) T.m_int bt_int (d_cons (d_call (ok__law_cell T) tk (hr.mono (by decide)) (by rfl) T.t__law_cell.g T.t__law_cell.F.kp T.t__law_cell.b (d_cons (d_var 0 (pv 0)) (d_cons d_int d_nil))) d_nil)) (d_callB (cr_len rfl) cb_len (by rfl) T.m_len bt_len (d_cons (d_var 1 (pv 1)) d_nil))) d_nil))))))))))))))))
/-! ## END -/
theorem all_mk {l : PySem.W.OpenLaw} {w : World} {K : PySem.W.Frag} {h : Heap} {mg : Str → Option Value} {fa : Addr} (X : K.In h) (G : h.Ns mainGlobals mg) (hfa : mg "law" = some (.ref fa))
    {f0 : Addr} {od0 an0 : Option Addr} {sl0 : Array (Option Value)} {oc0 kV0 dc0 pm0 cd0 ct0 : Value} {f1 : Addr} {od1 an1 : Option Addr} {sl1 : Array (Option Value)} {oc1 kV1 dc1 pm1 cd1 ct1 : Value} {f2 : Addr} {od2 an2 : Option Addr} {sl2 : Array (Option Value)} {oc2 kV2 dc2 pm2 cd2 ct2 : Value} {f3 : Addr} {od3 an3 : Option Addr} {sl3 : Array (Option Value)} {oc3 kV3 dc3 pm3 cd3 ct3 : Value} {f4 : Addr} {od4 an4 : Option Addr} {sl4 : Array (Option Value)} {oc4 kV4 dc4 pm4 cd4 ct4 : Value} {f5 : Addr} {od5 an5 : Option Addr} {sl5 : Array (Option Value)} {oc5 kV5 dc5 pm5 cd5 ct5 : Value} {f6 : Addr} {od6 an6 : Option Addr} {sl6 : Array (Option Value)} {oc6 kV6 dc6 pm6 cd6 ct6 : Value} {f7 : Addr} {od7 an7 : Option Addr} {sl7 : Array (Option Value)} {oc7 kV7 dc7 pm7 cd7 ct7 : Value} {f8 : Addr} {od8 an8 : Option Addr} {sl8 : Array (Option Value)} {oc8 kV8 dc8 pm8 cd8 ct8 : Value} {f9 : Addr} {od9 an9 : Option Addr} {sl9 : Array (Option Value)} {oc9 kV9 dc9 pm9 cd9 ct9 : Value} {f10 : Addr} {od10 an10 : Option Addr} {sl10 : Array (Option Value)} {oc10 kV10 dc10 pm10 cd10 ct10 : Value} {f11 : Addr} {od11 an11 : Option Addr} {sl11 : Array (Option Value)} {oc11 kV11 dc11 pm11 cd11 ct11 : Value} {f12 : Addr} {od12 an12 : Option Addr} {sl12 : Array (Option Value)} {oc12 kV12 dc12 pm12 cd12 ct12 : Value} {f13 : Addr} {od13 an13 : Option Addr} {sl13 : Array (Option Value)} {oc13 kV13 dc13 pm13 cd13 ct13 : Value} {f14 : Addr} {od14 an14 : Option Addr} {sl14 : Array (Option Value)} {oc14 kV14 dc14 pm14 cd14 ct14 : Value} {f15 : Addr} {od15 an15 : Option Addr} {sl15 : Array (Option Value)} {oc15 kV15 dc15 pm15 cd15 ct15 : Value} {f16 : Addr} {od16 an16 : Option Addr} {sl16 : Array (Option Value)} {oc16 kV16 dc16 pm16 cd16 ct16 : Value} {f17 : Addr} {od17 an17 : Option Addr} {sl17 : Array (Option Value)} {oc17 kV17 dc17 pm17 cd17 ct17 : Value} {f18 : Addr} {od18 an18 : Option Addr} {sl18 : Array (Option Value)} {oc18 kV18 dc18 pm18 cd18 ct18 : Value} {f19 : Addr} {od19 an19 : Option Addr} {sl19 : Array (Option Value)} {oc19 kV19 dc19 pm19 cd19 ct19 : Value} {f20 : Addr} {od20 an20 : Option Addr} {sl20 : Array (Option Value)} {oc20 kV20 dc20 pm20 cd20 ct20 : Value}
(a0 : PySem.W.nsIn K mainGlobals "places" = some (some (.ref f0))) (l0 : K.lookup f0 = some ⟨oc0, od0, .func (PySem.W.fnOf "places" "places" (defArgs s_places) (defBody s_places) (defScope s_places) .none kV0 dc0 pm0 an0 cd0 ct0), sl0⟩) (c0 : PySem.W.codeIn K cd0 "places" = true) (k0 : PySem.W.keepIn K (.ref f0) = true)
    (a1 : PySem.W.nsIn K mainGlobals "hand_options" = some (some (.ref f1))) (l1 : K.lookup f1 = some ⟨oc1, od1, .func (PySem.W.fnOf "hand_options" "hand_options" (defArgs s_hand_options) (defBody s_hand_options) (defScope s_hand_options) .none kV1 dc1 pm1 an1 cd1 ct1), sl1⟩) (c1 : PySem.W.codeIn K cd1 "hand_options" = true) (k1 : PySem.W.keepIn K (.ref f1) = true)
    (a2 : PySem.W.nsIn K mainGlobals "sign_terms" = some (some (.ref f2))) (l2 : K.lookup f2 = some ⟨oc2, od2, .func (PySem.W.fnOf "sign_terms" "sign_terms" (defArgs s_sign_terms) (defBody s_sign_terms) (defScope s_sign_terms) .none kV2 dc2 pm2 an2 cd2 ct2), sl2⟩) (c2 : PySem.W.codeIn K cd2 "sign_terms" = true) (k2 : PySem.W.keepIn K (.ref f2) = true)
    (a3 : PySem.W.nsIn K mainGlobals "entry_terms" = some (some (.ref f3))) (l3 : K.lookup f3 = some ⟨oc3, od3, .func (PySem.W.fnOf "entry_terms" "entry_terms" (defArgs s_entry_terms) (defBody s_entry_terms) (defScope s_entry_terms) .none kV3 dc3 pm3 an3 cd3 ct3), sl3⟩) (c3 : PySem.W.codeIn K cd3 "entry_terms" = true) (k3 : PySem.W.keepIn K (.ref f3) = true)
    (a4 : PySem.W.nsIn K mainGlobals "_law_cell" = some (some (.ref f4))) (l4 : K.lookup f4 = some ⟨oc4, od4, .func (PySem.W.fnOf "_law_cell" "_law_cell" (defArgs s__law_cell) (defBody s__law_cell) (defScope s__law_cell) .none kV4 dc4 pm4 an4 cd4 ct4), sl4⟩) (c4 : PySem.W.codeIn K cd4 "_law_cell" = true) (k4 : PySem.W.keepIn K (.ref f4) = true)
    (a5 : PySem.W.nsIn K mainGlobals "_law_same" = some (some (.ref f5))) (l5 : K.lookup f5 = some ⟨oc5, od5, .func (PySem.W.fnOf "_law_same" "_law_same" (defArgs s__law_same) (defBody s__law_same) (defScope s__law_same) .none kV5 dc5 pm5 an5 cd5 ct5), sl5⟩) (c5 : PySem.W.codeIn K cd5 "_law_same" = true) (k5 : PySem.W.keepIn K (.ref f5) = true)
    (a6 : PySem.W.nsIn K mainGlobals "_law_plan_count" = some (some (.ref f6))) (l6 : K.lookup f6 = some ⟨oc6, od6, .func (PySem.W.fnOf "_law_plan_count" "_law_plan_count" (defArgs s__law_plan_count) (defBody s__law_plan_count) (defScope s__law_plan_count) .none kV6 dc6 pm6 an6 cd6 ct6), sl6⟩) (c6 : PySem.W.codeIn K cd6 "_law_plan_count" = true) (k6 : PySem.W.keepIn K (.ref f6) = true)
    (a7 : PySem.W.nsIn K mainGlobals "_law_smaller" = some (some (.ref f7))) (l7 : K.lookup f7 = some ⟨oc7, od7, .func (PySem.W.fnOf "_law_smaller" "_law_smaller" (defArgs s__law_smaller) (defBody s__law_smaller) (defScope s__law_smaller) .none kV7 dc7 pm7 an7 cd7 ct7), sl7⟩) (c7 : PySem.W.codeIn K cd7 "_law_smaller" = true) (k7 : PySem.W.keepIn K (.ref f7) = true)
    (a8 : PySem.W.nsIn K mainGlobals "_law_hands" = some (some (.ref f8))) (l8 : K.lookup f8 = some ⟨oc8, od8, .func (PySem.W.fnOf "_law_hands" "_law_hands" (defArgs s__law_hands) (defBody s__law_hands) (defScope s__law_hands) .none kV8 dc8 pm8 an8 cd8 ct8), sl8⟩) (c8 : PySem.W.codeIn K cd8 "_law_hands" = true) (k8 : PySem.W.keepIn K (.ref f8) = true)
    (a9 : PySem.W.nsIn K mainGlobals "_law_tuples" = some (some (.ref f9))) (l9 : K.lookup f9 = some ⟨oc9, od9, .func (PySem.W.fnOf "_law_tuples" "_law_tuples" (defArgs s__law_tuples) (defBody s__law_tuples) (defScope s__law_tuples) .none kV9 dc9 pm9 an9 cd9 ct9), sl9⟩) (c9 : PySem.W.codeIn K cd9 "_law_tuples" = true) (k9 : PySem.W.keepIn K (.ref f9) = true)
    (a10 : PySem.W.nsIn K mainGlobals "_law_counts" = some (some (.ref f10))) (l10 : K.lookup f10 = some ⟨oc10, od10, .func (PySem.W.fnOf "_law_counts" "_law_counts" (defArgs s__law_counts) (defBody s__law_counts) (defScope s__law_counts) .none kV10 dc10 pm10 an10 cd10 ct10), sl10⟩) (c10 : PySem.W.codeIn K cd10 "_law_counts" = true) (k10 : PySem.W.keepIn K (.ref f10) = true)
    (a11 : PySem.W.nsIn K mainGlobals "_law_signs" = some (some (.ref f11))) (l11 : K.lookup f11 = some ⟨oc11, od11, .func (PySem.W.fnOf "_law_signs" "_law_signs" (defArgs s__law_signs) (defBody s__law_signs) (defScope s__law_signs) .none kV11 dc11 pm11 an11 cd11 ct11), sl11⟩) (c11 : PySem.W.codeIn K cd11 "_law_signs" = true) (k11 : PySem.W.keepIn K (.ref f11) = true)
    (a12 : PySem.W.nsIn K mainGlobals "_law_options" = some (some (.ref f12))) (l12 : K.lookup f12 = some ⟨oc12, od12, .func (PySem.W.fnOf "_law_options" "_law_options" (defArgs s__law_options) (defBody s__law_options) (defScope s__law_options) .none kV12 dc12 pm12 an12 cd12 ct12), sl12⟩) (c12 : PySem.W.codeIn K cd12 "_law_options" = true) (k12 : PySem.W.keepIn K (.ref f12) = true)
    (a13 : PySem.W.nsIn K mainGlobals "_law_places" = some (some (.ref f13))) (l13 : K.lookup f13 = some ⟨oc13, od13, .func (PySem.W.fnOf "_law_places" "_law_places" (defArgs s__law_places) (defBody s__law_places) (defScope s__law_places) .none kV13 dc13 pm13 an13 cd13 ct13), sl13⟩) (c13 : PySem.W.codeIn K cd13 "_law_places" = true) (k13 : PySem.W.keepIn K (.ref f13) = true)
    (a14 : PySem.W.nsIn K mainGlobals "_law_factor" = some (some (.ref f14))) (l14 : K.lookup f14 = some ⟨oc14, od14, .func (PySem.W.fnOf "_law_factor" "_law_factor" (defArgs s__law_factor) (defBody s__law_factor) (defScope s__law_factor) .none kV14 dc14 pm14 an14 cd14 ct14), sl14⟩) (c14 : PySem.W.codeIn K cd14 "_law_factor" = true) (k14 : PySem.W.keepIn K (.ref f14) = true)
    (a15 : PySem.W.nsIn K mainGlobals "_law_due_terms" = some (some (.ref f15))) (l15 : K.lookup f15 = some ⟨oc15, od15, .func (PySem.W.fnOf "_law_due_terms" "_law_due_terms" (defArgs s__law_due_terms) (defBody s__law_due_terms) (defScope s__law_due_terms) .none kV15 dc15 pm15 an15 cd15 ct15), sl15⟩) (c15 : PySem.W.codeIn K cd15 "_law_due_terms" = true) (k15 : PySem.W.keepIn K (.ref f15) = true)
    (a16 : PySem.W.nsIn K mainGlobals "_law_listed" = some (some (.ref f16))) (l16 : K.lookup f16 = some ⟨oc16, od16, .func (PySem.W.fnOf "_law_listed" "_law_listed" (defArgs s__law_listed) (defBody s__law_listed) (defScope s__law_listed) .none kV16 dc16 pm16 an16 cd16 ct16), sl16⟩) (c16 : PySem.W.codeIn K cd16 "_law_listed" = true) (k16 : PySem.W.keepIn K (.ref f16) = true)
    (a17 : PySem.W.nsIn K mainGlobals "_law_entry_holds" = some (some (.ref f17))) (l17 : K.lookup f17 = some ⟨oc17, od17, .func (PySem.W.fnOf "_law_entry_holds" "_law_entry_holds" (defArgs s__law_entry_holds) (defBody s__law_entry_holds) (defScope s__law_entry_holds) .none kV17 dc17 pm17 an17 cd17 ct17), sl17⟩) (c17 : PySem.W.codeIn K cd17 "_law_entry_holds" = true) (k17 : PySem.W.keepIn K (.ref f17) = true)
    (a18 : PySem.W.nsIn K mainGlobals "_law_hand_leaves" = some (some (.ref f18))) (l18 : K.lookup f18 = some ⟨oc18, od18, .func (PySem.W.fnOf "_law_hand_leaves" "_law_hand_leaves" (defArgs s__law_hand_leaves) (defBody s__law_hand_leaves) (defScope s__law_hand_leaves) .none kV18 dc18 pm18 an18 cd18 ct18), sl18⟩) (c18 : PySem.W.codeIn K cd18 "_law_hand_leaves" = true) (k18 : PySem.W.keepIn K (.ref f18) = true)
    (a19 : PySem.W.nsIn K mainGlobals "_law_cancels" = some (some (.ref f19))) (l19 : K.lookup f19 = some ⟨oc19, od19, .func (PySem.W.fnOf "_law_cancels" "_law_cancels" (defArgs s__law_cancels) (defBody s__law_cancels) (defScope s__law_cancels) .none kV19 dc19 pm19 an19 cd19 ct19), sl19⟩) (c19 : PySem.W.codeIn K cd19 "_law_cancels" = true) (k19 : PySem.W.keepIn K (.ref f19) = true)
    (a20 : PySem.W.nsIn K mainGlobals "law" = some (some (.ref f20))) (l20 : K.lookup f20 = some ⟨oc20, od20, .func (PySem.W.fnOf "law" "law" (defArgs s_law) (defBody s_law) (defScope s_law) .none kV20 dc20 pm20 an20 cd20 ct20), sl20⟩) (c20 : PySem.W.codeIn K cd20 "law" = true) (k20 : PySem.W.keepIn K (.ref f20) = true)
    (z_bool : PySem.W.nsIn K mainGlobals "bool" = some none)
    (z_int : PySem.W.nsIn K mainGlobals "int" = some none)
    (z_isinstance : PySem.W.nsIn K mainGlobals "isinstance" = some none)
    (z_len : PySem.W.nsIn K mainGlobals "len" = some none)
    (z_list : PySem.W.nsIn K mainGlobals "list" = some none)
    (z_max : PySem.W.nsIn K mainGlobals "max" = some none)
    (z_range : PySem.W.nsIn K mainGlobals "range" = some none)
    (z_str : PySem.W.nsIn K mainGlobals "str" = some none)
    (z_tuple : PySem.W.nsIn K mainGlobals "tuple" = some none)
    (z_zip : PySem.W.nsIn K mainGlobals "zip" = some none) :
    ∃ fd : FuncData, (∀ (s : Shared) (v : Value), BindsTo s fd ⟨[v], []⟩ [("script", v)]) ∧ ∀ base : Heap, K.In base → base.Ns mainGlobals mg → FnOk l.prog w K mg base (L2.CX l.prog w) 9 fa fd ["script"] (spD ⟨K, fun _ => 0⟩ 1 den_law) := by
  have e := hfa.symm.trans (PySem.W.mg_of X G a20)
  cases e
  have F0 := fun_mk (st := s_places) l0 c0 k0
  have b0 := F0.binds (ps := ["shape"]) fun _ _ _ _ _ _ us hl => match us, hl with | [_], _ => rfl
  have F1 := fun_mk (st := s_hand_options) l1 c1 k1
  have b1 := F1.binds (ps := ["dials", "signs"]) fun _ _ _ _ _ _ us hl => match us, hl with | [_, _], _ => rfl
  have F2 := fun_mk (st := s_sign_terms) l2 c2 k2
  have b2 := F2.binds (ps := ["signs", "dial", "sign"]) fun _ _ _ _ _ _ us hl => match us, hl with | [_, _, _], _ => rfl
  have F3 := fun_mk (st := s_entry_terms) l3 c3 k3
  have b3 := F3.binds (ps := ["shape", "context", "outcome"]) fun _ _ _ _ _ _ us hl => match us, hl with | [_, _, _], _ => rfl
  have F4 := fun_mk (st := s__law_cell) l4 c4 k4
  have b4 := F4.binds (ps := ["script", "k"]) fun _ _ _ _ _ _ us hl => match us, hl with | [_, _], _ => rfl
  have F5 := fun_mk (st := s__law_same) l5 c5 k5
  have b5 := F5.binds (ps := ["actual", "due"]) fun _ _ _ _ _ _ us hl => match us, hl with | [_, _], _ => rfl
  have F6 := fun_mk (st := s__law_plan_count) l6 c6 k6
  have b6 := F6.binds (ps := ["hands"]) fun _ _ _ _ _ _ us hl => match us, hl with | [_], _ => rfl
  have F7 := fun_mk (st := s__law_smaller) l7 c7 k7
  have b7 := F7.binds (ps := ["hands"]) fun _ _ _ _ _ _ us hl => match us, hl with | [_], _ => rfl
  have F8 := fun_mk (st := s__law_hands) l8 c8 k8
  have b8 := F8.binds (ps := ["cell", "most"]) fun _ _ _ _ _ _ us hl => match us, hl with | [_, _], _ => rfl
  have F9 := fun_mk (st := s__law_tuples) l9 c9 k9
  have b9 := F9.binds (ps := ["bounds"]) fun _ _ _ _ _ _ us hl => match us, hl with | [_], _ => rfl
  have F10 := fun_mk (st := s__law_counts) l10 c10 k10
  have b10 := F10.binds (ps := ["hands"]) fun _ _ _ _ _ _ us hl => match us, hl with | [_], _ => rfl
  have F11 := fun_mk (st := s__law_signs) l11 c11 k11
  have b11 := F11.binds (ps := ["hands"]) fun _ _ _ _ _ _ us hl => match us, hl with | [_], _ => rfl
  have F12 := fun_mk (st := s__law_options) l12 c12 k12
  have b12 := F12.binds (ps := ["hand"]) fun _ _ _ _ _ _ us hl => match us, hl with | [_], _ => rfl
  have F13 := fun_mk (st := s__law_places) l13 c13 k13
  have b13 := F13.binds (ps := ["hands"]) fun _ _ _ _ _ _ us hl => match us, hl with | [_], _ => rfl
  have F14 := fun_mk (st := s__law_factor) l14 c14 k14
  have b14 := F14.binds (ps := ["hands", "place", "context", "outcome"]) fun _ _ _ _ _ _ us hl => match us, hl with | [_, _, _, _], _ => rfl
  have F15 := fun_mk (st := s__law_due_terms) l15 c15 k15
  have b15 := F15.binds (ps := ["hands", "known", "context", "outcome"]) fun _ _ _ _ _ _ us hl => match us, hl with | [_, _, _, _], _ => rfl
  have F16 := fun_mk (st := s__law_listed) l16 c16 k16
  have b16 := F16.binds (ps := ["hands"]) fun _ _ _ _ _ _ us hl => match us, hl with | [_], _ => rfl
  have F17 := fun_mk (st := s__law_entry_holds) l17 c17 k17
  have b17 := F17.binds (ps := ["hands", "known", "context", "outcome"]) fun _ _ _ _ _ _ us hl => match us, hl with | [_, _, _, _], _ => rfl
  have F18 := fun_mk (st := s__law_hand_leaves) l18 c18 k18
  have b18 := F18.binds (ps := ["hands", "known", "hand", "context", "rest"]) fun _ _ _ _ _ _ us hl => match us, hl with | [_, _, _, _, _], _ => rfl
  have F19 := fun_mk (st := s__law_cancels) l19 c19 k19
  have b19 := F19.binds (ps := ["hands", "known", "hand"]) fun _ _ _ _ _ _ us hl => match us, hl with | [_, _, _], _ => rfl
  have F20 := fun_mk (st := s_law) l20 c20 k20
  have b20 := F20.binds (ps := ["script"]) fun _ _ _ _ _ _ us hl => match us, hl with | [_], _ => rfl
  let T : Tx K mg := {
    f_places := f0, fd_places := _, t_places := ⟨F0, PySem.W.mg_of X G a0, b0⟩
    f_hand_options := f1, fd_hand_options := _, t_hand_options := ⟨F1, PySem.W.mg_of X G a1, b1⟩
    f_sign_terms := f2, fd_sign_terms := _, t_sign_terms := ⟨F2, PySem.W.mg_of X G a2, b2⟩
    f_entry_terms := f3, fd_entry_terms := _, t_entry_terms := ⟨F3, PySem.W.mg_of X G a3, b3⟩
    f__law_cell := f4, fd__law_cell := _, t__law_cell := ⟨F4, PySem.W.mg_of X G a4, b4⟩
    f__law_same := f5, fd__law_same := _, t__law_same := ⟨F5, PySem.W.mg_of X G a5, b5⟩
    f__law_plan_count := f6, fd__law_plan_count := _, t__law_plan_count := ⟨F6, PySem.W.mg_of X G a6, b6⟩
    f__law_smaller := f7, fd__law_smaller := _, t__law_smaller := ⟨F7, PySem.W.mg_of X G a7, b7⟩
    f__law_hands := f8, fd__law_hands := _, t__law_hands := ⟨F8, PySem.W.mg_of X G a8, b8⟩
    f__law_tuples := f9, fd__law_tuples := _, t__law_tuples := ⟨F9, PySem.W.mg_of X G a9, b9⟩
    f__law_counts := f10, fd__law_counts := _, t__law_counts := ⟨F10, PySem.W.mg_of X G a10, b10⟩
    f__law_signs := f11, fd__law_signs := _, t__law_signs := ⟨F11, PySem.W.mg_of X G a11, b11⟩
    f__law_options := f12, fd__law_options := _, t__law_options := ⟨F12, PySem.W.mg_of X G a12, b12⟩
    f__law_places := f13, fd__law_places := _, t__law_places := ⟨F13, PySem.W.mg_of X G a13, b13⟩
    f__law_factor := f14, fd__law_factor := _, t__law_factor := ⟨F14, PySem.W.mg_of X G a14, b14⟩
    f__law_due_terms := f15, fd__law_due_terms := _, t__law_due_terms := ⟨F15, PySem.W.mg_of X G a15, b15⟩
    f__law_listed := f16, fd__law_listed := _, t__law_listed := ⟨F16, PySem.W.mg_of X G a16, b16⟩
    f__law_entry_holds := f17, fd__law_entry_holds := _, t__law_entry_holds := ⟨F17, PySem.W.mg_of X G a17, b17⟩
    f__law_hand_leaves := f18, fd__law_hand_leaves := _, t__law_hand_leaves := ⟨F18, PySem.W.mg_of X G a18, b18⟩
    f__law_cancels := f19, fd__law_cancels := _, t__law_cancels := ⟨F19, PySem.W.mg_of X G a19, b19⟩
    f_law := fa, fd_law := _, t_law := ⟨F20, PySem.W.mg_of X G a20, b20⟩
    m_bool := PySem.W.mg_none_of X G z_bool
    m_int := PySem.W.mg_none_of X G z_int
    m_isinstance := PySem.W.mg_none_of X G z_isinstance
    m_len := PySem.W.mg_none_of X G z_len
    m_list := PySem.W.mg_none_of X G z_list
    m_max := PySem.W.mg_none_of X G z_max
    m_range := PySem.W.mg_none_of X G z_range
    m_str := PySem.W.mg_none_of X G z_str
    m_tuple := PySem.W.mg_none_of X G z_tuple
    m_zip := PySem.W.mg_none_of X G z_zip
  }
  exact ⟨PySem.W.fnOf "law" "law" (defArgs s_law) (defBody s_law) (defScope s_law) .none kV20 dc20 pm20 an20 cd20 ct20, fun s v => .of_eq rfl, fun base _ _ => ok_law (P := l.prog) (w := w) (base := base) (cl := fun _ => 0) T⟩
end La
namespace La
open PySem Dn L2
abbrev Hd := Nat × Nat
abbrev Opt := Option (Nat × Nat)
def hD (h : Hd) : D := .tup [.int h.1, .int h.2]
def oD : Opt → D
  | none => .non
  | some (a, b) => .tup [.int a, .int b]
def pD (p : List Opt) : D := .tup (p.map oD)
def nD (n : Nat) : D := .int (n : Int)
def tD (t : Nat × Int) : D := .tup [.int t.1, .int t.2]
def handOk (h : Hd) : Prop := (h.1 = 1 ∨ h.1 = 2 ∨ h.1 = 3 ∨ h.1 = 4) ∧ (h.2 = 2 ∨ h.2 = 3)
def opts (h : Hd) : List Opt := none :: (List.range h.1).flatMap fun a => (List.range (h.2 - 1)).map fun b => some (a, b)
def isR (r : R Val) (k : Bool) (ds : List D) : Prop := r = .ok (if k then .fr ds else .sh (.lst ds))
theorem hand_cases {Q : Hd → Prop} (h : Hd) (ok : handOk h) (q : Q (1,2) ∧ Q (2,2) ∧ Q (3,2) ∧ Q (4,2) ∧ Q (1,3) ∧ Q (2,3) ∧ Q (3,3) ∧ Q (4,3)) : Q h := by
  obtain ⟨a, b⟩ := h
  obtain ⟨h1, h2⟩ := ok
  simp only at h1 h2
  rcases h1 with rfl | rfl | rfl | rfl <;> rcases h2 with rfl | rfl
  · exact q.1
  · exact q.2.2.2.2.1
  · exact q.2.1
  · exact q.2.2.2.2.2.1
  · exact q.2.2.1
  · exact q.2.2.2.2.2.2.1
  · exact q.2.2.2.1
  · exact q.2.2.2.2.2.2.2
theorem hand_options_eq (h : Hd) (ok : handOk h) : den_hand_options [.int h.1, .int h.2] = .ok (.fr ((opts h).map oD)) := by
  refine hand_cases (Q := fun h => den_hand_options [.int h.1, .int h.2] = .ok (.fr ((opts h).map oD))) h ok ⟨?_, ?_, ?_, ?_, ?_, ?_, ?_, ?_⟩ <;> rfl
theorem law_options_eq (h : Hd) (ok : handOk h) : den__law_options [hD h] = .ok (.fr ((opts h).map oD)) := by
  refine hand_cases (Q := fun h => den__law_options [hD h] = .ok (.fr ((opts h).map oD))) h ok ⟨?_, ?_, ?_, ?_, ?_, ?_, ?_, ?_⟩ <;> rfl
def sterms (s c g : Nat) : List (Nat × Int) := if g < s - 1 then [(1 + c * (s - 1) + g, 1)] else (0, 1) :: (List.range (s - 1)).map fun o => (1 + c * (s - 1) + o, -1)
theorem opts_len (h : Hd) (ok : handOk h) : (opts h).length ≤ 9 := by
  refine hand_cases (Q := fun h => (opts h).length ≤ 9) h ok ⟨?_, ?_, ?_, ?_, ?_, ?_, ?_, ?_⟩ <;> decide
def sterms_ok (s c g : Nat) : Prop := den_sign_terms [.int s, .int c, .int g] = .ok (.fr ((sterms s c g).map tD))
theorem sign_terms_eq (s c g : Nat) (hs : s = 2 ∨ s = 3) (hc : c = 0 ∨ c = 1 ∨ c = 2 ∨ c = 3) (hg : g = 0 ∨ g = 1 ∨ (s = 3 ∧ g = 2)) : sterms_ok s c g := by
  rcases hs with rfl | rfl <;> rcases hc with rfl | rfl | rfl | rfl <;> rcases hg with rfl | rfl | ⟨h, rfl⟩ <;> first | (exfalso; omega) | exact rfl
end La
namespace La
open PySem Dn L2
def stepP (acc : List (List Opt)) (h : Hd) : List (List Opt) := acc.flatMap fun b => (opts h).map fun o => b ++ [o]
def placesM (hs : List Hd) : List (List Opt) := hs.foldl stepP [[]]
theorem placesM_snoc (hs : List Hd) (h : Hd) : placesM (hs ++ [h]) = stepP (placesM hs) h := by simp [placesM, List.foldl_append]
theorem flatMap_len {α β : Type} (f : α → List β) (k : Nat) : ∀ l : List α, (∀ x ∈ l, (f x).length ≤ k) → (l.flatMap f).length ≤ l.length * k
  | [], _ => by simp
  | x :: l, h => by
    rw [List.flatMap_cons, List.length_append, List.length_cons, Nat.add_mul, Nat.one_mul, Nat.add_comm]
    exact Nat.add_le_add (flatMap_len f k l fun y hy => h y (List.mem_cons_of_mem _ hy)) (h x (by simp))
theorem placesM_len : ∀ (n : Nat) (hs : List Hd), hs.length = n → (∀ h ∈ hs, handOk h) → (placesM hs).length ≤ 9 ^ n := by
  intro n
  induction n with
  | zero => intro hs hl _; rw [List.eq_nil_of_length_eq_zero hl]; decide
  | succ n ih =>
    intro hs hl ok
    have hne : hs ≠ [] := fun e => by rw [e] at hl; cases hl
    have e := (List.dropLast_concat_getLast hne).symm
    rw [e, placesM_snoc]
    have h1 := ih hs.dropLast (by simp [hl]) fun h hh => ok h (List.dropLast_subset hs hh)
    have h2 := flatMap_len (fun b => (opts (hs.getLast hne)).map fun o => b ++ [o]) 9 (placesM hs.dropLast) fun x _ => by
      rw [List.length_map]; exact opts_len _ (ok _ (List.getLast_mem hne))
    exact Nat.le_trans h2 (by rw [Nat.pow_succ]; exact Nat.mul_le_mul_right 9 h1)
theorem places_small {hs : List Hd} (hl : hs.length ≤ 3) (ok : ∀ h ∈ hs, handOk h) : (placesM hs).length ≤ 729 := by
  have := placesM_len hs.length hs rfl ok
  exact Nat.le_trans this (Nat.pow_le_pow_right (by decide) hl)
theorem pre_ok {hs pre post : List Hd} {x : Hd} (e : hs = pre ++ x :: post) (hl : hs.length ≤ 3) (ok : ∀ h ∈ hs, handOk h) : handOk x ∧ (∀ h ∈ pre ++ [x], handOk h) ∧ (pre ++ [x]).length ≤ 3 ∧ (∀ h ∈ pre, handOk h) ∧ pre.length ≤ 3 := by
  subst e
  simp only [List.length_append, List.length_cons] at hl
  refine ⟨ok x (by simp), fun h hh => ok h (by rcases List.mem_append.mp hh with q | q; exact List.mem_append_left _ q; simp at q; subst q; simp), by simp; omega, fun h hh => ok h (List.mem_append_left _ hh), by omega⟩
theorem pD_app (b : List Opt) (o : Opt) : D.tup (b.map oD ++ [oD o]) = pD (b ++ [o]) := by simp [pD]
theorem places_step (Hs : D) (g2 g3 : Sl) (acc : List (List Opt)) (h : Hd) (hacc : acc.length ≤ 729) (hb : ∀ b ∈ acc, b.length ≤ 3) :
    lc2D (.nm 5) tYesD (iSeq (eVar 4)) [6] (.nm 6) tYesD (eTup (aStar (eVar 5) (aCons (eVar 6) aNil))) [.sh Hs, .sh (.lst (acc.map pD)), g2, g3, .sh (.lst ((opts h).map oD)), .un, .un] (acc.map pD) = .ok ((stepP acc h).map pD) := by
  rw [show (stepP acc h).map pD = acc.flatMap (fun b => (opts h).map fun o => pD (b ++ [o])) by simp [stepP, List.map_flatMap]; rfl]
  refine lc2D_map (F := fun b => (opts h).map fun o => pD (b ++ [o])) acc fun b hbm => ⟨_, (opts h).map oD, rfl, rfl, rfl, ?_⟩
  refine lcD_map (F := fun o => pD (b ++ [o])) (opts h) fun o _ => ⟨_, .sh (pD (b ++ [o])), rfl, rfl, ?_, rfl⟩
  have hl : fit (b.length + 1) = true := fit_ok (by have := hb b hbm; omega)
  simp [sSeq, sAsgS, sAsg, sIf, sRet, sRetV, frz, owned, sFor, eOp, eUn, eVar, slt, eC, eCB, eCall, ar, eTup, eLst, eLc, eLc2, eTest, asB, tAndD, tOrD, tNotD, tYesD, aCons, aNil, aStar, itemsOf, iSeq, iFun, R.bind, R.vl, mk, ofO, Val.d, Val.s, Out.ofE, Tg.asg, asgs, wipeE, runD, dIx, dAdd, dSub, dLen, dInt, dIsN, dNotN, D.isNon, rng1, chk, atI0, atI1, eIxO, eLenO, lendT, noEx, pD, hl]
theorem placesM_mem : ∀ (hs : List Hd), ∀ b ∈ placesM hs, b.length = hs.length := by
  intro hs
  have key : ∀ (hs : List Hd) (acc : List (List Opt)) (n : Nat), (∀ b ∈ acc, b.length = n) → ∀ b ∈ hs.foldl stepP acc, b.length = n + hs.length := by
    intro hs
    induction hs with
    | nil => intro acc n h b hb; exact h b hb
    | cons h hs ih =>
      intro acc n hacc b hb
      have := ih (stepP acc h) (n + 1) (fun c hc => by
        obtain ⟨d, hd, hc⟩ := List.mem_flatMap.mp hc
        obtain ⟨o, _, rfl⟩ := List.mem_map.mp hc
        simp [hacc d hd]) b hb
      rw [this]; simp; omega
  intro b hb
  have := key hs [[]] 0 (by simp) b hb
  omega
theorem places_eq {hs : List Hd} (hl : hs.length ≤ 3) (ok : ∀ h ∈ hs, handOk h) : den_places [.tup (hs.map hD)] = .ok (.fr ((placesM hs).map pD)) := by
  unfold den_places body_places
  rw [runD_eq]
  refine wp_seq (ρ' := [.sh (.tup (hs.map hD)), .ow [.tup []], .un, .un, .un, .un, .un]) rfl ?_
  refine wp_for hD hs (fun pre ρ => ∃ g2 g3 g4 g5 g6, ρ = [.sh (.tup (hs.map hD)), .ow ((placesM pre).map pD), g2, g3, g4, g5, g6]) rfl ?_ ⟨_, _, _, _, _, rfl⟩ ?_
  · rintro pre x post ρ e ⟨g2, g3, g4, g5, g6, rfl⟩
    have pk := pre_ok e hl ok
    have ok1 := pk.1
    have ok2 := pk.2.1
    have hl2 := pk.2.2.1
    have ok3 := pk.2.2.2.1
    have hl3 := pk.2.2.2.2
    have key := places_step (.tup (hs.map hD)) (.sh (.int x.1)) (.sh (.int x.2)) (placesM pre) x (places_small hl3 ok3) (fun b hb => by rw [placesM_mem pre b hb]; exact hl3)
    have hsz : fit (stepP (placesM pre) x).length = true := fit_ok (by rw [← placesM_snoc]; have := places_small hl2 ok2; omega)
    have e1 := hand_options_eq x ok1
    simp [sSeq, sAsgS, sAsg, sIf, sRet, sRetV, frz, owned, sFor, eOp, eUn, eVar, slt, eC, eCB, eCall, ar, eTup, eLst, eLc, eLc2, eTest, asB, tAndD, tOrD, tNotD, tYesD, aCons, aNil, aStar, itemsOf, iSeq, iFun, R.bind, R.vl, mk, ofO, Val.d, Val.s, Out.ofE, Tg.asg, asgs, wipeE, runD, dIx, dAdd, dSub, dLen, dInt, dIsN, dNotN, D.isNon, rng1, chk, atI0, atI1, eIxO, eLenO, lendT, noEx, turnP, nxP, hD, e1, key, hsz, placesM_snoc]
  · rintro ρ' ⟨g2, g3, g4, g5, g6, rfl⟩
    simp [sSeq, sAsgS, sAsg, sIf, sRet, sRetV, frz, owned, sFor, eOp, eUn, eVar, slt, eC, eCB, eCall, ar, eTup, eLst, eLc, eLc2, eTest, asB, tAndD, tOrD, tNotD, tYesD, aCons, aNil, aStar, itemsOf, iSeq, iFun, R.bind, R.vl, mk, ofO, Val.d, Val.s, Out.ofE, Tg.asg, asgs, wipeE, runD, dIx, dAdd, dSub, dLen, dInt, dIsN, dNotN, D.isNon, rng1, chk, atI0, atI1, eIxO, eLenO, lendT, noEx, outR]
end La
namespace La
open PySem Dn L2
/-! ### _law_places -/
theorem law_places_eq {hs : List Hd} (hl : hs.length ≤ 3) (ok : ∀ h ∈ hs, handOk h) (hne : hs ≠ []) : den__law_places [.tup (hs.map hD)] = .ok (.sh (.lst ((placesM hs).map pD))) := by
  unfold den__law_places body__law_places
  rw [runD_eq]
  refine wp_seq (ρ' := [.sh (.tup (hs.map hD)), .ow [.tup []], .un, .un, .un, .un]) rfl ?_
  refine wp_for hD hs (fun pre ρ => ∃ s1 g2 g3 g4 g5, ρ = [.sh (.tup (hs.map hD)), s1, g2, g3, g4, g5] ∧ ((pre = [] ∧ s1 = .ow [.tup []]) ∨ (pre ≠ [] ∧ s1 = .sh (.lst ((placesM pre).map pD))))) rfl ?_ ⟨_, _, _, _, _, rfl, .inl ⟨rfl, rfl⟩⟩ ?_
  · rintro pre x post ρ e ⟨s1, g2, g3, g4, g5, rfl, hs1⟩
    have pk := pre_ok e hl ok
    have ok1 := pk.1
    have hsz := places_small pk.2.2.1 pk.2.1
    rw [placesM_snoc] at hsz
    have fz : frzE 1 [.sh (.tup (hs.map hD)), s1, .sh (hD x), .sh (.lst []), g4, g5] = [.sh (.tup (hs.map hD)), .sh (.lst ((placesM pre).map pD)), .sh (hD x), .sh (.lst []), g4, g5] := by
      rcases hs1 with ⟨h1, h2⟩ | ⟨h1, h2⟩
      · rw [h1, h2]; rfl
      · rw [h2]; rfl
    show nxP (sSeq _ _ [.sh (.tup (hs.map hD)), s1, .sh (hD x), g3, g4, g5]) _
    refine np_seq (ρ' := [.sh (.tup (hs.map hD)), s1, .sh (hD x), .sh (.lst []), g4, g5]) rfl ?_
    refine np_frz ?_
    rw [fz]
    refine np_for pD (placesM pre) (fun pr ρ => ∃ g4 g5, ρ = [.sh (.tup (hs.map hD)), .sh (.lst ((placesM pre).map pD)), .sh (hD x), .sh (.lst ((stepP pr x).map pD)), g4, g5]) rfl ?_ ⟨_, _, rfl⟩ ?_
    · rintro pr b po ρ e2 ⟨g4, g5, rfl⟩
      have hb : b.length ≤ 3 := by rw [placesM_mem pre b (by rw [e2]; simp)]; exact pk.2.2.2.2
      have e1 := law_options_eq x ok1
      have hf : fit (b.length + 1) = true := fit_ok (by omega)
      have hlen : (stepP pr x).length + (opts x).length ≤ 729 := by
        have q : (stepP (placesM pre) x).length = (stepP pr x).length + ((opts x).length + (stepP po x).length) := by
          rw [e2]; simp [stepP, List.flatMap_append, List.flatMap_cons]
        omega
      have hf2 : fit ((stepP pr x).length + (opts x).length) = true := fit_ok (by omega)
      have hf3 : fit (opts x).length = true := fit_ok (by omega)
      have key : lcD (.nm 5) tYesD (eOp dAdd (eVar 4) (eTup (aCons (eVar 5) aNil))) [.sh (.tup (hs.map hD)), .sh (.lst ((placesM pre).map pD)), .sh (hD x), .sh (.lst ((stepP pr x).map pD)), .sh (pD b), .un] ((opts x).map oD) = .ok ((opts x).map fun o => pD (b ++ [o])) := by
        refine lcD_map (F := fun o => pD (b ++ [o])) (opts x) fun o _ => ⟨_, .sh (pD (b ++ [o])), rfl, rfl, ?_, rfl⟩
        simp [sSeq, sAsgS, sAsg, sIf, sRet, sRetV, frz, owned, sFor, eOp, eUn, eVar, slt, eC, eCB, eCall, ar, eTup, eLst, eLc, eLc2, eTest, asB, tAndD, tOrD, tNotD, tYesD, aCons, aNil, aStar, itemsOf, iSeq, iFun, R.bind, R.vl, mk, ofO, Val.d, Val.s, Out.ofE, Tg.asg, asgs, wipeE, runD, dIx, dAdd, dSub, dLen, dInt, dIsN, dNotN, D.isNon, rng1, chk, atI0, atI1, eIxO, eLenO, lendT, noEx, pD, hf, show fit 1 = true from rfl]
      have ez : (stepP (pr ++ [b]) x).map pD = (stepP pr x).map pD ++ (opts x).map fun o => pD (b ++ [o]) := by
        simp [stepP, List.flatMap_append, List.flatMap_cons, List.map_flatMap]
      rw [ez]
      simp [sSeq, sAsgS, sAsg, sIf, sRet, sRetV, frz, owned, sFor, eOp, eUn, eVar, slt, eC, eCB, eCall, ar, eTup, eLst, eLc, eLc2, eTest, asB, tAndD, tOrD, tNotD, tYesD, aCons, aNil, aStar, itemsOf, iSeq, iFun, R.bind, R.vl, mk, ofO, Val.d, Val.s, Out.ofE, Tg.asg, asgs, wipeE, runD, dIx, dAdd, dSub, dLen, dInt, dIsN, dNotN, D.isNon, rng1, chk, atI0, atI1, eIxO, eLenO, lendT, noEx, turnP, nxP, e1, key, hf2, hf3]
    · rintro ρ' ⟨g4, g5, rfl⟩
      rw [placesM_snoc]
      exact ⟨_, _, _, _, _, rfl, .inr ⟨by simp, rfl⟩⟩
  · rintro ρ' ⟨s1, g2, g3, g4, g5, rfl, ⟨h1, h2⟩ | ⟨h1, h2⟩⟩
    · exact absurd h1 hne
    · rw [h2]; rfl
/-! ### _law_tuples -/
def nT (l : List Nat) : D := .tup (l.map nD)
def stepN (acc : List (List Nat)) (n : Nat) : List (List Nat) := acc.flatMap fun b => (List.range n).map fun k => b ++ [k]
def tupsM (ns : List Nat) : List (List Nat) := ns.foldl stepN [[]]
theorem tupsM_snoc (hs : List Nat) (h : Nat) : tupsM (hs ++ [h]) = stepN (tupsM hs) h := by simp [tupsM, List.foldl_append]
theorem tupsM_len : ∀ (n : Nat) (hs : List Nat), hs.length = n → (∀ h ∈ hs, h ≤ 4) → (tupsM hs).length ≤ 4 ^ n := by
  intro n
  induction n with
  | zero => intro hs hl _; rw [List.eq_nil_of_length_eq_zero hl]; decide
  | succ n ih =>
    intro hs hl ok
    have hne : hs ≠ [] := fun e => by rw [e] at hl; cases hl
    have e := (List.dropLast_concat_getLast hne).symm
    rw [e, tupsM_snoc]
    have h1 := ih hs.dropLast (by simp [hl]) fun h hh => ok h (List.dropLast_subset hs hh)
    have h2 := flatMap_len (fun b => (List.range (hs.getLast hne)).map fun o => b ++ [o]) 4 (tupsM hs.dropLast) fun x _ => by
      rw [List.length_map, List.length_range]; exact ok _ (List.getLast_mem hne)
    exact Nat.le_trans h2 (by rw [Nat.pow_succ]; exact Nat.mul_le_mul_right 4 h1)
theorem tups_small {hs : List Nat} (hl : hs.length ≤ 3) (ok : ∀ h ∈ hs, h ≤ 4) : (tupsM hs).length ≤ 64 := by
  have := tupsM_len hs.length hs rfl ok
  exact Nat.le_trans this (Nat.pow_le_pow_right (by decide) hl)
theorem tupsM_mem : ∀ (hs : List Nat), ∀ b ∈ tupsM hs, b.length = hs.length := by
  intro hs
  have key : ∀ (hs : List Nat) (acc : List (List Nat)) (n : Nat), (∀ b ∈ acc, b.length = n) → ∀ b ∈ hs.foldl stepN acc, b.length = n + hs.length := by
    intro hs
    induction hs with
    | nil => intro acc n h b hb; exact h b hb
    | cons h hs ih =>
      intro acc n hacc b hb
      have := ih (stepN acc h) (n + 1) (fun c hc => by
        obtain ⟨d, hd, hc⟩ := List.mem_flatMap.mp hc
        obtain ⟨o, _, rfl⟩ := List.mem_map.mp hc
        simp [hacc d hd]) b hb
      rw [this]; simp; omega
  intro b hb
  have := key hs [[]] 0 (by simp) b hb
  omega
theorem rangeD_nat (n : Nat) : rangeD 0 n = (List.range n).map nD := by
  unfold rangeD
  refine List.map_congr_left fun k _ => ?_
  rw [Int.zero_add]; rfl
theorem law_tuples_eq {hs : List Nat} (hl : hs.length ≤ 3) (ok : ∀ h ∈ hs, h ≤ 4) (hne : hs ≠ []) : den__law_tuples [.lst (hs.map nD)] = .ok (.sh (.lst ((tupsM hs).map nT))) := by
  unfold den__law_tuples body__law_tuples
  rw [runD_eq]
  refine wp_seq (ρ' := [.sh (.lst (hs.map nD)), .ow [.tup []], .un, .un, .un, .un]) rfl ?_
  refine wp_for nD hs (fun pre ρ => ∃ s1 g2 g3 g4 g5, ρ = [.sh (.lst (hs.map nD)), s1, g2, g3, g4, g5] ∧ ((pre = [] ∧ s1 = .ow [.tup []]) ∨ (pre ≠ [] ∧ s1 = .sh (.lst ((tupsM pre).map nT))))) rfl ?_ ⟨_, _, _, _, _, rfl, .inl ⟨rfl, rfl⟩⟩ ?_
  · rintro pre x post ρ e ⟨s1, g2, g3, g4, g5, rfl, hs1⟩
    have hlp : pre.length + 1 ≤ 3 := by rw [e] at hl; simp at hl; omega
    have okp : ∀ h ∈ pre ++ [x], h ≤ 4 := fun h hh => ok h (by rw [e]; rcases List.mem_append.mp hh with q | q; exact List.mem_append_left _ q; simp at q; subst q; simp)
    have hx : x ≤ 4 := okp x (by simp)
    have hsz := tups_small (hs := pre ++ [x]) (by simpa using hlp) okp
    rw [tupsM_snoc] at hsz
    have fz : frzE 1 [.sh (.lst (hs.map nD)), s1, .sh (nD x), .sh (.lst []), g4, g5] = [.sh (.lst (hs.map nD)), .sh (.lst ((tupsM pre).map nT)), .sh (nD x), .sh (.lst []), g4, g5] := by
      rcases hs1 with ⟨h1, h2⟩ | ⟨h1, h2⟩
      · rw [h1, h2]; rfl
      · rw [h2]; rfl
    show nxP (sSeq _ _ [.sh (.lst (hs.map nD)), s1, .sh (nD x), g3, g4, g5]) _
    refine np_seq (ρ' := [.sh (.lst (hs.map nD)), s1, .sh (nD x), .sh (.lst []), g4, g5]) rfl ?_
    refine np_frz ?_
    rw [fz]
    refine np_for nT (tupsM pre) (fun pr ρ => ∃ g4 g5, ρ = [.sh (.lst (hs.map nD)), .sh (.lst ((tupsM pre).map nT)), .sh (nD x), .sh (.lst ((stepN pr x).map nT)), g4, g5]) rfl ?_ ⟨_, _, rfl⟩ ?_
    · rintro pr b po ρ e2 ⟨g4, g5, rfl⟩
      have hb : b.length ≤ 3 := by rw [tupsM_mem pre b (by rw [e2]; simp)]; omega
      have hf : fit (b.length + 1) = true := fit_ok (by omega)
      have hlen : (stepN pr x).length + x ≤ 64 := by
        have q : (stepN (tupsM pre) x).length = (stepN pr x).length + (x + (stepN po x).length) := by
          rw [e2]; simp [stepN, List.flatMap_append, List.flatMap_cons]
        omega
      have hf2 : fit ((stepN pr x).length + x) = true := fit_ok (by omega)
      have hf3 : fit x = true := fit_ok (by omega)
      have hr : rngFit (x : Int) = true := rngFit_ok (by omega) (by omega)
      have key : lcD (.nm 5) tYesD (eOp dAdd (eVar 4) (eTup (aCons (eVar 5) aNil))) [.sh (.lst (hs.map nD)), .sh (.lst ((tupsM pre).map nT)), .sh (nD x), .sh (.lst ((stepN pr x).map nT)), .sh (nT b), .un] ((List.range x).map nD) = .ok ((List.range x).map fun o => nT (b ++ [o])) := by
        refine lcD_map (F := fun o => nT (b ++ [o])) (List.range x) fun o _ => ⟨_, .sh (nT (b ++ [o])), rfl, rfl, ?_, rfl⟩
        simp [sSeq, sAsgS, sAsg, sIf, sRet, sRetV, frz, owned, sFor, eOp, eUn, eVar, slt, eC, eCB, eCall, ar, eTup, eLst, eLc, eLc2, eTest, asB, tAndD, tOrD, tNotD, tYesD, aCons, aNil, aStar, itemsOf, iSeq, iFun, R.bind, R.vl, mk, ofO, Val.d, Val.s, Out.ofE, Tg.asg, asgs, wipeE, runD, dIx, dAdd, dSub, dLen, dInt, dIsN, dNotN, D.isNon, rng1, chk, atI0, atI1, eIxO, eLenO, lendT, noEx, nT, hf, show fit 1 = true from rfl]
      have ez : (stepN (pr ++ [b]) x).map nT = (stepN pr x).map nT ++ (List.range x).map fun o => nT (b ++ [o]) := by
        simp [stepN, List.flatMap_append, List.flatMap_cons, List.map_flatMap]
      rw [ez]
      have hr2 : rng1 [nD x] = .ok ((List.range x).map nD) := by
        show chk (rngFit (x : Int)) (.ok (rangeD 0 (x : Int).toNat)) = _
        rw [hr, Int.toNat_natCast, rangeD_nat]; rfl
      simp [turnP, nxP, sAsgS, Tg.asg, eOp, eVar, slt, eLc, iFun, aCons, aNil, R.bind, Val.d, hr2, wipeE, key, chk, hf3, hf2, dAdd, R.vl, Out.ofE]
    · rintro ρ' ⟨g4, g5, rfl⟩
      rw [tupsM_snoc]
      exact ⟨_, _, _, _, _, rfl, .inr ⟨by simp, rfl⟩⟩
  · rintro ρ' ⟨s1, g2, g3, g4, g5, rfl, ⟨h1, h2⟩ | ⟨h1, h2⟩⟩
    · exact absurd h1 hne
    · rw [h2]; rfl
end La
namespace La
open PySem Dn L2
/-! ### _law_counts, _law_signs -/
theorem law_counts_eq {hs : List Hd} (hl : hs.length ≤ 3) : den__law_counts [.tup (hs.map hD)] = .ok (.fr ((hs.map (·.1)).map nD)) := by
  have key : lcD (.nm 1) tYesD (eOp dIx (eVar 1) (eC (.int 0))) [.sh (.tup (hs.map hD)), .un] (hs.map hD) = .ok (hs.map fun h => nD h.1) :=
    lcD_map (F := fun h => nD h.1) hs fun h _ => ⟨_, .sh (nD h.1), rfl, rfl, rfl, rfl⟩
  have hf : fit hs.length = true := fit_ok (by omega)
  unfold den__law_counts body__law_counts
  rw [runD_eq]
  refine wp_ret ?_
  simp [sSeq, sAsgS, sAsg, sIf, sRet, sRetV, frz, owned, sFor, eOp, eUn, eVar, slt, eC, eCB, eCall, ar, eTup, eLst, eLc, eLc2, eTest, asB, tAndD, tOrD, tNotD, tYesD, aCons, aNil, aStar, itemsOf, iSeq, iFun, R.bind, R.vl, mk, ofO, Val.d, Val.s, Out.ofE, Tg.asg, asgs, wipeE, runD, dIx, dAdd, dSub, dLen, dInt, dIsN, dNotN, D.isNon, rng1, chk, sNx, atI0, atI1, eIxO, eLenO, lendT, noEx, key, hf]
theorem law_signs_eq {hs : List Hd} (hl : hs.length ≤ 3) : den__law_signs [.tup (hs.map hD)] = .ok (.fr ((hs.map (·.2)).map nD)) := by
  have key : lcD (.nm 1) tYesD (eOp dIx (eVar 1) (eC (.int 1))) [.sh (.tup (hs.map hD)), .un] (hs.map hD) = .ok (hs.map fun h => nD h.2) :=
    lcD_map (F := fun h => nD h.2) hs fun h _ => ⟨_, .sh (nD h.2), rfl, rfl, rfl, rfl⟩
  have hf : fit hs.length = true := fit_ok (by omega)
  unfold den__law_signs body__law_signs
  rw [runD_eq]
  refine wp_ret ?_
  simp [sSeq, sAsgS, sAsg, sIf, sRet, sRetV, frz, owned, sFor, eOp, eUn, eVar, slt, eC, eCB, eCall, ar, eTup, eLst, eLc, eLc2, eTest, asB, tAndD, tOrD, tNotD, tYesD, aCons, aNil, aStar, itemsOf, iSeq, iFun, R.bind, R.vl, mk, ofO, Val.d, Val.s, Out.ofE, Tg.asg, asgs, wipeE, runD, dIx, dAdd, dSub, dLen, dInt, dIsN, dNotN, D.isNon, rng1, chk, sNx, atI0, atI1, eIxO, eLenO, lendT, noEx, key, hf]
/-! ### _law_factor -/
def f1 (s : Nat) (o : Opt) (c g : Nat) : Int := match o with
  | none => if g + 1 = s then 1 else 0
  | some (a, b) => if a = c then (if g + 1 = s then -1 else if b = g then 1 else 0) else 0
def facP (hs : List Hd) (p : List Opt) (c g : List Nat) : Nat → Int
  | 0 => 1
  | k + 1 => facP hs p c g k * f1 (hs.getD k (0, 0)).2 (p.getD k none) (c.getD k 0) (g.getD k 0)
theorem f1_small (s : Nat) (o : Opt) (c g : Nat) : f1 s o c g = 0 ∨ f1 s o c g = 1 ∨ f1 s o c g = -1 := by
  unfold f1
  split
  · split <;> simp
  · split
    · split
      · simp
      · split <;> simp
    · simp
theorem facP_small (hs : List Hd) (p : List Opt) (c g : List Nat) : ∀ k, facP hs p c g k = 0 ∨ facP hs p c g k = 1 ∨ facP hs p c g k = -1
  | 0 => by simp [facP]
  | k + 1 => by
    unfold facP
    rcases facP_small hs p c g k with h | h | h <;> rcases f1_small (hs.getD k (0, 0)).2 (p.getD k none) (c.getD k 0) (g.getD k 0) with e | e | e <;> rw [h, e] <;> decide
theorem mulFit_small {i j : Int} (hi : i = 0 ∨ i = 1 ∨ i = -1) (hj : j = 0 ∨ j = 1 ∨ j = -1) : mulFit i j = true := by
  rcases hi with rfl | rfl | rfl <;> rcases hj with rfl | rfl | rfl <;> rfl
theorem atI_map {α : Type} (f : α → D) (l : List α) (k : Nat) (d : α) (h : k < l.length) : atI (l.map f) (k : Int) = some (f (l.getD k d)) := by
  rw [atI_nat (v := f l[k]) (by simp [h])]
  simp [List.getD, h]
theorem law_factor_eq {hs : List Hd} {p : List Opt} {c g : List Nat} (hl : hs.length ≤ 3) (hp : p.length = hs.length) (hc : c.length = hs.length) (hg : g.length = hs.length) :
    den__law_factor [.tup (hs.map hD), pD p, nT c, nT g] = .ok (.sh (.int (facP hs p c g hs.length))) := by
  unfold den__law_factor body__law_factor
  rw [runD_eq]
  refine wp_seq (ρ' := [.sh (.tup (hs.map hD)), .sh (pD p), .sh (nT c), .sh (nT g), .sh (.int 1), .un, .un]) rfl ?_
  refine wp_forR 0 hs.length (fun k ρ => ∃ g5 g6, ρ = [.sh (.tup (hs.map hD)), .sh (pD p), .sh (nT c), .sh (nT g), .sh (.int (facP hs p c g k)), g5, g6]) ?_ ?_ ⟨_, _, rfl⟩ ?_
  · have hr : rngFit (hs.length : Int) = true := rngFit_ok (by omega) (by omega)
    simp [sSeq, sAsgS, sAsg, sIf, sRet, sRetV, frz, owned, sFor, eOp, eUn, eVar, slt, eC, eCB, eCall, ar, eTup, eLst, eLc, eLc2, eTest, asB, tAndD, tOrD, tNotD, tYesD, aCons, aNil, aStar, itemsOf, iSeq, iFun, R.bind, R.vl, mk, ofO, Val.d, Val.s, Out.ofE, Tg.asg, asgs, wipeE, runD, dIx, dAdd, dSub, dLen, dInt, dIsN, dNotN, D.isNon, rng1, chk, sNx, atI0, atI1, eIxO, eLenO, lendT, noEx, hr]
  · rintro k ρ hk ⟨g5, g6, rfl⟩
    have a1 := atI_map hD hs k (0, 0) hk
    have a2 := atI_map oD p k none (by omega)
    have a3 := atI_map nD c k 0 (by omega)
    have a4 := atI_map nD g k 0 (by omega)
    have fs := facP_small hs p c g k
    have m1 : mulFit (facP hs p c g k) 1 = true := mulFit_small fs (by simp)
    have m0 : mulFit (facP hs p c g k) 0 = true := mulFit_small fs (by simp)
    show turnP _ _ _ _ (fun ρ => ∃ g5 g6, ρ = [.sh (.tup (hs.map hD)), .sh (pD p), .sh (nT c), .sh (nT g), .sh (.int (facP hs p c g k * f1 (hs.getD k (0, 0)).2 (p.getD k none) (c.getD k 0) (g.getD k 0))), g5, g6])
    rw [Int.zero_add]
    generalize facP hs p c g k = f at *
    generalize hs.getD k (0, 0) = h at *
    generalize p.getD k none = o at *
    generalize c.getD k 0 = cc at *
    generalize g.getD k 0 = gg at *
    obtain ⟨d, s⟩ := h
    have el : ((gg : Int) = (s : Int) - 1) ↔ gg + 1 = s := by omega
    cases o with
    | none =>
      by_cases h1 : gg + 1 = s <;>
      simp [sSeq, sAsgS, sAsg, sIf, sRet, sRetV, frz, owned, sFor, eOp, eUn, eVar, slt, eC, eCB, eCall, ar, eTup, eLst, eLc, eLc2, eTest, asB, tAndD, tOrD, tNotD, tYesD, aCons, aNil, aStar, itemsOf, iSeq, iFun, R.bind, R.vl, mk, ofO, Val.d, Val.s, Out.ofE, Tg.asg, asgs, wipeE, runD, dIx, dAdd, dSub, dLen, dInt, dIsN, dNotN, D.isNon, rng1, chk, sNx, atI0, atI1, eIxO, eLenO, lendT, noEx, turnP, nxP, pD, nT, a1, a2, a3, a4, hD, nD, oD, dEq, el, h1, dMul, m1, m0, f1]
    | some ab =>
      obtain ⟨a, b⟩ := ab
      by_cases h2 : a = cc
      · by_cases h3 : b = gg
        · by_cases h1 : gg + 1 = s <;>
          simp [sSeq, sAsgS, sAsg, sIf, sRet, sRetV, frz, owned, sFor, eOp, eUn, eVar, slt, eC, eCB, eCall, ar, eTup, eLst, eLc, eLc2, eTest, asB, tAndD, tOrD, tNotD, tYesD, aCons, aNil, aStar, itemsOf, iSeq, iFun, R.bind, R.vl, mk, ofO, Val.d, Val.s, Out.ofE, Tg.asg, asgs, wipeE, runD, dIx, dAdd, dSub, dLen, dInt, dIsN, dNotN, D.isNon, rng1, chk, sNx, atI0, atI1, eIxO, eLenO, lendT, noEx, turnP, nxP, pD, nT, a1, a2, a3, a4, hD, nD, oD, dEq, dNe, el, h1, h2, h3, dMul, m1, m0, f1]
        · have h3' : ¬ ((b : Int) = (gg : Int)) := by omega
          by_cases h1 : gg + 1 = s <;>
          simp [sSeq, sAsgS, sAsg, sIf, sRet, sRetV, frz, owned, sFor, eOp, eUn, eVar, slt, eC, eCB, eCall, ar, eTup, eLst, eLc, eLc2, eTest, asB, tAndD, tOrD, tNotD, tYesD, aCons, aNil, aStar, itemsOf, iSeq, iFun, R.bind, R.vl, mk, ofO, Val.d, Val.s, Out.ofE, Tg.asg, asgs, wipeE, runD, dIx, dAdd, dSub, dLen, dInt, dIsN, dNotN, D.isNon, rng1, chk, sNx, atI0, atI1, eIxO, eLenO, lendT, noEx, turnP, nxP, pD, nT, a1, a2, a3, a4, hD, nD, oD, dEq, dNe, el, h1, h2, h3, h3', dMul, m1, m0, f1]
      · have h2' : decide ((a : Int) = (cc : Int)) = false := decide_eq_false (by omega)
        simp [sSeq, sAsgS, sAsg, sIf, sRet, sRetV, frz, owned, sFor, eOp, eUn, eVar, slt, eC, eCB, eCall, ar, eTup, eLst, eLc, eLc2, eTest, asB, tAndD, tOrD, tNotD, tYesD, aCons, aNil, aStar, itemsOf, iSeq, iFun, R.bind, R.vl, mk, ofO, Val.d, Val.s, Out.ofE, Tg.asg, asgs, wipeE, runD, dIx, dAdd, dSub, dLen, dInt, dIsN, dNotN, D.isNon, rng1, chk, sNx, atI0, atI1, eIxO, eLenO, lendT, noEx, turnP, nxP, pD, nT, a1, a2, a3, a4, hD, nD, oD, dEq, dNe, el, h2', h2, dMul, m1, m0, f1]
  · rintro ρ' ⟨g5, g6, rfl⟩
    rfl
/-! ### _law_due_terms -/
def tof : Nat → List Int → List (Nat × Int)
  | _, [] => []
  | n, v :: vs => if v = 0 then tof (n + 1) vs else (n, v) :: tof (n + 1) vs
theorem tof_app : ∀ (n : Nat) (vs ws : List Int), tof n (vs ++ ws) = tof n vs ++ tof (n + vs.length) ws
  | n, [], ws => by simp [tof]
  | n, v :: vs, ws => by
    simp only [List.cons_append, tof, List.length_cons]
    rw [tof_app (n + 1) vs ws, show n + 1 + vs.length = n + (vs.length + 1) by omega]
    split <;> simp
theorem tof_len : ∀ (n : Nat) (vs : List Int), (tof n vs).length ≤ vs.length
  | n, [] => by simp [tof]
  | n, v :: vs => by
    have := tof_len (n + 1) vs
    simp only [tof, List.length_cons]
    split
    · omega
    · simp only [List.length_cons]; omega
theorem take_snoc {α : Type} (l : List α) (k : Nat) (d : α) (h : k < l.length) : l.take (k + 1) = l.take k ++ [l.getD k d] := by
  rw [List.take_add_one]; simp [List.getD, h]
theorem law_due_terms_eq {hs : List Hd} {ps : List (List Opt)} {c g : List Nat} (hl : hs.length ≤ 3) (hn : ps.length ≤ 729) (hp : ∀ p ∈ ps, p.length = hs.length) (hc : c.length = hs.length) (hg : g.length = hs.length) :
    den__law_due_terms [.tup (hs.map hD), .lst (ps.map pD), nT c, nT g] = .ok (.fr ((tof 0 (ps.map fun p => facP hs p c g hs.length)).map tD)) := by
  unfold den__law_due_terms body__law_due_terms
  rw [runD_eq]
  refine wp_seq (ρ' := [.sh (.tup (hs.map hD)), .sh (.lst (ps.map pD)), .sh (nT c), .sh (nT g), .ow [], .un, .un]) rfl ?_
  refine wp_forR 0 ps.length (fun k ρ => ∃ g5 g6, ρ = [.sh (.tup (hs.map hD)), .sh (.lst (ps.map pD)), .sh (nT c), .sh (nT g), .ow ((tof 0 ((ps.take k).map fun p => facP hs p c g hs.length)).map tD), g5, g6]) ?_ ?_ ⟨_, _, rfl⟩ ?_
  · have hr : rngFit (ps.length : Int) = true := rngFit_ok (by omega) (by omega)
    simp [sSeq, sAsgS, sAsg, sIf, sRet, sRetV, frz, owned, sFor, eOp, eUn, eVar, slt, eC, eCB, eCall, ar, eTup, eLst, eLc, eLc2, eTest, asB, tAndD, tOrD, tNotD, tYesD, aCons, aNil, aStar, itemsOf, iSeq, iFun, R.bind, R.vl, mk, ofO, Val.d, Val.s, Out.ofE, Tg.asg, asgs, wipeE, runD, dIx, dAdd, dSub, dLen, dInt, dIsN, dNotN, D.isNon, rng1, chk, sNx, atI0, atI1, eIxO, eLenO, lendT, noEx, hr]
  · rintro k ρ hk ⟨g5, g6, rfl⟩
    have a2 := atI_map pD ps k [] hk
    have hpk : (ps.getD k []).length = hs.length := hp _ (by simp [List.getD, hk])
    have e1 := law_factor_eq (c := c) (g := g) hl hpk hc hg
    rw [take_snoc ps k [] hk, List.map_append, tof_app, Int.zero_add]
    have hlen : (tof 0 ((ps.take k).map fun p => facP hs p c g hs.length)).length ≤ 729 := by
      have := tof_len 0 ((ps.take k).map fun p => facP hs p c g hs.length)
      rw [List.length_map, List.length_take] at this; omega
    have hf : fitS (tof 0 ((ps.take k).map fun p => facP hs p c g hs.length)).length = true := fitS_ok (by omega)
    have hk2 : (List.map (fun p => facP hs p c g hs.length) (ps.take k)).length = k := by simp; omega
    generalize tof 0 ((ps.take k).map fun p => facP hs p c g hs.length) = T at *
    generalize ps.getD k [] = q at *
    rw [hk2]
    by_cases h0 : facP hs q c g hs.length = 0 <;>
    simp [sSeq, sAsgS, sAsg, sIf, sRet, sRetV, frz, owned, sFor, eOp, eUn, eVar, slt, eC, eCB, eCall, ar, eTup, eLst, eLc, eLc2, eTest, asB, tAndD, tOrD, tNotD, tYesD, aCons, aNil, aStar, itemsOf, iSeq, iFun, R.bind, R.vl, mk, ofO, Val.d, Val.s, Out.ofE, Tg.asg, asgs, wipeE, runD, dIx, dAdd, dSub, dLen, dInt, dIsN, dNotN, D.isNon, rng1, chk, sNx, atI0, atI1, eIxO, eLenO, lendT, noEx, turnP, nxP, a2, e1, dNe, h0, tof, sApp, hf, tD, show fit 2 = true from rfl]
  · rintro ρ' ⟨g5, g6, rfl⟩
    rw [List.take_length]
    rfl
end La
namespace La
open PySem Dn L2
/-! ### _law_same -/
def Good : Nat → D → Prop
  | 0, _ => False
  | n + 1, d => d = .non ∨ (∃ i, d = .int i) ∨ ∃ ds, (d = .tup ds ∨ d = .lst ds) ∧ ds.length ≤ 4000 ∧ ∀ x ∈ ds, Good n x
theorem same_refl : ∀ (n : Nat) (d : D), Good n d → den__law_same n [d, d] = .ok (.sh (.bl true))
  | 0, d, h => h.elim
  | n + 1, d, h => by
    rcases h with rfl | ⟨i, rfl⟩ | ⟨ds, hd, hlen, hx⟩
    · rfl
    · unfold den__law_same
      rw [runD_eq]
      refine wp_ifN rfl ?_
      refine wp_ifN rfl ?_
      refine wp_ifT rfl ?_
      show outR (sSeq (sRet _) _ _) = _
      simp [sSeq, sAsgS, sAsg, sIf, sRet, sRetV, frz, owned, sFor, eOp, eUn, eVar, slt, eC, eCB, eCall, ar, eTup, eLst, eLc, eLc2, eTest, asB, tAndD, tOrD, tNotD, tYesD, aCons, aNil, aStar, itemsOf, iSeq, iFun, R.bind, R.vl, mk, ofO, Val.d, Val.s, Out.ofE, Tg.asg, asgs, wipeE, runD, dIx, dAdd, dSub, dLen, dInt, dIsN, dNotN, D.isNon, rng1, chk, sNx, atI0, atI1, eIxO, eLenO, lendT, noEx, outR, eAnd, eNot, dIsi, tyName, isiB, Ty5.same, dEq]
    · have hr : rngFit (ds.length : Int) = true := rngFit_ok (by omega) (by omega)
      have step : ∀ (d : D), (∀ k, k < ds.length → atI ds (k : Int) = some ds[k]!) → True := fun _ _ => trivial
      have ha : ∀ k (hk : k < ds.length), atI ds (k : Int) = some ds[k] := fun k hk => atI_n hk
      have ih : ∀ k (hk : k < ds.length), den__law_same n [ds[k], ds[k]] = .ok (.sh (.bl true)) := fun k hk => same_refl n _ (hx _ (List.getElem_mem hk))
      unfold den__law_same
      rw [runD_eq]
      rcases hd with rfl | rfl
      · refine wp_ifN rfl ?_
        refine wp_ifN rfl ?_
        refine wp_ifN rfl ?_
        refine wp_ifN rfl ?_
        refine wp_ifN rfl ?_
        refine wp_ifN (by simp [sSeq, sAsgS, sAsg, sIf, sRet, sRetV, frz, owned, sFor, eOp, eUn, eVar, slt, eC, eCB, eCall, ar, eTup, eLst, eLc, eLc2, eTest, asB, tAndD, tOrD, tNotD, tYesD, aCons, aNil, aStar, itemsOf, iSeq, iFun, R.bind, R.vl, mk, ofO, Val.d, Val.s, Out.ofE, Tg.asg, asgs, wipeE, runD, dIx, dAdd, dSub, dLen, dInt, dIsN, dNotN, D.isNon, rng1, chk, sNx, atI0, atI1, eIxO, eLenO, lendT, noEx, dNe]) ?_
        refine wp_forR 0 ds.length (fun k ρ => ∃ g, ρ = [.sh (.tup ds), .sh (.tup ds), g]) (by simp [sSeq, sAsgS, sAsg, sIf, sRet, sRetV, frz, owned, sFor, eOp, eUn, eVar, slt, eC, eCB, eCall, ar, eTup, eLst, eLc, eLc2, eTest, asB, tAndD, tOrD, tNotD, tYesD, aCons, aNil, aStar, itemsOf, iSeq, iFun, R.bind, R.vl, mk, ofO, Val.d, Val.s, Out.ofE, Tg.asg, asgs, wipeE, runD, dIx, dAdd, dSub, dLen, dInt, dIsN, dNotN, D.isNon, rng1, chk, sNx, atI0, atI1, eIxO, eLenO, lendT, noEx, hr]) ?_ ⟨_, rfl⟩ ?_
        · rintro k ρ hk ⟨g, rfl⟩
          rw [Int.zero_add]
          simp [sSeq, sAsgS, sAsg, sIf, sRet, sRetV, frz, owned, sFor, eOp, eUn, eVar, slt, eC, eCB, eCall, ar, eTup, eLst, eLc, eLc2, eTest, asB, tAndD, tOrD, tNotD, tYesD, aCons, aNil, aStar, itemsOf, iSeq, iFun, R.bind, R.vl, mk, ofO, Val.d, Val.s, Out.ofE, Tg.asg, asgs, wipeE, runD, dIx, dAdd, dSub, dLen, dInt, dIsN, dNotN, D.isNon, rng1, chk, sNx, atI0, atI1, eIxO, eLenO, lendT, noEx, turnP, nxP, ha k hk, ih k hk]
        · rintro ρ' ⟨g, rfl⟩
          rfl
      · refine wp_ifN rfl ?_
        refine wp_ifN rfl ?_
        refine wp_ifN rfl ?_
        refine wp_ifN rfl ?_
        refine wp_ifN rfl ?_
        refine wp_ifN (by simp [sSeq, sAsgS, sAsg, sIf, sRet, sRetV, frz, owned, sFor, eOp, eUn, eVar, slt, eC, eCB, eCall, ar, eTup, eLst, eLc, eLc2, eTest, asB, tAndD, tOrD, tNotD, tYesD, aCons, aNil, aStar, itemsOf, iSeq, iFun, R.bind, R.vl, mk, ofO, Val.d, Val.s, Out.ofE, Tg.asg, asgs, wipeE, runD, dIx, dAdd, dSub, dLen, dInt, dIsN, dNotN, D.isNon, rng1, chk, sNx, atI0, atI1, eIxO, eLenO, lendT, noEx, dNe]) ?_
        refine wp_forR 0 ds.length (fun k ρ => ∃ g, ρ = [.sh (.lst ds), .sh (.lst ds), g]) (by simp [sSeq, sAsgS, sAsg, sIf, sRet, sRetV, frz, owned, sFor, eOp, eUn, eVar, slt, eC, eCB, eCall, ar, eTup, eLst, eLc, eLc2, eTest, asB, tAndD, tOrD, tNotD, tYesD, aCons, aNil, aStar, itemsOf, iSeq, iFun, R.bind, R.vl, mk, ofO, Val.d, Val.s, Out.ofE, Tg.asg, asgs, wipeE, runD, dIx, dAdd, dSub, dLen, dInt, dIsN, dNotN, D.isNon, rng1, chk, sNx, atI0, atI1, eIxO, eLenO, lendT, noEx, hr]) ?_ ⟨_, rfl⟩ ?_
        · rintro k ρ hk ⟨g, rfl⟩
          rw [Int.zero_add]
          simp [sSeq, sAsgS, sAsg, sIf, sRet, sRetV, frz, owned, sFor, eOp, eUn, eVar, slt, eC, eCB, eCall, ar, eTup, eLst, eLc, eLc2, eTest, asB, tAndD, tOrD, tNotD, tYesD, aCons, aNil, aStar, itemsOf, iSeq, iFun, R.bind, R.vl, mk, ofO, Val.d, Val.s, Out.ofE, Tg.asg, asgs, wipeE, runD, dIx, dAdd, dSub, dLen, dInt, dIsN, dNotN, D.isNon, rng1, chk, sNx, atI0, atI1, eIxO, eLenO, lendT, noEx, turnP, nxP, ha k hk, ih k hk]
        · rintro ρ' ⟨g, rfl⟩
          rfl
/-! ### entry_terms -/
def stepT (acc : List (Nat × Int)) (x : Hd × Nat × Nat) : List (Nat × Int) := acc.flatMap fun (i, f) => (sterms x.1.2 x.2.1 x.2.2).map fun (n, t) => (i * (1 + x.1.1 * (x.1.2 - 1)) + n, f * t)
def etermsM (xs : List (Hd × Nat × Nat)) : List (Nat × Int) := xs.foldl stepT [(0, 1)]
theorem etermsM_snoc (xs : List (Hd × Nat × Nat)) (x : Hd × Nat × Nat) : etermsM (xs ++ [x]) = stepT (etermsM xs) x := by simp [etermsM, List.foldl_append]
def zD (x : Hd × Nat × Nat) : D := .tup [hD x.1, nD x.2.1, nD x.2.2]
/-- an entry at a hand: dial and sign in range -/
def entOk (x : Hd × Nat × Nat) : Prop := handOk x.1 ∧ x.2.1 < x.1.1 ∧ x.2.2 < x.1.2
theorem sterms_bound (x : Hd × Nat × Nat) (ok : entOk x) : (sterms x.1.2 x.2.1 x.2.2).length ≤ 3 ∧ ∀ t ∈ sterms x.1.2 x.2.1 x.2.2, t.1 < 9 ∧ (t.2 = 1 ∨ t.2 = -1) := by
  obtain ⟨⟨d, s⟩, c, g⟩ := x
  obtain ⟨⟨hd, hs⟩, hc, hg⟩ := ok
  simp only at hd hs hc hg ⊢
  have hc' : c = 0 ∨ c = 1 ∨ c = 2 ∨ c = 3 := by omega
  have hg' : g = 0 ∨ g = 1 ∨ g = 2 := by omega
  rcases hs with rfl | rfl <;> rcases hc' with rfl | rfl | rfl | rfl <;> rcases hg' with rfl | rfl | rfl <;> first | (exfalso; omega) | decide
theorem eterms_bound : ∀ (xs : List (Hd × Nat × Nat)), (∀ x ∈ xs, entOk x) → (etermsM xs).length ≤ 3 ^ xs.length ∧ ∀ t ∈ etermsM xs, t.1 < 9 ^ xs.length ∧ (t.2 = 1 ∨ t.2 = -1) := by
  intro xs
  have key : ∀ (n : Nat) (xs : List (Hd × Nat × Nat)), xs.length = n → (∀ x ∈ xs, entOk x) → (etermsM xs).length ≤ 3 ^ n ∧ ∀ t ∈ etermsM xs, t.1 < 9 ^ n ∧ (t.2 = 1 ∨ t.2 = -1) := by
    intro n
    induction n with
    | zero =>
      intro xs hl _
      rw [List.eq_nil_of_length_eq_zero hl]
      decide
    | succ n ih =>
      intro xs hl ok
      have hne : xs ≠ [] := fun e => by rw [e] at hl; cases hl
      have e := (List.dropLast_concat_getLast hne).symm
      obtain ⟨h1, h2⟩ := ih xs.dropLast (by simp [hl]) fun h hh => ok h (List.dropLast_subset xs hh)
      have okx := ok _ (List.getLast_mem hne)
      obtain ⟨b1, b2⟩ := sterms_bound _ okx
      rw [e, etermsM_snoc]
      generalize xs.getLast hne = x at *
      constructor
      · have h3 := flatMap_len (fun (p : Nat × Int) => (sterms x.1.2 x.2.1 x.2.2).map fun (t : Nat × Int) => (p.1 * (1 + x.1.1 * (x.1.2 - 1)) + t.1, p.2 * t.2)) 3 (etermsM xs.dropLast) fun y _ => by
          rw [List.length_map]; exact b1
        exact Nat.le_trans h3 (by rw [Nat.pow_succ]; exact Nat.mul_le_mul_right 3 h1)
      · intro t ht
        obtain ⟨p, hp, ht⟩ := List.mem_flatMap.mp ht
        obtain ⟨q, hq, rfl⟩ := List.mem_map.mp ht
        obtain ⟨p1, p2⟩ := h2 p hp
        obtain ⟨q1, q2⟩ := b2 q hq
        have hm : 1 + x.1.1 * (x.1.2 - 1) ≤ 9 := by
          obtain ⟨⟨hd, hs⟩, _⟩ := okx
          rcases hd with e | e | e | e <;> rcases hs with e' | e' <;> rw [e, e'] <;> decide
        have hqm : q.1 < 1 + x.1.1 * (x.1.2 - 1) := by
          have := okx
          obtain ⟨⟨d, s⟩, c, g⟩ := x
          obtain ⟨⟨hd, hs⟩, hc, hg⟩ := this
          simp only at hd hs hc hg hq ⊢
          unfold sterms at hq
          split at hq
          · simp at hq; rw [hq]
            simp only
            have : c * (s - 1) + (s - 1) ≤ d * (s - 1) := by rw [← Nat.succ_mul]; exact Nat.mul_le_mul_right _ hc
            omega
          · simp at hq
            rcases hq with rfl | ⟨o, ho, rfl⟩
            · simp only; omega
            · simp only
              have : c * (s - 1) + (s - 1) ≤ d * (s - 1) := by rw [← Nat.succ_mul]; exact Nat.mul_le_mul_right _ hc
              omega
        constructor
        · show p.1 * (1 + x.1.1 * (x.1.2 - 1)) + q.1 < 9 ^ (n + 1)
          have a1 : (p.1 + 1) * (1 + x.1.1 * (x.1.2 - 1)) ≤ 9 ^ n * 9 := Nat.mul_le_mul p1 hm
          rw [Nat.pow_succ]
          rw [Nat.succ_mul] at a1
          omega
        · show p.2 * q.2 = 1 ∨ p.2 * q.2 = -1
          rcases p2 with e | e <;> rcases q2 with e' | e' <;> rw [e, e'] <;> decide
  exact key xs.length xs rfl
theorem entry_terms_eq {xs : List (Hd × Nat × Nat)} (hl : xs.length ≤ 3) (ok : ∀ x ∈ xs, entOk x) :
    den_entry_terms [.tup ((xs.map (·.1)).map hD), nT (xs.map fun x => x.2.1), nT (xs.map fun x => x.2.2)] = .ok (.fr ((etermsM xs).map tD)) := by
  unfold den_entry_terms body_entry_terms
  rw [runD_eq]
  refine wp_seq (ρ' := [.sh (.tup ((xs.map (·.1)).map hD)), .sh (nT (xs.map fun x => x.2.1)), .sh (nT (xs.map fun x => x.2.2)), .ow [tD (0, 1)], .un, .un, .un, .un, .un, .un, .un, .un, .un]) rfl ?_
  refine wp_for zD xs (fun pre ρ => ∃ g4 g5 g6 g7 g8 g9 g10 g11 g12, ρ = [.sh (.tup ((xs.map (·.1)).map hD)), .sh (nT (xs.map fun x => x.2.1)), .sh (nT (xs.map fun x => x.2.2)), .ow ((etermsM pre).map tD), g4, g5, g6, g7, g8, g9, g10, g11, g12]) ?_ ?_ ⟨_, _, _, _, _, _, _, _, _, rfl⟩ ?_
  · have z3 : ∀ xs : List (Hd × Nat × Nat), zip3D ((xs.map (·.1)).map hD) ((xs.map fun x => x.2.1).map nD) ((xs.map fun x => x.2.2).map nD) = xs.map zD := by
      intro xs
      induction xs with
      | nil => rfl
      | cons x xs ih => simp only [List.map_cons, zip3D]; rw [ih]; rfl
    have := z3 xs
    simp [sSeq, sAsgS, sAsg, sIf, sRet, sRetV, frz, owned, sFor, eOp, eUn, eVar, slt, eC, eCB, eCall, ar, eTup, eLst, eLc, eLc2, eTest, asB, tAndD, tOrD, tNotD, tYesD, aCons, aNil, aStar, itemsOf, iSeq, iFun, R.bind, R.vl, mk, ofO, Val.d, Val.s, Out.ofE, Tg.asg, asgs, wipeE, runD, dIx, dAdd, dSub, dLen, dInt, dIsN, dNotN, D.isNon, rng1, chk, sNx, atI0, atI1, eIxO, eLenO, lendT, noEx, zipF, zip3F, kindOf, nT]
    simpa using this
  · rintro pre x post ρ e ⟨g4, g5, g6, g7, g8, g9, g10, g11, g12, rfl⟩
    have okx : entOk x := ok x (by rw [e]; simp)
    have okp : ∀ y ∈ pre, entOk y := fun y hy => ok y (by rw [e]; exact List.mem_append_left _ hy)
    have hpl : pre.length ≤ 2 := by rw [e] at hl; simp at hl; omega
    obtain ⟨b1, b2⟩ := eterms_bound pre okp
    obtain ⟨s1, s2⟩ := sterms_bound x okx
    have b1' : (etermsM pre).length ≤ 9 := Nat.le_trans b1 (Nat.pow_le_pow_right (n := 3) (by decide) hpl)
    have b2' : ∀ t ∈ etermsM pre, t.1 < 81 ∧ (t.2 = 1 ∨ t.2 = -1) := fun t ht => ⟨Nat.lt_of_lt_of_le (b2 t ht).1 (Nat.pow_le_pow_right (n := 9) (by decide) hpl), (b2 t ht).2⟩
    have es : sterms_ok x.1.2 x.2.1 x.2.2 := by
      obtain ⟨⟨hd, hs⟩, hc, hg⟩ := okx
      exact sign_terms_eq _ _ _ hs (by omega) (by omega)
    unfold sterms_ok at es
    have hm : 1 + x.1.1 * (x.1.2 - 1) ≤ 9 ∧ 2 ≤ x.1.2 ∧ x.1.1 ≤ 4 ∧ x.1.2 ≤ 3 := by
      obtain ⟨⟨hd, hs⟩, _⟩ := okx
      rcases hd with e | e | e | e <;> rcases hs with e' | e' <;> rw [e, e'] <;> decide
    rw [etermsM_snoc]
    generalize etermsM pre = acc at *
    obtain ⟨⟨d, s⟩, c, g⟩ := x
    simp only at es hm s1 s2 ⊢
    have hmul : mulFit (d : Int) ((s : Int) - 1) = true := mulFit_ok (by omega) (by omega)
    have hmany : (1 : Int) + (d : Int) * ((s : Int) - 1) = ((1 + d * (s - 1) : Nat) : Int) := by
      rw [Int.natCast_add, Int.natCast_mul, Int.natCast_sub (by omega)]; rfl
    have key : lc2D (.tp [.nm 9, .nm 10]) tYesD (iSeq (eCall 3 den_sign_terms (aCons (eVar 5) (aCons (eVar 6) (aCons (eVar 7) aNil))))) [11, 12] (.tp [.nm 11, .nm 12]) tYesD
        (eTup (aCons (eOp dAdd (eOp dMul (eVar 9) (eVar 8)) (eVar 11)) (aCons (eOp dMul (eVar 10) (eVar 12)) aNil)))
        [.sh (.tup ((xs.map (·.1)).map hD)), .sh (nT (xs.map fun x => x.2.1)), .sh (nT (xs.map fun x => x.2.2)), .sh (.lst (acc.map tD)), .sh (.int d), .sh (.int s), .sh (nD c), .sh (nD g), .sh (.int ((1 + d * (s - 1) : Nat) : Int)), .un, .un, .un, .un] (acc.map tD)
        = .ok ((stepT acc ((d, s), c, g)).map tD) := by
      rw [show (stepT acc ((d, s), c, g)).map tD = acc.flatMap (fun p => (sterms s c g).map fun t => tD (p.1 * (1 + d * (s - 1)) + t.1, p.2 * t.2)) by simp [stepT, List.map_flatMap]; rfl]
      apply lc2D_map
      intro p hp
      refine ⟨_, (sterms s c g).map tD, rfl, rfl, ?_, ?_⟩
      · simp [sSeq, sAsgS, sAsg, sIf, sRet, sRetV, frz, owned, sFor, eOp, eUn, eVar, slt, eC, eCB, eCall, ar, eTup, eLst, eLc, eLc2, eTest, asB, tAndD, tOrD, tNotD, tYesD, aCons, aNil, aStar, itemsOf, iSeq, iFun, R.bind, R.vl, mk, ofO, Val.d, Val.s, Out.ofE, Tg.asg, asgs, wipeE, runD, dIx, dAdd, dSub, dLen, dInt, dIsN, dNotN, D.isNon, rng1, chk, sNx, atI0, atI1, eIxO, eLenO, lendT, noEx, nD, es]
      · apply lcD_map
        intro t ht
        refine ⟨_, .sh (tD (p.1 * (1 + d * (s - 1)) + t.1, p.2 * t.2)), rfl, rfl, ?_, rfl⟩
        obtain ⟨p1, p2⟩ := b2' p hp
        obtain ⟨t1, t2⟩ := s2 t ht
        have m1 : mulFit (p.1 : Int) ((1 + d * (s - 1) : Nat) : Int) = true := mulFit_ok (by omega) (by omega)
        have m2 : mulFit p.2 t.2 = true := mulFit_small (by omega) (by omega)
        generalize (1 + d * (s - 1)) = mm at *
        have hcast : (p.1 : Int) * (mm : Int) + (t.1 : Int) = ((p.1 * mm + t.1 : Nat) : Int) := by
          rw [Int.natCast_add, Int.natCast_mul]
        simp [sSeq, sAsgS, sAsg, sIf, sRet, sRetV, frz, owned, sFor, eOp, eUn, eVar, slt, eC, eCB, eCall, ar, eTup, eLst, eLc, eLc2, eTest, asB, tAndD, tOrD, tNotD, tYesD, aCons, aNil, aStar, itemsOf, iSeq, iFun, R.bind, R.vl, mk, ofO, Val.d, Val.s, Out.ofE, Tg.asg, asgs, wipeE, runD, dIx, dAdd, dSub, dLen, dInt, dIsN, dNotN, D.isNon, rng1, chk, sNx, atI0, atI1, eIxO, eLenO, lendT, noEx, dMul, m1, m2, tD, show fit 2 = true from rfl]
    have hst : (stepT acc ((d, s), c, g)).length ≤ 27 := by
      have h3 := flatMap_len (fun (p : Nat × Int) => (sterms s c g).map fun (t : Nat × Int) => (p.1 * (1 + d * (s - 1)) + t.1, p.2 * t.2)) 3 acc fun y _ => by
        rw [List.length_map]; exact s1
      exact Nat.le_trans h3 (by omega)
    have hf : fit (stepT acc ((d, s), c, g)).length = true := fit_ok (by omega)
    simp only [turnP, zD, hD, Tg.asg, asgs, List.length, List.set, if_true, nxP, sSeq, sAsgS, sAsg, frz, eOp, eC, eVar, slt, R.bind, Val.d, dSub, mk, R.vl, dMul, hmul, chk, dAdd, hmany, Out.ofE, eLc2, iSeq, itemsOf, wipeE, key, List.length_map, hf, Val.s]
    exact ⟨_, _, _, _, _, _, _, _, _, rfl⟩
  · rintro ρ' ⟨g4, g5, g6, g7, g8, g9, g10, g11, g12, rfl⟩
    rfl
end La
namespace La
open PySem Dn L2
/-! ### the terms of an entry are the factors of the places -/
def w1 (x : Hd × Nat × Nat) : List Int := (opts x.1).map fun o => f1 x.1.2 o x.2.1 x.2.2
def stepV (vs : List Int) (x : Hd × Nat × Nat) : List Int := vs.flatMap fun v => (w1 x).map fun t => v * t
def valsM (xs : List (Hd × Nat × Nat)) : List Int := xs.foldl stepV [1]
theorem valsM_snoc (xs : List (Hd × Nat × Nat)) (x : Hd × Nat × Nat) : valsM (xs ++ [x]) = stepV (valsM xs) x := by simp [valsM, List.foldl_append]
theorem hand_terms (x : Hd × Nat × Nat) (ok : entOk x) : sterms x.1.2 x.2.1 x.2.2 = tof 0 (w1 x) ∧ (w1 x).length = 1 + x.1.1 * (x.1.2 - 1) := by
  obtain ⟨⟨d, s⟩, c, g⟩ := x
  obtain ⟨⟨hd, hs⟩, hc, hg⟩ := ok
  simp only at hd hs hc hg ⊢
  have hc' : c = 0 ∨ c = 1 ∨ c = 2 ∨ c = 3 := by omega
  have hg' : g = 0 ∨ g = 1 ∨ g = 2 := by omega
  rcases hd with rfl | rfl | rfl | rfl <;> rcases hs with rfl | rfl <;> rcases hc' with rfl | rfl | rfl | rfl <;> rcases hg' with rfl | rfl | rfl <;> first | (exfalso; omega) | decide
theorem tof_scale (k : Nat) (v : Int) (hv : v ≠ 0) : ∀ (n : Nat) (ws : List Int), tof (k + n) (ws.map fun t => v * t) = (tof n ws).map fun (p : Nat × Int) => (k + p.1, v * p.2)
  | n, [] => rfl
  | n, w :: ws => by
    have ih := tof_scale k v hv (n + 1) ws
    simp only [List.map_cons, tof]
    by_cases h : w = 0
    · subst h
      rw [if_pos (Int.mul_zero v), if_pos rfl]
      exact ih
    · rw [if_neg (fun e => by rcases Int.mul_eq_zero.mp e with e | e; exact hv e; exact h e), if_neg h, List.map_cons]
      congr 1
theorem tof_zero (n : Nat) : ∀ ws : List Int, tof n (ws.map fun t => (0 : Int) * t) = []
  | [] => rfl
  | w :: ws => by
    simp only [List.map_cons, tof, Int.zero_mul, if_true]
    have := tof_zero (n + 1) ws
    simpa using this
theorem tof_mul (ws : List Int) : ∀ (n : Nat) (vs : List Int), tof (n * ws.length) (vs.flatMap fun v => ws.map fun t => v * t) = (tof n vs).flatMap fun (p : Nat × Int) => (tof 0 ws).map fun (q : Nat × Int) => (p.1 * ws.length + q.1, p.2 * q.2)
  | n, [] => rfl
  | n, v :: vs => by
    have ih := tof_mul ws (n + 1) vs
    rw [List.flatMap_cons, tof_app, List.length_map]
    rw [show n * ws.length + ws.length = (n + 1) * ws.length by rw [Nat.succ_mul], ih]
    simp only [tof]
    by_cases h : v = 0
    · subst h
      rw [if_pos rfl, tof_zero, List.nil_append]
    · rw [if_neg h, List.flatMap_cons]
      congr 1
      have := tof_scale (n * ws.length) v h 0 ws
      exact this
theorem eterms_vals {xs : List (Hd × Nat × Nat)} (ok : ∀ x ∈ xs, entOk x) : etermsM xs = tof 0 (valsM xs) := by
  have key : ∀ (post pre : List (Hd × Nat × Nat)), xs = pre ++ post → etermsM pre = tof 0 (valsM pre) → etermsM xs = tof 0 (valsM xs) := by
    intro post
    induction post with
    | nil => intro pre e h; rw [List.append_nil] at e; rw [e]; exact h
    | cons x post ih =>
      intro pre e h
      refine ih (pre ++ [x]) (by rw [e]; simp) ?_
      obtain ⟨h1, h2⟩ := hand_terms x (ok x (by rw [e]; simp))
      rw [etermsM_snoc, valsM_snoc, h]
      have t := tof_mul (w1 x) 0 (valsM pre)
      rw [Nat.zero_mul, h2, ← h1] at t
      rw [stepV, t]; rfl
  exact key xs [] rfl rfl
theorem facP_congr {hs : List Hd} {p q : List Opt} {c g : List Nat} : ∀ k, (∀ j, j < k → p.getD j none = q.getD j none) → facP hs p c g k = facP hs q c g k
  | 0, _ => rfl
  | k + 1, h => by
    unfold facP
    rw [facP_congr k fun j hj => h j (by omega), h k (by omega)]
theorem vals_places (xs : List (Hd × Nat × Nat)) : (placesM (xs.map (·.1))).map (fun p => facP (xs.map (·.1)) p (xs.map fun x => x.2.1) (xs.map fun x => x.2.2) xs.length) = valsM xs := by
  have key : ∀ (post pre : List (Hd × Nat × Nat)), xs = pre ++ post → (placesM (pre.map (·.1))).map (fun p => facP (xs.map (·.1)) p (xs.map fun x => x.2.1) (xs.map fun x => x.2.2) pre.length) = valsM pre →
      (placesM (xs.map (·.1))).map (fun p => facP (xs.map (·.1)) p (xs.map fun x => x.2.1) (xs.map fun x => x.2.2) xs.length) = valsM xs := by
    intro post
    induction post with
    | nil => intro pre e h; rw [List.append_nil] at e; rw [← e] at h; exact h
    | cons x post ih =>
      intro pre e h
      refine ih (pre ++ [x]) (by rw [e]; simp) ?_
      rw [valsM_snoc, ← h, List.map_append, List.map_cons, List.map_nil, placesM_snoc, stepP, stepV]
      simp only [List.map_flatMap, List.flatMap_map, List.map_map, w1]
      have gh : (xs.map (·.1)).getD pre.length (0, 0) = x.1 := by rw [e]; simp [List.getD]
      have gc : (xs.map fun x => x.2.1).getD pre.length 0 = x.2.1 := by rw [e]; simp [List.getD]
      have gg : (xs.map fun x => x.2.2).getD pre.length 0 = x.2.2 := by rw [e]; simp [List.getD]
      rw [List.length_append, List.length_singleton]
      have ml := placesM_mem (pre.map (·.1))
      rw [List.length_map] at ml
      generalize placesM (pre.map (·.1)) = P at *
      have hP : ∀ b ∈ P, ∀ o : Opt, facP (xs.map (·.1)) (b ++ [o]) (xs.map fun x => x.2.1) (xs.map fun x => x.2.2) (pre.length + 1) = facP (xs.map (·.1)) b (xs.map fun x => x.2.1) (xs.map fun x => x.2.2) pre.length * f1 x.1.2 o x.2.1 x.2.2 := by
        intro b hb o
        have hbl := ml b hb
        show facP (xs.map (·.1)) (b ++ [o]) (xs.map fun x => x.2.1) (xs.map fun x => x.2.2) pre.length * f1 ((xs.map (·.1)).getD pre.length (0, 0)).2 ((b ++ [o]).getD pre.length none) ((xs.map fun x => x.2.1).getD pre.length 0) ((xs.map fun x => x.2.2).getD pre.length 0) = _
        rw [gh, gc, gg, show (b ++ [o]).getD pre.length none = o by rw [← hbl]; simp [List.getD]]
        rw [facP_congr (p := b ++ [o]) (q := b) pre.length fun j hj => by
          simp only [List.getD]
          rw [List.getElem?_append_left (by omega)]]
      clear h ml ih
      induction P with
      | nil => rfl
      | cons b P ihP =>
        simp only [List.flatMap_cons]
        rw [ihP fun c hc => hP c (List.mem_cons_of_mem _ hc)]
        congr 1
        refine List.map_congr_left fun o _ => ?_
        exact hP b (by simp) o
  exact key xs [] rfl rfl
/-! ### good data -/
theorem good_int {n : Nat} (i : Int) : Good (n + 1) (.int i) := .inr (.inl ⟨i, rfl⟩)
theorem good_oD {n : Nat} (o : Opt) : Good (n + 2) (oD o) := by
  cases o with
  | none => exact .inl rfl
  | some ab => exact .inr (.inr ⟨_, .inl rfl, by simp, fun x hx => by simp at hx; rcases hx with rfl | rfl <;> exact good_int _⟩)
theorem good_pD {n : Nat} {p : List Opt} (h : p.length ≤ 4000) : Good (n + 3) (pD p) := .inr (.inr ⟨_, .inl rfl, by simpa using h, fun x hx => by
  obtain ⟨o, _, rfl⟩ := List.mem_map.mp hx; exact good_oD o⟩)
theorem good_places {n : Nat} {ps : List (List Opt)} (h : ps.length ≤ 4000) (hp : ∀ p ∈ ps, p.length ≤ 3) : Good (n + 4) (.lst (ps.map pD)) := .inr (.inr ⟨_, .inr rfl, by simpa using h, fun x hx => by
  obtain ⟨o, ho, rfl⟩ := List.mem_map.mp hx; exact good_pD (by have := hp o ho; omega)⟩)
theorem good_terms {n : Nat} {ts : List (Nat × Int)} (h : ts.length ≤ 4000) : Good (n + 3) (.lst (ts.map tD)) := .inr (.inr ⟨_, .inr rfl, by simpa using h, fun x hx => by
  obtain ⟨o, ho, rfl⟩ := List.mem_map.mp hx
  exact .inr (.inr ⟨_, .inl rfl, by simp, fun x hx => by simp at hx; rcases hx with rfl | rfl <;> exact good_int _⟩)⟩)
/-! ### _law_listed -/
theorem placesM_ne (hs : List Hd) : placesM hs ≠ [] := by
  have key : ∀ (hs : List Hd) (acc : List (List Opt)), acc ≠ [] → hs.foldl stepP acc ≠ [] := by
    intro hs
    induction hs with
    | nil => intro acc h; exact h
    | cons h hs ih =>
      intro acc ha
      refine ih _ ?_
      cases acc with
      | nil => exact absurd rfl ha
      | cons a acc => simp [stepP, opts]
  exact key hs [[]] (by simp)
theorem law_listed_eq {hs : List Hd} (hl : hs.length ≤ 3) (ok : ∀ h ∈ hs, handOk h) (hne : hs ≠ []) : den__law_listed [.tup (hs.map hD)] = .ok (.sh (.bl true)) := by
  have e1 := law_places_eq hl ok hne
  have e2 := places_eq hl ok
  have hn := places_small hl ok
  have hg : Good 6 (.lst ((placesM hs).map pD)) := good_places (by omega) fun p hp => by rw [placesM_mem hs p hp]; exact hl
  have hs6 := same_refl 6 _ hg
  have hpn := placesM_ne hs
  generalize placesM hs = P at *
  unfold den__law_listed body__law_listed
  rw [runD_eq]
  refine wp_seq (ρ' := [.sh (.tup (hs.map hD)), .sh (.lst (P.map pD)), .un]) (by simp [sSeq, sAsgS, sAsg, sIf, sRet, sRetV, frz, owned, sFor, eOp, eUn, eVar, slt, eC, eCB, eCall, ar, eTup, eLst, eLc, eLc2, eTest, asB, tAndD, tOrD, tNotD, tYesD, aCons, aNil, aStar, itemsOf, iSeq, iFun, R.bind, R.vl, mk, ofO, Val.d, Val.s, Out.ofE, Tg.asg, asgs, wipeE, runD, dIx, dAdd, dSub, dLen, dInt, dIsN, dNotN, D.isNon, rng1, chk, sNx, atI0, atI1, eIxO, eLenO, lendT, noEx, e1]) ?_
  refine wp_seq (ρ' := [.sh (.tup (hs.map hD)), .sh (.lst (P.map pD)), .ow (P.map pD)]) (by simp [sSeq, sAsgS, sAsg, sIf, sRet, sRetV, frz, owned, sFor, eOp, eUn, eVar, slt, eC, eCB, eCall, ar, eTup, eLst, eLc, eLc2, eTest, asB, tAndD, tOrD, tNotD, tYesD, aCons, aNil, aStar, itemsOf, iSeq, iFun, R.bind, R.vl, mk, ofO, Val.d, Val.s, Out.ofE, Tg.asg, asgs, wipeE, runD, dIx, dAdd, dSub, dLen, dInt, dIsN, dNotN, D.isNon, rng1, chk, sNx, atI0, atI1, eIxO, eLenO, lendT, noEx, e2]) ?_
  refine wp_ifN (by simp [sSeq, sAsgS, sAsg, sIf, sRet, sRetV, frz, owned, sFor, eOp, eUn, eVar, slt, eC, eCB, eCall, ar, eTup, eLst, eLc, eLc2, eTest, asB, tAndD, tOrD, tNotD, tYesD, aCons, aNil, aStar, itemsOf, iSeq, iFun, R.bind, R.vl, mk, ofO, Val.d, Val.s, Out.ofE, Tg.asg, asgs, wipeE, runD, dIx, dAdd, dSub, dLen, dInt, dIsN, dNotN, D.isNon, rng1, chk, sNx, atI0, atI1, eIxO, eLenO, lendT, noEx, hs6]) ?_
  have hpop : (P.map pD) ≠ [] := by simpa using hpn
  refine wp_seq (ρ' := [.sh (.tup (hs.map hD)), .sh (.lst (P.map pD)), .ow (P.map pD).dropLast]) (by simp [sPop, owned, slt, hpn]) ?_
  have hfs : fitS ((P.map pD).dropLast).length = true := fitS_ok (by simp; omega)
  have hr4 : eOp dMul (eTup (aCons (eC .non) aNil)) (eC (.int 4)) [.sh (.tup (hs.map hD)), .sh (.lst (P.map pD)), .ow (P.map pD).dropLast] = .ok (.sh (.tup [.non, .non, .non, .non])) := rfl
  refine wp_seq (ρ' := [.sh (.tup (hs.map hD)), .sh (.lst (P.map pD)), .ow ((P.map pD).dropLast ++ [D.tup [.non, .non, .non, .non]])]) (by
    unfold sApp
    rw [show owned ([.sh (.tup (hs.map hD)), .sh (.lst (P.map pD)), .ow (P.map pD).dropLast] : En) 2 = some (P.map pD).dropLast from rfl]
    dsimp only
    rw [hr4]
    unfold Out.ofE
    dsimp only
    rw [hfs]
    rfl) ?_
  refine wp_seq (ρ' := [.sh (.tup (hs.map hD)), .sh (.lst (P.map pD)), .ow ((P.map pD).dropLast ++ [D.tup [.non, .non, .non, .non]]).reverse]) rfl ?_
  refine wp_ret ?_
  simp [sSeq, sAsgS, sAsg, sIf, sRet, sRetV, frz, owned, sFor, eOp, eUn, eVar, slt, eC, eCB, eCall, ar, eTup, eLst, eLc, eLc2, eTest, asB, tAndD, tOrD, tNotD, tYesD, aCons, aNil, aStar, itemsOf, iSeq, iFun, R.bind, R.vl, mk, ofO, Val.d, Val.s, Out.ofE, Tg.asg, asgs, wipeE, runD, dIx, dAdd, dSub, dLen, dInt, dIsN, dNotN, D.isNon, rng1, chk, sNx, atI0, atI1, eIxO, eLenO, lendT, noEx, e2, hs6]
/-! ### _law_entry_holds -/
theorem law_entry_holds_eq {xs : List (Hd × Nat × Nat)} (hl : xs.length ≤ 3) (ok : ∀ x ∈ xs, entOk x) :
    den__law_entry_holds [.tup ((xs.map (·.1)).map hD), .lst ((placesM (xs.map (·.1))).map pD), nT (xs.map fun x => x.2.1), nT (xs.map fun x => x.2.2)] = .ok (.sh (.bl true)) := by
  have okh : ∀ h ∈ xs.map (·.1), handOk h := fun h hh => by obtain ⟨x, hx, rfl⟩ := List.mem_map.mp hh; exact (ok x hx).1
  have hn := places_small (hs := xs.map (·.1)) (by simpa using hl) okh
  have d := law_due_terms_eq (hs := xs.map (·.1)) (ps := placesM (xs.map (·.1))) (c := xs.map fun x => x.2.1) (g := xs.map fun x => x.2.2) (by simpa using hl) (by omega) (placesM_mem _) (by simp) (by simp)
  rw [List.length_map, vals_places, ← eterms_vals ok] at d
  have t := entry_terms_eq hl ok
  have hb : (etermsM xs).length ≤ 27 := Nat.le_trans (eterms_bound xs ok).1 (Nat.pow_le_pow_right (n := 3) (by decide) hl)
  have hg : Good 6 (.lst ((etermsM xs).map tD)) := good_terms (by omega)
  have hs6 := same_refl 6 _ hg
  have hfs : fitS ((etermsM xs).map tD).length = true := fitS_ok (by simp; omega)
  generalize etermsM xs = T at *
  generalize (placesM (xs.map (·.1))).map pD = K at *
  generalize (xs.map (·.1)).map hD = Hs at *
  generalize nT (xs.map fun x => x.2.1) = C at *
  generalize nT (xs.map fun x => x.2.2) = Gs at *
  unfold den__law_entry_holds body__law_entry_holds
  rw [runD_eq]
  refine wp_seq (ρ' := [.sh (.tup Hs), .sh (.lst K), .sh C, .sh Gs, .sh (.lst (T.map tD)), .un]) (by simp [sSeq, sAsgS, sAsg, sIf, sRet, sRetV, frz, owned, sFor, eOp, eUn, eVar, slt, eC, eCB, eCall, ar, eTup, eLst, eLc, eLc2, eTest, asB, tAndD, tOrD, tNotD, tYesD, aCons, aNil, aStar, itemsOf, iSeq, iFun, R.bind, R.vl, mk, ofO, Val.d, Val.s, Out.ofE, Tg.asg, asgs, wipeE, runD, dIx, dAdd, dSub, dLen, dInt, dIsN, dNotN, D.isNon, rng1, chk, sNx, atI0, atI1, eIxO, eLenO, lendT, noEx, d]) ?_
  refine wp_seq (ρ' := [.sh (.tup Hs), .sh (.lst K), .sh C, .sh Gs, .sh (.lst (T.map tD)), .ow (T.map tD)]) (by simp [sSeq, sAsgS, sAsg, sIf, sRet, sRetV, frz, owned, sFor, eOp, eUn, eVar, slt, eC, eCB, eCall, ar, eTup, eLst, eLc, eLc2, eTest, asB, tAndD, tOrD, tNotD, tYesD, aCons, aNil, aStar, itemsOf, iSeq, iFun, R.bind, R.vl, mk, ofO, Val.d, Val.s, Out.ofE, Tg.asg, asgs, wipeE, runD, dIx, dAdd, dSub, dLen, dInt, dIsN, dNotN, D.isNon, rng1, chk, sNx, atI0, atI1, eIxO, eLenO, lendT, noEx, t]) ?_
  refine wp_ifN (by simp [sSeq, sAsgS, sAsg, sIf, sRet, sRetV, frz, owned, sFor, eOp, eUn, eVar, slt, eC, eCB, eCall, ar, eTup, eLst, eLc, eLc2, eTest, asB, tAndD, tOrD, tNotD, tYesD, aCons, aNil, aStar, itemsOf, iSeq, iFun, R.bind, R.vl, mk, ofO, Val.d, Val.s, Out.ofE, Tg.asg, asgs, wipeE, runD, dIx, dAdd, dSub, dLen, dInt, dIsN, dNotN, D.isNon, rng1, chk, sNx, atI0, atI1, eIxO, eLenO, lendT, noEx, hs6]) ?_
  have hr4 : eTup (aCons (eC (.int 0)) (aCons (eC (.int 7)) aNil)) [.sh (.tup Hs), .sh (.lst K), .sh C, .sh Gs, .sh (.lst (T.map tD)), .ow (T.map tD)] = .ok (.sh (.tup [.int 0, .int 7])) := rfl
  refine wp_seq (ρ' := [.sh (.tup Hs), .sh (.lst K), .sh C, .sh Gs, .sh (.lst (T.map tD)), .ow (T.map tD ++ [D.tup [.int 0, .int 7]])]) (by
    unfold sApp
    rw [show owned ([.sh (.tup Hs), .sh (.lst K), .sh C, .sh Gs, .sh (.lst (T.map tD)), .ow (T.map tD)] : En) 5 = some (T.map tD) from rfl]
    dsimp only
    rw [hr4]
    unfold Out.ofE
    dsimp only
    rw [hfs]
    rfl) ?_
  refine wp_seq (ρ' := [.sh (.tup Hs), .sh (.lst K), .sh C, .sh Gs, .sh (.lst (T.map tD)), .ow (T.map tD ++ [D.tup [.int 0, .int 7]]).reverse]) rfl ?_
  refine wp_ret ?_
  simp [sSeq, sAsgS, sAsg, sIf, sRet, sRetV, frz, owned, sFor, eOp, eUn, eVar, slt, eC, eCB, eCall, ar, eTup, eLst, eLc, eLc2, eTest, asB, tAndD, tOrD, tNotD, tYesD, aCons, aNil, aStar, itemsOf, iSeq, iFun, R.bind, R.vl, mk, ofO, Val.d, Val.s, Out.ofE, Tg.asg, asgs, wipeE, runD, dIx, dAdd, dSub, dLen, dInt, dIsN, dNotN, D.isNon, rng1, chk, sNx, atI0, atI1, eIxO, eLenO, lendT, noEx, t, hs6]
end La
namespace La
open PySem Dn L2
abbrev Ent := Hd × Nat × Nat
/-! ### the factor as a product down the list -/
def facL : List Ent → List Opt → Int
  | x :: xs, o :: p => f1 x.1.2 o x.2.1 x.2.2 * facL xs p
  | _, _ => 1
theorem facL_app : ∀ (As Bs : List Ent) (pa pb : List Opt), As.length = pa.length → facL (As ++ Bs) (pa ++ pb) = facL As pa * facL Bs pb
  | [], Bs, [], pb, _ => by simp [facL]
  | [], Bs, _ :: _, pb, h => by cases h
  | _ :: _, Bs, [], pb, h => by cases h
  | x :: As, Bs, o :: pa, pb, h => by
    show f1 _ _ _ _ * facL (As ++ Bs) (pa ++ pb) = f1 _ _ _ _ * facL As pa * facL Bs pb
    rw [facL_app As Bs pa pb (by simpa using h), Int.mul_assoc]
theorem facP_facL (xs : List Ent) (p : List Opt) (hp : p.length = xs.length) : facP (xs.map (·.1)) p (xs.map fun x => x.2.1) (xs.map fun x => x.2.2) xs.length = facL xs p := by
  have key : ∀ k, k ≤ xs.length → facP (xs.map (·.1)) p (xs.map fun x => x.2.1) (xs.map fun x => x.2.2) k = facL (xs.take k) (p.take k) := by
    intro k
    induction k with
    | zero => intro _; simp [facP, facL]
    | succ k ih =>
      intro hk
      have hx : xs[k]? = some (xs.getD k ((0, 0), 0, 0)) := by simp [List.getD, show k < xs.length by omega]
      rw [take_snoc xs k ((0, 0), 0, 0) (by omega), take_snoc p k none (by omega), facL_app _ _ _ _ (by simp; omega), ← ih (by omega)]
      have hlt : k < xs.length := by omega
      show facP _ p _ _ k * f1 ((xs.map (·.1)).getD k (0, 0)).2 (p.getD k none) ((xs.map fun x => x.2.1).getD k 0) ((xs.map fun x => x.2.2).getD k 0) = _
      rw [show (xs.map (·.1)).getD k (0, 0) = (xs.getD k ((0, 0), 0, 0)).1 by simp [List.getD, hlt],
        show (xs.map fun x => x.2.1).getD k 0 = (xs.getD k ((0, 0), 0, 0)).2.1 by simp [List.getD, hlt], show (xs.map fun x => x.2.2).getD k 0 = (xs.getD k ((0, 0), 0, 0)).2.2 by simp [List.getD, hlt]]
      congr 1
      show _ = _ * 1
      rw [Int.mul_one]
  have := key xs.length (Nat.le_refl _)
  rw [List.take_length] at this
  rw [this]
  congr 1
  rw [← hp, List.take_length]
/-! ### the sum over the signs of a hand -/
def sumTo (f : Nat → Int) : Nat → Int
  | 0 => 0
  | k + 1 => sumTo f k + f k
theorem sumTo_mul (a b : Int) (f : Nat → Int) : ∀ k, sumTo (fun g => a * (f g * b)) k = a * (sumTo f k * b)
  | 0 => by simp [sumTo]
  | k + 1 => by simp only [sumTo]; rw [sumTo_mul a b f k]; rw [Int.add_mul, Int.mul_add]
theorem hand_sum (h : Hd) (ok : handOk h) (c : Nat) (hc : c < h.1) (o : Opt) (ho : o ∈ opts h) : sumTo (fun g => f1 h.2 o c g) h.2 = if o = none then 1 else 0 := by
  have key : ∀ h ∈ ([(1,2),(2,2),(3,2),(4,2),(1,3),(2,3),(3,3),(4,3)] : List Hd), ∀ c ∈ List.range h.1, ∀ o ∈ opts h, sumTo (fun g => f1 h.2 o c g) h.2 = if o = none then 1 else 0 := by decide
  refine key h ?_ c (List.mem_range.mpr hc) o ho
  exact hand_cases (Q := fun h => h ∈ ([(1,2),(2,2),(3,2),(4,2),(1,3),(2,3),(3,3),(4,3)] : List Hd)) h ok (by decide)
theorem sum_leaves (As Bs : List Ent) (h : Hd) (c : Nat) (ok : handOk h) (hc : c < h.1) (pa pb : List Opt) (o : Opt) (ha : As.length = pa.length) (ho : o ∈ opts h) :
    sumTo (fun g => facL (As ++ (h, c, g) :: Bs) (pa ++ o :: pb)) h.2 = if o = none then facL (As ++ Bs) (pa ++ pb) else 0 := by
  have e : (fun g => facL (As ++ (h, c, g) :: Bs) (pa ++ o :: pb)) = fun g => facL As pa * (f1 h.2 o c g * facL Bs pb) := by
    funext g
    rw [facL_app _ _ _ _ ha]; rfl
  rw [e, sumTo_mul, hand_sum h ok c hc o ho, facL_app _ _ _ _ ha]
  split <;> simp
/-! ### adding terms to totals -/
def addAt (l : List Int) (t : Nat × Int) : List Int := l.set t.1 (l.getD t.1 0 + t.2)
theorem addAt_tof : ∀ (vs a b : List Int), b.length = vs.length → (tof a.length vs).foldl addAt (a ++ b) = a ++ List.zipWith (· + ·) b vs
  | [], a, b, h => by rw [List.eq_nil_of_length_eq_zero h]; simp [tof]
  | v :: vs, a, [], h => by cases h
  | v :: vs, a, x :: b, h => by
    have ih := addAt_tof vs (a ++ [x + v]) b (by simpa using h)
    rw [List.length_append, List.length_singleton, List.append_assoc, List.append_assoc] at ih
    simp only [tof]
    by_cases hv : v = 0
    · subst hv
      rw [if_pos rfl]
      simpa using ih
    · rw [if_neg hv, List.foldl_cons]
      have : addAt (a ++ x :: b) (a.length, v) = a ++ ([x + v] ++ b) := by simp [addAt, List.getD]
      rw [this, ih]; simp
theorem addAt_len (l : List Int) (ts : List (Nat × Int)) : (ts.foldl addAt l).length = l.length := by
  induction ts generalizing l with
  | nil => rfl
  | cons t ts ih => rw [List.foldl_cons, ih]; simp [addAt]
theorem tof_lt : ∀ (n : Nat) (vs : List Int), ∀ t ∈ tof n vs, t.1 < n + vs.length
  | n, [], t, h => by simp [tof] at h
  | n, v :: vs, t, h => by
    simp only [tof] at h
    rw [List.length_cons]
    split at h
    · have := tof_lt (n + 1) vs t h; omega
    · rcases List.mem_cons.mp h with rfl | h
      · simp only; omega
      · have := tof_lt (n + 1) vs t h; omega
/-! ### slices -/
theorem take_mid {α : Type} (a b : List α) (n : Nat) (h : a.length = n) : (a ++ b).take n = a := by subst h; simp
theorem drop_mid {α : Type} (a b : List α) (n : Nat) (h : a.length = n) : (a ++ b).drop n = b := by subst h; simp
theorem drop_mid1 {α : Type} (a : List α) (x : α) (b : List α) (n : Nat) (h : a.length = n) : (a ++ x :: b).drop (n + 1) = b := by
  subst h
  rw [show a ++ x :: b = (a ++ [x]) ++ b by simp]
  exact drop_mid _ _ _ (by simp)
theorem cut_to {xs : List D} (j : Nat) : cutD xs none (some (j : Int)) = xs.take j := by
  unfold cutD
  rw [HT.sIx_none, HT.sIx_nat]
  simp [List.take_eq_take_iff]
theorem cut_from {xs : List D} (j : Nat) : cutD xs (some (j : Int)) none = xs.drop j := by
  unfold cutD
  rw [HT.sIx_none, HT.sIx_nat]
  by_cases h : j ≤ xs.length
  · rw [Nat.min_eq_left h, List.take_of_length_le (by simp)]
  · rw [Nat.min_eq_right (by omega)]
    rw [List.drop_eq_nil_of_le (by omega : xs.length ≤ j)]
    simp
theorem placesM_opts : ∀ (Ha : List Hd) (h : Hd) (Hb : List Hd), ∀ p ∈ placesM (Ha ++ h :: Hb), ∃ pa o pb, p = pa ++ o :: pb ∧ pa.length = Ha.length ∧ o ∈ opts h ∧ pb.length = Hb.length := by
  intro Ha h Hb p hp
  have key : ∀ (Hb : List Hd) (acc : List (List Opt)) (n : Nat), (∀ p ∈ acc, ∃ pa o pb, p = pa ++ o :: pb ∧ pa.length = Ha.length ∧ o ∈ opts h ∧ pb.length = n) →
      ∀ p ∈ Hb.foldl stepP acc, ∃ pa o pb, p = pa ++ o :: pb ∧ pa.length = Ha.length ∧ o ∈ opts h ∧ pb.length = n + Hb.length := by
    intro Hb
    induction Hb with
    | nil => intro acc n hacc p hp; exact hacc p hp
    | cons x Hb ih =>
      intro acc n hacc p hp
      obtain ⟨pa, o, pb, e1, e2, e3, e4⟩ := ih (stepP acc x) (n + 1) (fun q hq => by
        obtain ⟨d, hd, hq⟩ := List.mem_flatMap.mp hq
        obtain ⟨o', _, rfl⟩ := List.mem_map.mp hq
        obtain ⟨pa, o, pb, e1, e2, e3, e4⟩ := hacc d hd
        exact ⟨pa, o, pb ++ [o'], by rw [e1]; simp, e2, e3, by simp [e4]⟩) p hp
      exact ⟨pa, o, pb, e1, e2, e3, by rw [e4]; simp; omega⟩
  rw [placesM, List.foldl_append, List.foldl_cons] at hp
  have := key Hb (stepP (Ha.foldl stepP [[]]) h) 0 (fun q hq => by
    obtain ⟨d, hd, hq⟩ := List.mem_flatMap.mp hq
    obtain ⟨o', ho', rfl⟩ := List.mem_map.mp hq
    exact ⟨d, o', [], rfl, placesM_mem Ha d hd, ho', rfl⟩) p hp
  simpa using this
/-! ### _law_hand_leaves -/
theorem hand_leaves_eq {As Bs : List Ent} {h : Hd} {c : Nat} (hl : As.length + 1 + Bs.length ≤ 3) (okA : ∀ x ∈ As, entOk x) (okB : ∀ x ∈ Bs, entOk x) (okh : handOk h) (hc : c < h.1) :
    den__law_hand_leaves [.tup (((As.map (·.1)) ++ h :: Bs.map (·.1)).map hD), .lst ((placesM ((As.map (·.1)) ++ h :: Bs.map (·.1))).map pD), .int (As.length : Int), nT ((As.map fun x => x.2.1) ++ c :: Bs.map fun x => x.2.1), nT ((As ++ Bs).map fun x => x.2.2)] = .ok (.sh (.bl true)) := by
  have okhs : ∀ y ∈ (As.map (·.1)) ++ h :: Bs.map (·.1), handOk y := fun y hy => by
    rcases List.mem_append.mp hy with q | q
    · obtain ⟨x, hx, rfl⟩ := List.mem_map.mp q; exact (okA x hx).1
    · rcases List.mem_cons.mp q with q | q
      · rw [q]; exact okh
      · obtain ⟨x, hx, rfl⟩ := List.mem_map.mp q; exact (okB x hx).1
  have hN := places_small (hs := (As.map (·.1)) ++ h :: Bs.map (·.1)) (by simp; omega) okhs
  have hsplit := placesM_opts (As.map (·.1)) h (Bs.map (·.1))
  have okx : ∀ g, g < h.2 → ∀ x ∈ As ++ (h, c, g) :: Bs, entOk x := fun g hg x hx => by
    rcases List.mem_append.mp hx with q | q
    · exact okA x q
    · rcases List.mem_cons.mp q with q | q
      · rw [q]; exact ⟨okh, hc, hg⟩
      · exact okB x q
  have hxs : ∀ g, ((As ++ (h, c, g) :: Bs).map (·.1)) = (As.map (·.1)) ++ h :: Bs.map (·.1) := fun g => by simp
  have hxc : ∀ g, ((As ++ (h, c, g) :: Bs).map fun x => x.2.1) = (As.map fun x => x.2.1) ++ c :: Bs.map fun x => x.2.1 := fun g => by simp
  have hterms : ∀ g, g < h.2 → den_entry_terms [.tup (((As.map (·.1)) ++ h :: Bs.map (·.1)).map hD), nT ((As.map fun x => x.2.1) ++ c :: Bs.map fun x => x.2.1), nT ((As ++ (h, c, g) :: Bs).map fun x => x.2.2)]
      = .ok (.fr ((tof 0 ((placesM ((As.map (·.1)) ++ h :: Bs.map (·.1))).map fun p => facL (As ++ (h, c, g) :: Bs) p)).map tD)) := fun g hg => by
    have t := entry_terms_eq (xs := As ++ (h, c, g) :: Bs) (by simp; omega) (okx g hg)
    rw [eterms_vals (okx g hg), ← vals_places, hxs, hxc] at t
    rw [t]
    congr 4
    refine List.map_congr_left fun p hp => ?_
    have hpl := placesM_mem _ p hp
    have := facP_facL (As ++ (h, c, g) :: Bs) p (by rw [hpl]; simp)
    rw [hxs, hxc] at this
    exact this
  have hfac : ∀ pa o pb, pa ++ o :: pb ∈ placesM ((As.map (·.1)) ++ h :: Bs.map (·.1)) → pa.length = As.length → pb.length = Bs.length →
      den__law_factor [.tup ((As ++ Bs).map fun x => hD x.1), pD (pa ++ pb), nT ((As ++ Bs).map fun x => x.2.1), nT ((As ++ Bs).map fun x => x.2.2)] = .ok (.sh (.int (facL (As ++ Bs) (pa ++ pb)))) := fun pa o pb _ h1 h2 => by
    have f := law_factor_eq (hs := (As ++ Bs).map (·.1)) (p := pa ++ pb) (c := (As ++ Bs).map fun x => x.2.1) (g := (As ++ Bs).map fun x => x.2.2) (by simp; omega) (by simp [h1, h2]) (by simp) (by simp)
    have e := facP_facL (As ++ Bs) (pa ++ pb) (by simp [h1, h2])
    rw [List.length_map, e] at f
    rw [← f, List.map_map]; rfl
  have hsum := fun pa pb o (h1 : pa.length = As.length) ho => sum_leaves As Bs h c okh hc pa pb o h1.symm ho
  have hH : ((As.map (·.1)) ++ h :: Bs.map (·.1)).map hD = (As.map fun x => hD x.1) ++ hD h :: Bs.map fun x => hD x.1 := by simp [Function.comp_def]
  have hR : ∀ g, (As ++ (h, c, g) :: Bs).map (fun x => x.2.2) = (As.map fun x => x.2.2) ++ g :: Bs.map fun x => x.2.2 := fun g => by simp
  rw [hH] at hterms ⊢
  generalize hPl : placesM ((As.map (·.1)) ++ h :: Bs.map (·.1)) = Pl at *
  unfold den__law_hand_leaves body__law_hand_leaves
  rw [runD_eq]
  refine wp_seq (ρ' := [.sh (.tup ((As.map fun x => hD x.1) ++ hD h :: Bs.map fun x => hD x.1)), .sh (.lst (Pl.map pD)), .sh (.int (As.length : Int)), .sh (nT ((As.map fun x => x.2.1) ++ c :: Bs.map fun x => x.2.1)), .sh (nT ((As ++ Bs).map fun x => x.2.2)), .ow ((Pl.map fun p => sumTo (fun g => facL (As ++ (h, c, g) :: Bs) p) 0).map D.int), .un, .un, .un, .un, .un, .un]) ?_ ?_
  · have hr : repFit 1 (Pl.length : Int) = true := repFit_ok (by omega) (by omega) (by omega)
    have hflat : (List.replicate Pl.length [D.int 0]).flatten = Pl.map fun _ => D.int 0 := by
      clear hPl hN hsplit hterms hfac hr
      induction Pl with
      | nil => rfl
      | cons p Pl ih => rw [List.length_cons, List.replicate_succ, List.flatten_cons, ih]; rfl
    have hcomp : (D.int ∘ fun (p : List Opt) => sumTo (fun g => facL (As ++ (h, c, g) :: Bs) p) 0) = fun _ => D.int 0 := by funext p; rfl
    simp [sSeq, sAsgS, sAsg, sIf, sRet, sRetV, frz, owned, sFor, eOp, eUn, eVar, slt, eC, eCB, eCall, ar, eTup, eLst, eLc, eLc2, eTest, asB, tAndD, tOrD, tNotD, tYesD, aCons, aNil, aStar, itemsOf, iSeq, iFun, R.bind, R.vl, mk, ofO, Val.d, Val.s, Out.ofE, Tg.asg, asgs, wipeE, runD, dIx, dAdd, dSub, dLen, dInt, dIsN, dNotN, D.isNon, rng1, chk, sNx, atI0, atI1, eIxO, eLenO, lendT, noEx, dMul, hr, show fit 1 = true from rfl, hflat, hcomp]
  · refine wp_forR 0 h.2 (fun k ρ => ∃ g6 g7 g8 g9 g10 g11, ρ = [.sh (.tup ((As.map fun x => hD x.1) ++ hD h :: Bs.map fun x => hD x.1)), .sh (.lst (Pl.map pD)), .sh (.int (As.length : Int)), .sh (nT ((As.map fun x => x.2.1) ++ c :: Bs.map fun x => x.2.1)), .sh (nT ((As ++ Bs).map fun x => x.2.2)), .ow ((Pl.map fun p => sumTo (fun g => facL (As ++ (h, c, g) :: Bs) p) k).map D.int), g6, g7, g8, g9, g10, g11]) ?_ ?_ ⟨_, _, _, _, _, _, rfl⟩ ?_
    · have a1 : atI ((As.map fun x => hD x.1) ++ hD h :: Bs.map fun x => hD x.1) (As.length : Int) = some (hD h) := by
        rw [atI_nat (v := hD h)]; simp
      have hr : rngFit (h.2 : Int) = true := by
        obtain ⟨_, h2⟩ := okh
        rcases h2 with e | e <;> rw [e] <;> rfl
      simp only [iFun, aCons, aNil, eOp, eVar, slt, R.bind, dIx, Val.d, a1, ofO, mk, R.vl, eC]
      simp only [hD, atI1, rng1, hr, chk, Int.toNat_natCast]
    · rintro k ρ hk ⟨g6, g7, g8, g9, g10, g11, rfl⟩
      rw [Int.zero_add]
      have t := hterms k hk
      rw [hR k] at t
      have e1 : (iSeq (eCall 3 den_entry_terms (aCons (eVar 0) (aCons (eVar 3) (aCons (eOp dAdd (eOp dAdd (eSl dSl (eVar 4) oNone (oSome (eVar 2))) (eTup (aCons (eVar 6) aNil))) (eSl dSl (eVar 4) (oSome (eVar 2)) oNone)) aNil)))))
          [.sh (.tup ((As.map fun x => hD x.1) ++ hD h :: Bs.map fun x => hD x.1)), .sh (.lst (Pl.map pD)), .sh (.int (As.length : Int)), .sh (nT ((As.map fun x => x.2.1) ++ c :: Bs.map fun x => x.2.1)), .sh (nT ((As ++ Bs).map fun x => x.2.2)), .ow ((Pl.map fun p => sumTo (fun g => facL (As ++ (h, c, g) :: Bs) p) k).map D.int), .sh (.int (k : Int)), g7, g8, g9, g10, g11]
          = .ok ((tof 0 (Pl.map fun p => facL (As ++ (h, c, k) :: Bs) p)).map tD) := by
        have c1 : cutD (((As ++ Bs).map fun x => x.2.2).map nD) none (some (As.length : Int)) = (As.map fun x => x.2.2).map nD := by rw [cut_to, List.map_append, List.map_append]; exact take_mid _ _ _ (by simp)
        have c2 : cutD (((As ++ Bs).map fun x => x.2.2).map nD) (some (As.length : Int)) none = (Bs.map fun x => x.2.2).map nD := by rw [cut_from, List.map_append, List.map_append]; exact drop_mid _ _ _ (by simp)
        have ft1 : fit (As.length + 1) = true := fit_ok (by omega)
        have ft2 : fit (As.length + 1 + Bs.length) = true := fit_ok (by omega)
        have hout : nT ((As.map fun x => x.2.2) ++ k :: Bs.map fun x => x.2.2) = .tup ((As.map fun x => x.2.2).map nD ++ [.int (k : Int)] ++ (Bs.map fun x => x.2.2).map nD) := by simp [nT, nD]
        rw [hout] at t
        simp only [iSeq, eCall, aCons, aNil, eVar, slt, R.bind, eOp, eSl, oNone, oSome, asI, dSl, Val.d, nT, c1, c2, mk, R.vl, eTup, List.length, chk, show fit (0 + 1) = true from rfl, dAdd, List.length_map, ft1, ft2, List.length_append, ar, if_true, itemsOf]
        rw [show (nT ((As.map fun x => x.2.1) ++ c :: Bs.map fun x => x.2.1)) = D.tup (List.map nD ((As.map fun x => x.2.1) ++ c :: Bs.map fun x => x.2.1)) from rfl] at t
        rw [t]
      show nxP (sFor _ _ _ [.sh (.tup ((As.map fun x => hD x.1) ++ hD h :: Bs.map fun x => hD x.1)), .sh (.lst (Pl.map pD)), .sh (.int (As.length : Int)), .sh (nT ((As.map fun x => x.2.1) ++ c :: Bs.map fun x => x.2.1)), .sh (nT ((As ++ Bs).map fun x => x.2.2)), .ow ((Pl.map fun p => sumTo (fun g => facL (As ++ (h, c, g) :: Bs) p) k).map D.int), .sh (.int (k : Int)), g7, g8, g9, g10, g11]) _
      refine np_for1 tD (tof 0 (Pl.map fun p => facL (As ++ (h, c, k) :: Bs) p)) (fun pr ρ => ∃ g10, ρ = [.sh (.tup ((As.map fun x => hD x.1) ++ hD h :: Bs.map fun x => hD x.1)), .sh (.lst (Pl.map pD)), .sh (.int (As.length : Int)), .sh (nT ((As.map fun x => x.2.1) ++ c :: Bs.map fun x => x.2.1)), .sh (nT ((As ++ Bs).map fun x => x.2.2)), .ow ((pr.foldl addAt (Pl.map fun p => sumTo (fun g => facL (As ++ (h, c, g) :: Bs) p) k)).map D.int), .sh (.int (k : Int)), g7, g8, g9, g10, g11]) e1 ?_ ⟨_, rfl⟩ ?_
      · rintro pr t' po ρ e ⟨g10, rfl⟩
        have hlt := tof_lt 0 (Pl.map fun p => facL (As ++ (h, c, k) :: Bs) p) t' (by rw [e]; simp)
        rw [List.foldl_append, List.foldl_cons, List.foldl_nil]
        have hL := addAt_len (Pl.map fun p => sumTo (fun g => facL (As ++ (h, c, g) :: Bs) p) k) pr
        rw [List.length_map] at hL
        generalize pr.foldl addAt (Pl.map fun p => sumTo (fun g => facL (As ++ (h, c, g) :: Bs) p) k) = L at *
        have hlt2 : t'.1 < L.length := by simp at hlt; omega
        have a1 := atI_map D.int L t'.1 0 hlt2
        have ix : ixN (L.map D.int).length (t'.1 : Int) = some t'.1 := Evl.ixN_nat (by simpa using hlt2)
        have hset : (L.map D.int).set t'.1 (D.int (L.getD t'.1 0 + t'.2)) = (addAt L t').map D.int := by simp [addAt]
        generalize L.map D.int = LD at *
        simp only [turnP, tD, Tg.asg, List.set, nxP, sSet, eOp, eIxO, owned, slt, eVar, eC, R.bind, Val.d, dIx, atI0, atI1, ofO, mk, R.vl, a1, dAdd, Out.ofE, ix, hset]
        exact ⟨_, rfl⟩
      · rintro ρ' ⟨g10, rfl⟩
        refine ⟨.sh (.int (k : Int)), g7, g8, g9, g10, g11, ?_⟩
        have := addAt_tof (Pl.map fun p => facL (As ++ (h, c, k) :: Bs) p) [] (Pl.map fun p => sumTo (fun g => facL (As ++ (h, c, g) :: Bs) p) k) (by simp)
        rw [List.length_nil, List.nil_append, List.nil_append] at this
        rw [this]
        have z : List.zipWith (· + ·) (Pl.map fun p => sumTo (fun g => facL (As ++ (h, c, g) :: Bs) p) k) (Pl.map fun p => facL (As ++ (h, c, k) :: Bs) p) = Pl.map fun p => sumTo (fun g => facL (As ++ (h, c, g) :: Bs) p) (k + 1) := by
          clear hPl hN hsplit hterms hfac this t e1
          induction Pl with
          | nil => rfl
          | cons p Pl ih => simp only [List.map_cons, List.zipWith_cons_cons, ih]; rfl
        rw [z]
    · rintro ρ' ⟨g6, g7, g8, g9, g10, g11, rfl⟩
      have c1 : cutD ((As.map fun x => hD x.1) ++ hD h :: Bs.map fun x => hD x.1) none (some (As.length : Int)) = As.map fun x => hD x.1 := by rw [cut_to]; exact take_mid _ _ _ (by simp)
      have c2 : cutD ((As.map fun x => hD x.1) ++ hD h :: Bs.map fun x => hD x.1) (some ((As.length : Int) + 1)) none = Bs.map fun x => hD x.1 := by
        rw [show ((As.length : Int) + 1) = ((As.length + 1 : Nat) : Int) from rfl, cut_from]; exact drop_mid1 _ _ _ _ (by simp)
      have d1 : cutD (((As.map fun x => x.2.1) ++ c :: Bs.map fun x => x.2.1).map nD) none (some (As.length : Int)) = (As.map fun x => x.2.1).map nD := by rw [cut_to, List.map_append]; exact take_mid _ _ _ (by simp)
      have d2 : cutD (((As.map fun x => x.2.1) ++ c :: Bs.map fun x => x.2.1).map nD) (some ((As.length : Int) + 1)) none = (Bs.map fun x => x.2.1).map nD := by
        rw [show ((As.length : Int) + 1) = ((As.length + 1 : Nat) : Int) from rfl, cut_from, List.map_append, List.map_cons]; exact drop_mid1 _ _ _ _ (by simp)
      have ft : fit (As.length + Bs.length) = true := fit_ok (by omega)
      have d3 : (As.map fun x => x.2.1).map nD ++ (Bs.map fun x => x.2.1).map nD = ((As ++ Bs).map fun x => x.2.1).map nD := by simp
      refine wp_seq (ρ' := [.sh (.tup ((As.map fun x => hD x.1) ++ hD h :: Bs.map fun x => hD x.1)), .sh (.lst (Pl.map pD)), .sh (.int (As.length : Int)), .sh (nT ((As.map fun x => x.2.1) ++ c :: Bs.map fun x => x.2.1)), .sh (nT ((As ++ Bs).map fun x => x.2.2)), .ow ((Pl.map fun p => sumTo (fun g => facL (As ++ (h, c, g) :: Bs) p) h.2).map D.int), g6, .sh (.tup ((As ++ Bs).map fun x => hD x.1)), g8, g9, g10, g11]) ?_ ?_
      · simp only [sAsgS, eOp, eSl, eVar, slt, R.bind, oNone, oSome, asI, eC, dAdd, mk, R.vl, dSl, Val.d, c1, c2, chk, List.length_map, ft, Out.ofE, List.set, List.map_append]
      refine wp_seq (ρ' := [.sh (.tup ((As.map fun x => hD x.1) ++ hD h :: Bs.map fun x => hD x.1)), .sh (.lst (Pl.map pD)), .sh (.int (As.length : Int)), .sh (nT ((As.map fun x => x.2.1) ++ c :: Bs.map fun x => x.2.1)), .sh (nT ((As ++ Bs).map fun x => x.2.2)), .ow ((Pl.map fun p => sumTo (fun g => facL (As ++ (h, c, g) :: Bs) p) h.2).map D.int), g6, .sh (.tup ((As ++ Bs).map fun x => hD x.1)), .sh (nT ((As ++ Bs).map fun x => x.2.1)), g9, g10, g11]) ?_ ?_
      · simp only [sAsgS, eOp, eSl, eVar, slt, R.bind, oNone, oSome, asI, eC, dAdd, mk, R.vl, dSl, Val.d, nT, d1, d2, chk, List.length_map, ft, Out.ofE, List.set, d3]
      refine wp_forR 0 Pl.length (fun k ρ => ∃ g9 g11, ρ = [.sh (.tup ((As.map fun x => hD x.1) ++ hD h :: Bs.map fun x => hD x.1)), .sh (.lst (Pl.map pD)), .sh (.int (As.length : Int)), .sh (nT ((As.map fun x => x.2.1) ++ c :: Bs.map fun x => x.2.1)), .sh (nT ((As ++ Bs).map fun x => x.2.2)), .ow ((Pl.map fun p => sumTo (fun g => facL (As ++ (h, c, g) :: Bs) p) h.2).map D.int), g6, .sh (.tup ((As ++ Bs).map fun x => hD x.1)), .sh (nT ((As ++ Bs).map fun x => x.2.1)), g9, g10, g11]) ?_ ?_ ⟨_, _, rfl⟩ ?_
      · have hr : rngFit (Pl.length : Int) = true := rngFit_ok (by omega) (by omega)
        simp [sSeq, sAsgS, sAsg, sIf, sRet, sRetV, frz, owned, sFor, eOp, eUn, eVar, slt, eC, eCB, eCall, ar, eTup, eLst, eLc, eLc2, eTest, asB, tAndD, tOrD, tNotD, tYesD, aCons, aNil, aStar, itemsOf, iSeq, iFun, R.bind, R.vl, mk, ofO, Val.d, Val.s, Out.ofE, Tg.asg, asgs, wipeE, runD, dIx, dAdd, dSub, dLen, dInt, dIsN, dNotN, D.isNon, rng1, chk, sNx, atI0, atI1, eIxO, eLenO, lendT, noEx, hr]
      · rintro k ρ hk ⟨g9, g11, rfl⟩
        rw [Int.zero_add]
        have a1 := atI_map pD Pl k [] hk
        have hmem : Pl.getD k [] ∈ Pl := by simp [List.getD, hk]
        obtain ⟨pa, o, pb, e1, e2, e3, e4⟩ := hsplit _ hmem
        rw [List.length_map] at e2 e4
        rw [e1] at a1 hmem
        have a2 : atI (List.map oD (pa ++ o :: pb)) (As.length : Int) = some (oD o) := by rw [atI_nat (v := oD o)]; simp [← e2]
        have a3 : atI ((Pl.map fun p => sumTo (fun g => facL (As ++ (h, c, g) :: Bs) p) h.2).map D.int) (k : Int) = some (D.int (if o = none then facL (As ++ Bs) (pa ++ pb) else 0)) := by
          have := atI_map (fun p => D.int (sumTo (fun g => facL (As ++ (h, c, g) :: Bs) p) h.2)) Pl k [] hk
          rw [List.map_map]
          show atI (Pl.map fun p => D.int (sumTo (fun g => facL (As ++ (h, c, g) :: Bs) p) h.2)) (k : Int) = _
          rw [this, e1, hsum pa pb o e2 e3]
        have fl := hfac pa o pb hmem e2 e4
        have p1 : cutD (List.map oD (pa ++ o :: pb)) none (some (As.length : Int)) = pa.map oD := by rw [cut_to, List.map_append]; exact take_mid _ _ _ (by simp [e2])
        have p2 : cutD (List.map oD (pa ++ o :: pb)) (some ((As.length : Int) + 1)) none = pb.map oD := by
          rw [show ((As.length : Int) + 1) = ((As.length + 1 : Nat) : Int) from rfl, cut_from, List.map_append, List.map_cons]; exact drop_mid1 _ _ _ _ (by simp [e2])
        have ft2 : fit (pa.length + pb.length) = true := fit_ok (by omega)
        rw [show pD (pa ++ pb) = D.tup (pa.map oD ++ pb.map oD) by simp [pD]] at fl
        generalize ((Pl.map fun p => sumTo (fun g => facL (As ++ (h, c, g) :: Bs) p) h.2).map D.int) = LD at *
        cases o with
        | none =>
          simp only [turnP, Tg.asg, List.set, nxP, sSeq, sAsgS, eC, Out.ofE, Val.d, sIf, eTest, eOp, eVar, slt, R.bind, dIx, a1, ofO, mk, R.vl, pD, a2, oD, dIsN, D.isNon, asB, eCall, aCons, aNil, eSl, oNone, oSome, asI, dSl, p1, p2, dAdd, chk, List.length_map, ft2, ar, List.length, if_true, fl, eIxO, owned, a3, dNe, decide_true, Bool.not_true, sNx]
          exact ⟨_, _, rfl⟩
        | some ab =>
          obtain ⟨a, b⟩ := ab
          simp only [turnP, Tg.asg, List.set, nxP, sSeq, sAsgS, eC, Out.ofE, Val.d, sIf, eTest, eOp, eVar, slt, R.bind, dIx, a1, ofO, mk, R.vl, pD, a2, oD, dIsN, D.isNon, asB, eIxO, owned, a3, dNe, reduceCtorEq, if_false, decide_true, Bool.not_true, sNx]
          exact ⟨_, _, rfl⟩
      · rintro ρ' ⟨g9, g11, rfl⟩
        rfl
end La
namespace La
open PySem Dn L2
/-! ### _law_cell -/
def cellM (ns : List Int) (k : Nat) : Int := if k < ns.length then ns.getD k 0 else 104729 * (k : Int) + (ns.length : Int)
theorem law_cell_eq {ns : List Int} (hl : ns.length ≤ 63) {k : Nat} (hk : k ≤ 4) : den__law_cell [.fz (ns.map D.int), .int (k : Int)] = .ok (.sh (.int (cellM ns k))) := by
  unfold den__law_cell body__law_cell
  rw [runD_eq]
  by_cases h : k < ns.length
  · have a1 := atI_map D.int ns k 0 h
    have hc : cellM ns k = ns.getD k 0 := if_pos h
    simp [sSeq, sAsgS, sAsg, sIf, sRet, sRetV, frz, owned, sFor, eOp, eUn, eVar, slt, eC, eCB, eCall, ar, eTup, eLst, eLc, eLc2, eTest, asB, tAndD, tOrD, tNotD, tYesD, aCons, aNil, aStar, itemsOf, iSeq, iFun, R.bind, R.vl, mk, ofO, Val.d, Val.s, Out.ofE, Tg.asg, asgs, wipeE, runD, dIx, dAdd, dSub, dLen, dInt, dIsN, dNotN, D.isNon, rng1, chk, sNx, atI0, atI1, eIxO, eLenO, lendT, noEx, a1, hc, dLt, h, outR]
  · have hc : cellM ns k = 104729 * (k : Int) + (ns.length : Int) := if_neg h
    have hm : mulFit 104729 (k : Int) = true := mulFit_ok (by decide) (by
      have : (k : Int).natAbs ≤ 4 := by omega
      exact Nat.lt_of_le_of_lt this (by decide))
    simp [sSeq, sAsgS, sAsg, sIf, sRet, sRetV, frz, owned, sFor, eOp, eUn, eVar, slt, eC, eCB, eCall, ar, eTup, eLst, eLc, eLc2, eTest, asB, tAndD, tOrD, tNotD, tYesD, aCons, aNil, aStar, itemsOf, iSeq, iFun, R.bind, R.vl, mk, ofO, Val.d, Val.s, Out.ofE, Tg.asg, asgs, wipeE, runD, dIx, dAdd, dSub, dLen, dInt, dIsN, dNotN, D.isNon, rng1, chk, sNx, atI0, atI1, eIxO, eLenO, lendT, noEx, hc, dLt, h, outR, hm, dMul]
/-! ### _law_plan_count -/
def pcM (hs : List Hd) : Nat := hs.foldl (fun c h => c * h.2 ^ h.1) 1
theorem pcM_snoc (hs : List Hd) (h : Hd) : pcM (hs ++ [h]) = pcM hs * h.2 ^ h.1 := by simp [pcM, List.foldl_append]
theorem pcM_le : ∀ (n : Nat) (hs : List Hd), hs.length = n → (∀ h ∈ hs, handOk h) → pcM hs ≤ 81 ^ n := by
  intro n
  induction n with
  | zero => intro hs hl _; rw [List.eq_nil_of_length_eq_zero hl]; decide
  | succ n ih =>
    intro hs hl ok
    have hne : hs ≠ [] := fun e => by rw [e] at hl; cases hl
    have e := (List.dropLast_concat_getLast hne).symm
    rw [e, pcM_snoc]
    have h1 := ih hs.dropLast (by simp [hl]) fun h hh => ok h (List.dropLast_subset hs hh)
    have h2 : (hs.getLast hne).2 ^ (hs.getLast hne).1 ≤ 81 := hand_cases (Q := fun h => h.2 ^ h.1 ≤ 81) _ (ok _ (List.getLast_mem hne)) (by decide)
    rw [Nat.pow_succ]
    exact Nat.mul_le_mul h1 h2
theorem law_plan_count_eq {hs : List Hd} (hl : hs.length ≤ 3) (ok : ∀ h ∈ hs, handOk h) : den__law_plan_count [.tup (hs.map hD)] = .ok (.sh (.int (pcM hs : Int))) := by
  unfold den__law_plan_count body__law_plan_count
  rw [runD_eq]
  refine wp_seq (ρ' := [.sh (.tup (hs.map hD)), .sh (.int 1), .un, .un]) rfl ?_
  refine wp_for hD hs (fun pre ρ => ∃ g2 g3, ρ = [.sh (.tup (hs.map hD)), .sh (.int (pcM pre : Int)), g2, g3]) rfl ?_ ⟨_, _, rfl⟩ ?_
  · rintro pre x post ρ e ⟨g2, g3, rfl⟩
    have pk := pre_ok e hl ok
    have hb := pcM_le pre.length pre rfl pk.2.2.2.1
    have hb2 : pcM pre ≤ 81 ^ 3 := Nat.le_trans hb (Nat.pow_le_pow_right (by decide) pk.2.2.2.2)
    have hx := pk.1
    show nxP (sFor _ _ _ [.sh (.tup (hs.map hD)), .sh (.int (pcM pre : Int)), .sh (hD x), g3]) _
    refine np_for1 nD (List.range x.1) (fun pr ρ => ∃ g3, ρ = [.sh (.tup (hs.map hD)), .sh (.int ((pcM pre * x.2 ^ pr.length : Nat) : Int)), .sh (hD x), g3]) ?_ ?_ ⟨g3, by simp⟩ ?_
    · have hr : rngFit (x.1 : Int) = true := by rcases hx.1 with e | e | e | e <;> rw [e] <;> rfl
      simp [sSeq, sAsgS, sAsg, sIf, sRet, sRetV, frz, owned, sFor, eOp, eUn, eVar, slt, eC, eCB, eCall, ar, eTup, eLst, eLc, eLc2, eTest, asB, tAndD, tOrD, tNotD, tYesD, aCons, aNil, aStar, itemsOf, iSeq, iFun, R.bind, R.vl, mk, ofO, Val.d, Val.s, Out.ofE, Tg.asg, asgs, wipeE, runD, dIx, dAdd, dSub, dLen, dInt, dIsN, dNotN, D.isNon, rng1, chk, sNx, atI0, atI1, eIxO, eLenO, lendT, noEx, hD, hr, rangeD_nat]
    · rintro pr y po ρ e2 ⟨g3, rfl⟩
      have hlen : pr.length < x.1 := by
        have := congrArg List.length e2
        rw [List.length_range, List.length_append, List.length_cons] at this
        omega
      have hq : x.2 ^ pr.length ≤ 3 ^ 4 := Nat.le_trans (Nat.pow_le_pow_left (by rcases hx.2 with e | e <;> omega) _) (Nat.pow_le_pow_right (by decide) (by rcases hx.1 with e | e | e | e <;> omega))
      have hm : mulFit ((pcM pre * x.2 ^ pr.length : Nat) : Int) (x.2 : Int) = true := mulFit_ok (by
        have := Nat.mul_le_mul hb2 hq
        rw [Int.natAbs_natCast]
        exact Nat.lt_of_le_of_lt this (by decide)) (by
        rw [Int.natAbs_natCast]
        rcases hx.2 with e | e <;> rw [e] <;> decide)
      have hp : ((pcM pre * x.2 ^ pr.length : Nat) : Int) * (x.2 : Int) = ((pcM pre * x.2 ^ (pr ++ [y]).length : Nat) : Int) := by
        rw [← Int.natCast_mul, List.length_append, List.length_singleton, Nat.pow_succ, Nat.mul_assoc]
      generalize ((pcM pre * x.2 ^ (pr ++ [y]).length : Nat) : Int) = z at *
      generalize ((pcM pre * x.2 ^ pr.length : Nat) : Int) = z0 at *
      simp [sSeq, sAsgS, sAsg, sIf, sRet, sRetV, frz, owned, sFor, eOp, eUn, eVar, slt, eC, eCB, eCall, ar, eTup, eLst, eLc, eLc2, eTest, asB, tAndD, tOrD, tNotD, tYesD, aCons, aNil, aStar, itemsOf, iSeq, iFun, R.bind, R.vl, mk, ofO, Val.d, Val.s, Out.ofE, Tg.asg, asgs, wipeE, runD, dIx, dAdd, dSub, dLen, dInt, dIsN, dNotN, D.isNon, rng1, chk, sNx, atI0, atI1, eIxO, eLenO, lendT, noEx, turnP, nxP, nD, hD, dMul, hm, hp]
    · rintro ρ' ⟨g3, rfl⟩
      exact ⟨_, g3, by rw [List.length_range, ← pcM_snoc]⟩
  · rintro ρ' ⟨g2, g3, rfl⟩
    rfl
/-! ### _law_smaller -/
def okHand : D → Bool
  | .tup [.int (.ofNat a), .int (.ofNat b)] => (a == 1 || a == 2 || a == 3 || a == 4) && (b == 2 || b == 3)
  | _ => false
def okTo (n : Nat) : R Val → Bool
  | .ok (.sh (.tup l)) => l.length == n && l.all okHand
  | _ => false
def eight : List Hd := [(1,2),(2,2),(3,2),(4,2),(1,3),(2,3),(3,3),(4,3)]
theorem small1 : ∀ a ∈ eight, okTo 1 (den__law_smaller [.tup [hD a]]) = true := by decide +kernel
theorem small2 : ∀ a ∈ eight, ∀ b ∈ eight, okTo 2 (den__law_smaller [.tup [hD a, hD b]]) = true := by decide +kernel
theorem small3 : ∀ a ∈ eight, ∀ b ∈ eight, ∀ c ∈ eight, okTo 3 (den__law_smaller [.tup [hD a, hD b, hD c]]) = true := by decide +kernel
theorem eight_of (h : Hd) (ok : handOk h) : h ∈ eight := hand_cases (Q := fun h => h ∈ eight) h ok (by decide)
theorem okHand_ex : ∀ d, okHand d = true → ∃ h, d = hD h ∧ handOk h := by
  intro d h
  unfold okHand at h
  split at h
  · next a b =>
    refine ⟨(a, b), rfl, ?_⟩
    simp at h
    unfold handOk
    simp only
    omega
  · cases h
theorem okTo_ex {n : Nat} {r : R Val} (h : okTo n r = true) : ∃ hs : List Hd, r = .ok (.sh (.tup (hs.map hD))) ∧ hs.length = n ∧ ∀ h ∈ hs, handOk h := by
  unfold okTo at h
  split at h
  · next l =>
    simp only [Bool.and_eq_true, beq_iff_eq] at h
    obtain ⟨h1, h2⟩ := h
    have key : ∀ l : List D, l.all okHand = true → ∃ hs : List Hd, l = hs.map hD ∧ ∀ h ∈ hs, handOk h := by
      intro l
      induction l with
      | nil => intro _; exact ⟨[], rfl, by simp⟩
      | cons d l ih =>
        intro h
        rw [List.all_cons, Bool.and_eq_true] at h
        obtain ⟨hs, e, ok⟩ := ih h.2
        obtain ⟨x, e2, ok2⟩ := okHand_ex d h.1
        refine ⟨x :: hs, by rw [e, e2]; rfl, fun y hy => ?_⟩
        rcases List.mem_cons.mp hy with rfl | hy
        · exact ok2
        · exact ok y hy
    obtain ⟨hs, e, ok⟩ := key l h2
    exact ⟨hs, by rw [e], by rw [← h1, e, List.length_map], ok⟩
  · cases h
theorem law_smaller_eq {hs : List Hd} (hl : hs.length ≤ 3) (hne : hs ≠ []) (ok : ∀ h ∈ hs, handOk h) :
    ∃ hs' : List Hd, den__law_smaller [.tup (hs.map hD)] = .ok (.sh (.tup (hs'.map hD))) ∧ hs'.length = hs.length ∧ ∀ h ∈ hs', handOk h := by
  match hs, hl, hne, ok with
  | [a], _, _, ok => exact okTo_ex (small1 a (eight_of a (ok a (by simp))))
  | [a, b], _, _, ok => exact okTo_ex (small2 a (eight_of a (ok a (by simp))) b (eight_of b (ok b (by simp))))
  | [a, b, c], _, _, ok => exact okTo_ex (small3 a (eight_of a (ok a (by simp))) b (eight_of b (ok b (by simp))) c (eight_of c (ok c (by simp))))
  | _ :: _ :: _ :: _ :: _, hl, _, _ => simp at hl
/-! ### tuples and entries -/
def lt2 : List Nat → List Nat → Prop
  | [], [] => True
  | x :: xs, n :: ns => x < n ∧ lt2 xs ns
  | _, _ => False
theorem lt2_snoc : ∀ (xs ns : List Nat) (x n : Nat), lt2 xs ns → x < n → lt2 (xs ++ [x]) (ns ++ [n])
  | [], [], x, n, _, h => ⟨h, trivial⟩
  | [], _ :: _, _, _, h, _ => h.elim
  | _ :: _, [], _, _, h, _ => h.elim
  | _ :: xs, _ :: ns, x, n, h, hx => ⟨h.1, lt2_snoc xs ns x n h.2 hx⟩
theorem lt2_app : ∀ (na nb b : List Nat), lt2 b (na ++ nb) → ∃ ba bb, b = ba ++ bb ∧ lt2 ba na ∧ lt2 bb nb
  | [], nb, b, h => ⟨[], b, rfl, trivial, h⟩
  | n :: na, nb, [], h => h.elim
  | n :: na, nb, x :: b, h => by
    obtain ⟨ba, bb, e, h1, h2⟩ := lt2_app na nb b h.2
    exact ⟨x :: ba, bb, by rw [e]; rfl, ⟨h.1, h1⟩, h2⟩
theorem lt2_cons : ∀ (n : Nat) (nb b : List Nat), lt2 b (n :: nb) → ∃ x bb, b = x :: bb ∧ x < n ∧ lt2 bb nb
  | n, nb, [], h => h.elim
  | n, nb, x :: b, h => ⟨x, b, rfl, h.1, h.2⟩
theorem tupsM_lt : ∀ (ns : List Nat), ∀ b ∈ tupsM ns, lt2 b ns := by
  have key : ∀ (ns : List Nat) (acc : List (List Nat)) (ds : List Nat), (∀ b ∈ acc, lt2 b ds) → ∀ b ∈ ns.foldl stepN acc, lt2 b (ds ++ ns) := by
    intro ns
    induction ns with
    | nil => intro acc ds h b hb; rw [List.append_nil]; exact h b hb
    | cons n ns ih =>
      intro acc ds h b hb
      have := ih (stepN acc n) (ds ++ [n]) (fun c hc => by
        obtain ⟨d, hd, hc⟩ := List.mem_flatMap.mp hc
        obtain ⟨k, hk, rfl⟩ := List.mem_map.mp hc
        exact lt2_snoc _ _ _ _ (h d hd) (List.mem_range.mp hk)) b hb
      rw [List.append_assoc] at this
      exact this
  intro ns b hb
  exact key ns [[]] [] (by intro b hb; simp at hb; subst hb; trivial) b hb
theorem ents_of : ∀ (hs : List Hd) (c g : List Nat), lt2 c (hs.map (·.1)) → lt2 g (hs.map (·.2)) → (∀ h ∈ hs, handOk h) →
    ∃ xs : List Ent, xs.map (·.1) = hs ∧ (xs.map fun x => x.2.1) = c ∧ (xs.map fun x => x.2.2) = g ∧ ∀ x ∈ xs, entOk x
  | [], [], [], _, _, _ => ⟨[], rfl, rfl, rfl, by simp⟩
  | [], _ :: _, _, h, _, _ => h.elim
  | [], [], _ :: _, _, h, _ => h.elim
  | _ :: _, [], _, h, _, _ => h.elim
  | _ :: _, _ :: _, [], _, h, _ => h.elim
  | h :: hs, c :: cs, g :: gs, hc, hg, ok => by
    obtain ⟨xs, e1, e2, e3, o⟩ := ents_of hs cs gs hc.2 hg.2 fun y hy => ok y (List.mem_cons_of_mem _ hy)
    refine ⟨(h, c, g) :: xs, by rw [List.map_cons, e1], by rw [List.map_cons, e2], by rw [List.map_cons, e3], fun x hx => ?_⟩
    rcases List.mem_cons.mp hx with rfl | hx
    · exact ⟨ok h (by simp), hc.1, hg.1⟩
    · exact o x hx
theorem lt2_len : ∀ (b ns : List Nat), lt2 b ns → b.length = ns.length
  | [], [], _ => rfl
  | [], _ :: _, h => h.elim
  | _ :: _, [], h => h.elim
  | _ :: b, _ :: ns, h => by rw [List.length_cons, List.length_cons, lt2_len b ns h.2]
end La
namespace La
open PySem Dn L2
/-! ### _law_hands -/
def HsOk (hs : List Hd) : Prop := hs.length ≤ 3 ∧ hs ≠ [] ∧ ∀ h ∈ hs, handOk h
theorem hands_n (z : Int) : ∃ n : Nat, (n = 1 ∨ n = 2 ∨ n = 3) ∧ atI ([.int 2, .int 3, .int 2, .int 1, .int 2, .int 2] : List D) (z % 6) = some (.int (n : Int)) := by
  have : z % 6 = 0 ∨ z % 6 = 1 ∨ z % 6 = 2 ∨ z % 6 = 3 ∨ z % 6 = 4 ∨ z % 6 = 5 := by omega
  rcases this with e | e | e | e | e | e <;> rw [e]
  · exact ⟨2, .inr (.inl rfl), rfl⟩
  · exact ⟨3, .inr (.inr rfl), rfl⟩
  · exact ⟨2, .inr (.inl rfl), rfl⟩
  · exact ⟨1, .inl rfl, rfl⟩
  · exact ⟨2, .inr (.inl rfl), rfl⟩
  · exact ⟨2, .inr (.inl rfl), rfl⟩
theorem hands_digits (r : Int) : ∃ h : Hd, handOk h ∧ 1 + (r + 1) % 4 = (h.1 : Int) ∧ 2 + r / 4 % 4 / 3 = (h.2 : Int) := by
  refine ⟨((1 + (r + 1) % 4).toNat, (2 + r / 4 % 4 / 3).toNat), ⟨?_, ?_⟩, ?_, ?_⟩ <;> simp only <;> omega
theorem tt_T {inst : Decidable True} {r : R Val} : @tt True inst r = r := tt_pos trivial
theorem law_hands_ex (z : Int) : ∃ v, den__law_hands [.int z, .int 64] = v ∧ ∃ hs : List Hd, HsOk hs ∧ v = .ok (.sh (.tup (hs.map hD))) := by
  obtain ⟨n, hn, a6⟩ := hands_n z
  have d6 : divFit z 6 = true := divFit_ok (by decide) (by decide)
  have hr : rngFit (n : Int) = true := by rcases hn with e | e | e <;> rw [e] <;> rfl
  have s1 : (iFun rng1 (aCons (eOp dIx (eLst (aCons (eC (.int 2)) (aCons (eC (.int 3)) (aCons (eC (.int 2)) (aCons (eC (.int 1)) (aCons (eC (.int 2)) (aCons (eC (.int 2)) aNil))))))) (eOp dMod (eCB dInt (aCons (eVar 0) aNil)) (eC (.int 6)))) aNil)) [.sh (.int z), .sh (.int 64), .sh (.tup []), .sh (.int (z / 6)), .un] = .ok (rangeD 0 n) := by
    simp [sSeq, sAsgS, sAsg, sIf, sRet, sRetV, frz, owned, sFor, eOp, eUn, eVar, slt, eC, eCB, eCall, ar, eTup, eLst, eLc, eLc2, eTest, asB, tAndD, tOrD, tNotD, tYesD, aCons, aNil, aStar, itemsOf, iSeq, iFun, R.bind, R.vl, mk, ofO, Val.d, Val.s, Out.ofE, Tg.asg, asgs, wipeE, runD, dIx, dAdd, dSub, dLen, dInt, dIsN, dNotN, D.isNon, rng1, chk, sNx, atI0, atI1, eIxO, eLenO, lendT, noEx, dMod, tt_T, a6, hr, show fit 6 = true from rfl]
  obtain ⟨ρ1, l1, hs, g4, r, e1, hlen, ok⟩ := loop_range (t := .nm 4) (lo := 0) (n := n) (fun k ρ => ∃ (hs : List Hd) (g4 : Sl) (r : Int), ρ = [.sh (.int z), .sh (.int 64), .sh (.tup (hs.map hD)), .sh (.int r), g4] ∧ hs.length = k ∧ ∀ h ∈ hs, handOk h)
    (body := sSeq (frz 2 (sAsg 2 (eOp dAdd (eVar 2) (eTup (aCons (eTup (aCons (eOp dAdd (eC (.int 1)) (eOp dMod (eCB dInt (aCons (eOp dAdd (eVar 3) (eC (.int 1))) aNil)) (eC (.int 4)))) (aCons (eOp dAdd (eC (.int 2)) (eOp dFdv (eOp dMod (eCB dInt (aCons (eOp dFdv (eVar 3) (eC (.int 4))) aNil)) (eC (.int 4))) (eC (.int 3)))) aNil))) aNil)))))
      (sAsgS 3 (eOp dFdv (eVar 3) (eC (.int 16)))))
    (ρ := [.sh (.int z), .sh (.int 64), .sh (.tup []), .sh (.int (z / 6)), .un]) (by
      rintro k ρ hk ⟨hs, g4, r, rfl, hlen, ok⟩
      obtain ⟨h, okh, x1, x2⟩ := hands_digits r
      have v4 : divFit r 4 = true := divFit_ok (by decide) (by decide)
      have v16 : divFit r 16 = true := divFit_ok (by decide) (by decide)
      have v3 : divFit (r / 4 % 4) 3 = true := divFit_ok (by decide) (by decide)
      have ft : fit (hs.length + 1) = true := fit_ok (by omega)
      have goal : ∃ (hs' : List Hd) (g4' : Sl) (r' : Int), ([.sh (.int z), .sh (.int 64), .sh (.tup (hs.map hD ++ [hD h])), .sh (.int (r / 16)), .sh (.int (0 + (k : Int)))] : En) = [.sh (.int z), .sh (.int 64), .sh (.tup (hs'.map hD)), .sh (.int r'), g4'] ∧ hs'.length = k + 1 ∧ ∀ h ∈ hs', handOk h :=
        ⟨hs ++ [h], _, _, by rw [List.map_append]; rfl, by rw [List.length_append, hlen]; rfl, fun y hy => by
          rcases List.mem_append.mp hy with hy | hy
          · exact ok y hy
          · rw [List.mem_singleton.mp hy]; exact okh⟩
      simp only [turnP, Tg.asg, List.set, nxP, sSeq, frz, slt, sAsg, sAsgS, eOp, eVar, eTup, eC, eCB, aCons, aNil, R.bind, Val.d, dAdd, dMod, dFdv, dInt, mk, R.vl, tt_pos (show (0 : Int) < 4 by decide), v4, v16, v3, chk, x1, x2, List.length, List.length_map, ft, show fit 1 = true from rfl, show fit 2 = true from rfl, show fit (0 + 1) = true from rfl, show fit (0 + 1 + 1) = true from rfl, Out.ofE, Val.s, List.map_nil]
      exact goal) ⟨[], _, _, rfl, rfl, by simp⟩
  have hne : hs ≠ [] := fun e => by rw [e] at hlen; simp at hlen; omega
  obtain ⟨ρ2, l2, hs2, g42, e2, hlen2, ok2⟩ := loop_range (t := .nm 4) (lo := 0) (n := 12) (fun k ρ => ∃ (hs' : List Hd) (g4 : Sl), ρ = [.sh (.int z), .sh (.int 64), .sh (.tup (hs'.map hD)), .sh (.int r), g4] ∧ hs'.length = hs.length ∧ ∀ h ∈ hs', handOk h)
    (body := sIf (lendT 2 (eTest (eOp dGt (eCall 1 den__law_plan_count (aCons (eVar 2) aNil)) (eVar 1)))) (frz 2 (sAsg 2 (eCall 1 den__law_smaller (aCons (eVar 2) aNil)))) sNx)
    (ρ := ρ1) (by
      rintro k ρ hk ⟨hs', g4, rfl, hl', ok'⟩
      have hne' : hs' ≠ [] := fun e => by rw [e] at hl'; exact hne (List.eq_nil_of_length_eq_zero (by simpa using hl'.symm))
      have pc := law_plan_count_eq (hs := hs') (by omega) ok'
      obtain ⟨hs'', sm, sl, so⟩ := law_smaller_eq (hs := hs') (by omega) hne' ok'
      cases hb : decide ((64 : Int) < (pcM hs' : Int)) with
      | true =>
        simp only [turnP, Tg.asg, List.set, nxP, sIf, lendT, slt, eTest, eOp, eCall, aCons, aNil, ar, eVar, R.bind, Val.d, List.length, if_true, pc, dGt, mk, R.vl, hb, asB, frz, sAsg, sm, Out.ofE, Val.s]
        exact ⟨hs'', _, rfl, by omega, so⟩
      | false =>
        simp only [turnP, Tg.asg, List.set, nxP, sIf, lendT, slt, eTest, eOp, eCall, aCons, aNil, ar, eVar, R.bind, Val.d, List.length, if_true, pc, dGt, mk, R.vl, hb, asB, sNx]
        exact ⟨hs', _, rfl, hl', ok'⟩) ⟨hs, _, e1, rfl, ok⟩
  refine ⟨.ok (.sh (.tup (hs2.map hD))), ?_, hs2, ⟨by omega, fun e => by rw [e] at hlen2; exact hne (List.eq_nil_of_length_eq_zero (by simpa using hlen2.symm)), ok2⟩, rfl⟩
  unfold den__law_hands body__law_hands
  rw [runD_eq]
  refine wp_seq (ρ' := [.sh (.int z), .sh (.int 64), .sh (.tup []), .un, .un]) rfl ?_
  refine wp_seq (ρ' := [.sh (.int z), .sh (.int 64), .sh (.tup []), .sh (.int (z / 6)), .un]) ?_ ?_
  · simp [sSeq, sAsgS, sAsg, sIf, sRet, sRetV, frz, owned, sFor, eOp, eUn, eVar, slt, eC, eCB, eCall, ar, eTup, eLst, eLc, eLc2, eTest, asB, tAndD, tOrD, tNotD, tYesD, aCons, aNil, aStar, itemsOf, iSeq, iFun, R.bind, R.vl, mk, ofO, Val.d, Val.s, Out.ofE, Tg.asg, asgs, wipeE, runD, dIx, dAdd, dSub, dLen, dInt, dIsN, dNotN, D.isNon, rng1, chk, sNx, atI0, atI1, eIxO, eLenO, lendT, noEx, dFdv, d6]
  refine wp_seq (ρ' := ρ1) ?_ ?_
  · unfold sFor
    rw [s1]
    exact l1
  refine wp_seq (ρ' := ρ2) ?_ ?_
  · unfold sFor
    rw [show (iFun rng1 (aCons (eC (.int 12)) aNil)) ρ1 = .ok (rangeD 0 (12 : Nat)) from rfl]
    exact l2
  · rw [e2]; rfl
/-! ### _law_cancels -/
theorem law_tuples_d {ns : List Nat} (hl : ns.length ≤ 3) (ok : ∀ h ∈ ns, h ≤ 4) : ∃ v, den__law_tuples [.lst (ns.map nD)] = .ok v ∧ v.d = .lst ((tupsM ns).map nT) := by
  by_cases h : ns = []
  · subst h
    exact ⟨_, rfl, rfl⟩
  · exact ⟨_, law_tuples_eq hl ok h, rfl⟩
theorem law_cancels_eq {Ha Hb : List Hd} {h : Hd} (hl : Ha.length + 1 + Hb.length ≤ 3) (ok : ∀ y ∈ Ha ++ h :: Hb, handOk y) :
    den__law_cancels [.tup ((Ha ++ h :: Hb).map hD), .lst ((placesM (Ha ++ h :: Hb)).map pD), .int (Ha.length : Int)] = .ok (.sh (.bl true)) := by
  have hs := law_signs_eq (hs := Ha ++ h :: Hb) (by simp; omega)
  have hc := law_counts_eq (hs := Ha ++ h :: Hb) (by simp; omega)
  have le4 : ∀ y ∈ Ha ++ h :: Hb, y.1 ≤ 4 ∧ y.2 ≤ 4 := fun y hy => by
    obtain ⟨a, b⟩ := ok y hy
    omega
  have t1 := law_tuples_eq (hs := (Ha ++ h :: Hb).map (·.1)) (by simp; omega) (fun n hn => by obtain ⟨y, hy, rfl⟩ := List.mem_map.mp hn; exact (le4 y hy).1) (by simp)
  obtain ⟨v2, t2, d2⟩ := law_tuples_d (ns := Ha.map (·.2) ++ Hb.map (·.2)) (by simp; omega) (fun n hn => by
    rcases List.mem_append.mp hn with hn | hn
    · obtain ⟨y, hy, rfl⟩ := List.mem_map.mp hn; exact (le4 y (List.mem_append_left _ hy)).2
    · obtain ⟨y, hy, rfl⟩ := List.mem_map.mp hn; exact (le4 y (List.mem_append_right _ (List.mem_cons_of_mem _ hy))).2)
  have leaves : ∀ c ∈ tupsM ((Ha ++ h :: Hb).map (·.1)), ∀ r ∈ tupsM (Ha.map (·.2) ++ Hb.map (·.2)),
      den__law_hand_leaves [.tup ((Ha ++ h :: Hb).map hD), .lst ((placesM (Ha ++ h :: Hb)).map pD), .int (Ha.length : Int), nT c, nT r] = .ok (.sh (.bl true)) := by
    intro c hcm r hrm
    have a1 := tupsM_lt _ c hcm
    have a2 := tupsM_lt _ r hrm
    rw [List.map_append] at a1
    obtain ⟨ca, cb, rfl, b1, b2⟩ := lt2_app _ _ _ a1
    obtain ⟨c0, cb, rfl, b3, b4⟩ := lt2_cons _ _ _ b2
    obtain ⟨ra, rb, rfl, b5, b6⟩ := lt2_app _ _ _ a2
    obtain ⟨As, e1, e2, e3, o1⟩ := ents_of Ha ca ra b1 b5 fun y hy => ok y (List.mem_append_left _ hy)
    obtain ⟨Bs, f1, f2, f3, o2⟩ := ents_of Hb cb rb b4 b6 fun y hy => ok y (List.mem_append_right _ (List.mem_cons_of_mem _ hy))
    have := hand_leaves_eq (As := As) (Bs := Bs) (h := h) (c := c0) (by rw [← e1, ← f1] at hl; simpa using hl) o1 o2 (ok h (by simp)) b3
    have eL : As.length = Ha.length := by rw [← e1, List.length_map]
    have eR : (As ++ Bs).map (fun x => x.2.2) = ra ++ rb := by rw [List.map_append, e3, f3]
    rw [eR, eL, e1, e2, f1, f2] at this
    exact this
  have c1 : cutD (((Ha ++ h :: Hb).map (·.2)).map nD) none (some (Ha.length : Int)) = (Ha.map (·.2)).map nD := by rw [cut_to, List.map_append, List.map_append]; exact take_mid _ _ _ (by simp)
  have c2 : cutD (((Ha ++ h :: Hb).map (·.2)).map nD) (some ((Ha.length : Int) + 1)) none = (Hb.map (·.2)).map nD := by
    rw [show ((Ha.length : Int) + 1) = ((Ha.length + 1 : Nat) : Int) from rfl, cut_from, List.map_append, List.map_append, List.map_cons, List.map_cons]; exact drop_mid1 _ _ _ _ (by simp)
  have c3 : (Ha.map (·.2)).map nD ++ (Hb.map (·.2)).map nD = (Ha.map (·.2) ++ Hb.map (·.2)).map nD := by simp
  generalize tupsM ((Ha ++ h :: Hb).map (·.1)) = Cs at *
  generalize tupsM (Ha.map (·.2) ++ Hb.map (·.2)) = Rs at *
  generalize D.tup ((Ha ++ h :: Hb).map hD) = HD at *
  generalize D.lst ((placesM (Ha ++ h :: Hb)).map pD) = KD at *
  generalize ((Ha ++ h :: Hb).map (·.1)).map nD = CN at *
  have ft : fit (Ha.length + Hb.length) = true := fit_ok (by omega)
  generalize ((Ha ++ h :: Hb).map (·.2)).map nD = SN at *
  unfold den__law_cancels body__law_cancels
  rw [runD_eq]
  refine wp_seq (ρ' := [.sh HD, .sh KD, .sh (.int (Ha.length : Int)), .sh (.lst SN), .un, .un]) ?_ ?_
  · simp [sSeq, sAsgS, sAsg, sIf, sRet, sRetV, frz, owned, sFor, eOp, eUn, eVar, slt, eC, eCB, eCall, ar, eTup, eLst, eLc, eLc2, eTest, asB, tAndD, tOrD, tNotD, tYesD, aCons, aNil, aStar, itemsOf, iSeq, iFun, R.bind, R.vl, mk, ofO, Val.d, Val.s, Out.ofE, Tg.asg, asgs, wipeE, runD, dIx, dAdd, dSub, dLen, dInt, dIsN, dNotN, D.isNon, rng1, chk, sNx, atI0, atI1, eIxO, eLenO, lendT, noEx, hs]
  · refine wp_for nT Cs (fun pr ρ => ∃ g4 g5, ρ = [.sh HD, .sh KD, .sh (.int (Ha.length : Int)), .sh (.lst SN), g4, g5]) ?_ ?_ ⟨_, _, rfl⟩ ?_
    · simp [sSeq, sAsgS, sAsg, sIf, sRet, sRetV, frz, owned, sFor, eOp, eUn, eVar, slt, eC, eCB, eCall, ar, eTup, eLst, eLc, eLc2, eTest, asB, tAndD, tOrD, tNotD, tYesD, aCons, aNil, aStar, itemsOf, iSeq, iFun, R.bind, R.vl, mk, ofO, Val.d, Val.s, Out.ofE, Tg.asg, asgs, wipeE, runD, dIx, dAdd, dSub, dLen, dInt, dIsN, dNotN, D.isNon, rng1, chk, sNx, atI0, atI1, eIxO, eLenO, lendT, noEx, hc, t1]
    · rintro pr c po ρ e ⟨g4, g5, rfl⟩
      have hcm : c ∈ Cs := by rw [e]; simp
      show nxP (sFor _ _ _ [.sh HD, .sh KD, .sh (.int (Ha.length : Int)), .sh (.lst SN), .sh (nT c), g5]) _
      refine np_for1 nT Rs (fun pr ρ => ∃ g5, ρ = [.sh HD, .sh KD, .sh (.int (Ha.length : Int)), .sh (.lst SN), .sh (nT c), g5]) ?_ ?_ ⟨_, rfl⟩ ?_
      · have e1 : (eCall 1 den__law_tuples (aCons (eOp dAdd (eSl dSl (eVar 3) oNone (oSome (eVar 2))) (eSl dSl (eVar 3) (oSome (eOp dAdd (eVar 2) (eC (.int 1)))) oNone)) aNil)) [.sh HD, .sh KD, .sh (.int (Ha.length : Int)), .sh (.lst SN), .sh (nT c), g5] = .ok v2 := by
          simp only [eCall, aCons, aNil, eOp, eSl, eVar, slt, R.bind, oNone, oSome, asI, eC, dAdd, mk, R.vl, dSl, Val.d, c1, c2, c3, chk, List.length_map, ft, ar, List.length, if_true, t2]
        unfold iSeq
        rw [e1]
        show itemsOf v2.d = _
        rw [d2]
        rfl
      · rintro pr r po ρ e ⟨g5, rfl⟩
        have lv := leaves c hcm r (by rw [e]; simp)
        simp [sSeq, sAsgS, sAsg, sIf, sRet, sRetV, frz, owned, sFor, eOp, eUn, eVar, slt, eC, eCB, eCall, ar, eTup, eLst, eLc, eLc2, eTest, asB, tAndD, tOrD, tNotD, tYesD, aCons, aNil, aStar, itemsOf, iSeq, iFun, R.bind, R.vl, mk, ofO, Val.d, Val.s, Out.ofE, Tg.asg, asgs, wipeE, runD, dIx, dAdd, dSub, dLen, dInt, dIsN, dNotN, D.isNon, rng1, chk, sNx, atI0, atI1, eIxO, eLenO, lendT, noEx, turnP, nxP, lv]
      · rintro ρ' ⟨g5, rfl⟩
        exact ⟨_, _, rfl⟩
    · rintro ρ' ⟨g4, g5, rfl⟩
      rfl
end La
namespace La
open PySem Dn L2
theorem stepN_ne {acc : List (List Nat)} {n : Nat} (h : acc ≠ []) (hn : 0 < n) : stepN acc n ≠ [] := by
  intro e
  have := congrArg List.length e
  rw [stepN] at this
  cases acc with
  | nil => exact h rfl
  | cons a l => simp at this; omega
theorem tupsM_ne : ∀ (ns : List Nat), (∀ n ∈ ns, 0 < n) → tupsM ns ≠ [] := by
  have key : ∀ (ns : List Nat) (acc : List (List Nat)), acc ≠ [] → (∀ n ∈ ns, 0 < n) → ns.foldl stepN acc ≠ [] := by
    intro ns
    induction ns with
    | nil => intro acc h _; exact h
    | cons n ns ih => intro acc h hp; exact ih _ (stepN_ne h (hp n (by simp))) fun m hm => hp m (List.mem_cons_of_mem _ hm)
  intro ns hp
  exact key ns [[]] (by simp) hp
theorem mod_ex (z : Int) (n : Nat) (hn : 0 < n) : ∃ k : Nat, k < n ∧ z % (n : Int) = (k : Int) := by
  refine ⟨(z % (n : Int)).toNat, ?_, ?_⟩ <;> have h1 := Int.emod_nonneg z (show (n : Int) ≠ 0 by omega) <;> have h2 := Int.emod_lt_of_pos z (show (0 : Int) < (n : Int) by omega) <;> omega
theorem wp_ret1 {f : En → R Val} {ρ : En} {v : Val} (h : f ρ = .ok v) : outR (sRet f ρ) = .ok v := wp_ret h
theorem hands_facts {hs : List Hd} (ok : HsOk hs) : den__law_counts [.tup (hs.map hD)] = .ok (.fr ((hs.map (·.1)).map nD)) ∧ den__law_signs [.tup (hs.map hD)] = .ok (.fr ((hs.map (·.2)).map nD))
    ∧ den__law_tuples [.lst ((hs.map (·.1)).map nD)] = .ok (.sh (.lst ((tupsM (hs.map (·.1))).map nT))) ∧ den__law_tuples [.lst ((hs.map (·.2)).map nD)] = .ok (.sh (.lst ((tupsM (hs.map (·.2))).map nT)))
    ∧ den__law_places [.tup (hs.map hD)] = .ok (.sh (.lst ((placesM hs).map pD))) ∧ den__law_listed [.tup (hs.map hD)] = .ok (.sh (.bl true))
    ∧ (∀ c ∈ tupsM (hs.map (·.1)), ∀ g ∈ tupsM (hs.map (·.2)), den__law_entry_holds [.tup (hs.map hD), .lst ((placesM hs).map pD), nT c, nT g] = .ok (.sh (.bl true)))
    ∧ tupsM (hs.map (·.1)) ≠ [] ∧ tupsM (hs.map (·.2)) ≠ [] ∧ (tupsM (hs.map (·.1))).length ≤ 64 ∧ (tupsM (hs.map (·.2))).length ≤ 64 := by
  obtain ⟨hl, hne, okh⟩ := ok
  have le4 : ∀ y ∈ hs, (0 < y.1 ∧ y.1 ≤ 4) ∧ (0 < y.2 ∧ y.2 ≤ 4) := fun y hy => by
    obtain ⟨a, b⟩ := okh y hy
    omega
  have p1 : ∀ n ∈ hs.map (·.1), 0 < n ∧ n ≤ 4 := fun n hn => by obtain ⟨y, hy, rfl⟩ := List.mem_map.mp hn; exact (le4 y hy).1
  have p2 : ∀ n ∈ hs.map (·.2), 0 < n ∧ n ≤ 4 := fun n hn => by obtain ⟨y, hy, rfl⟩ := List.mem_map.mp hn; exact (le4 y hy).2
  have l1 : (hs.map (·.1)).length ≤ 3 := by simpa using hl
  have l2 : (hs.map (·.2)).length ≤ 3 := by simpa using hl
  have n1 : hs.map (·.1) ≠ [] := by simpa using hne
  have n2 : hs.map (·.2) ≠ [] := by simpa using hne
  refine ⟨law_counts_eq hl, law_signs_eq hl, law_tuples_eq l1 (fun n hn => (p1 n hn).2) n1, law_tuples_eq l2 (fun n hn => (p2 n hn).2) n2, law_places_eq hl okh hne, law_listed_eq hl okh hne, ?_,
    tupsM_ne _ fun n hn => (p1 n hn).1, tupsM_ne _ fun n hn => (p2 n hn).1, tups_small l1 fun n hn => (p1 n hn).2, tups_small l2 fun n hn => (p2 n hn).2⟩
  intro c hc g hg
  obtain ⟨xs, e1, e2, e3, o⟩ := ents_of hs c g (tupsM_lt _ c hc) (tupsM_lt _ g hg) okh
  have := law_entry_holds_eq (xs := xs) (by rw [← e1] at hl; simpa using hl) o
  rw [e1, e2, e3] at this
  exact this
theorem law_true (ns : List Int) (h : ns.length ≤ 63) : den_law [.fz (ns.map D.int)] = .ok (.sh (.bl true)) := by
  obtain ⟨_, v1, hs, okh, rfl⟩ := law_hands_ex (cellM ns 0)
  obtain ⟨_, v2, os, oko, rfl⟩ := law_hands_ex (cellM ns 1)
  have c0 : den__law_cell [.fz (ns.map D.int), .int 0] = .ok (.sh (.int (cellM ns 0))) := law_cell_eq h (k := 0) (by decide)
  have c1 : den__law_cell [.fz (ns.map D.int), .int 1] = .ok (.sh (.int (cellM ns 1))) := law_cell_eq h (k := 1) (by decide)
  have c2 : den__law_cell [.fz (ns.map D.int), .int 2] = .ok (.sh (.int (cellM ns 2))) := law_cell_eq h (k := 2) (by decide)
  have c3 : den__law_cell [.fz (ns.map D.int), .int 3] = .ok (.sh (.int (cellM ns 3))) := law_cell_eq h (k := 3) (by decide)
  have c4 : den__law_cell [.fz (ns.map D.int), .int 4] = .ok (.sh (.int (cellM ns 4))) := law_cell_eq h (k := 4) (by decide)
  obtain ⟨a1, a2, a3, a4, a5, a6, a7, a8, a9, a10, a11⟩ := hands_facts okh
  obtain ⟨b1, b2, b3, b4, b5, b6, b7, b8, b9, b10, b11⟩ := hands_facts oko
  have lenP : ∀ {l : List (List Nat)}, l ≠ [] → 0 < l.length := fun {l} h => List.length_pos_iff.mpr h
  obtain ⟨k2, k2l, k2e⟩ := mod_ex (cellM ns 2) _ (lenP b8)
  obtain ⟨k3, k3l, k3e⟩ := mod_ex (cellM ns 3) _ (lenP b9)
  obtain ⟨k4, k4l, k4e⟩ := mod_ex (cellM ns 4) hs.length (List.length_pos_iff.mpr okh.2.1)
  have i2 := atI_map nT (tupsM (os.map (·.1))) k2 [] k2l
  have i3 := atI_map nT (tupsM (os.map (·.2))) k3 [] k3l
  have m2 : (tupsM (os.map (·.1))).getD k2 [] ∈ tupsM (os.map (·.1)) := by simp [List.getD, k2l]
  have m3 : (tupsM (os.map (·.2))).getD k3 [] ∈ tupsM (os.map (·.2)) := by simp [List.getD, k3l]
  have eb := b7 _ m2 _ m3
  have cc : den__law_cancels [.tup (hs.map hD), .lst ((placesM hs).map pD), .int (k4 : Int)] = .ok (.sh (.bl true)) := by
    have e : hs = hs.take k4 ++ hs[k4] :: hs.drop (k4 + 1) := by rw [← List.drop_eq_getElem_cons k4l, List.take_append_drop]
    have := law_cancels_eq (Ha := hs.take k4) (Hb := hs.drop (k4 + 1)) (h := hs[k4]) (by have := okh.1; rw [List.length_take, List.length_drop]; omega) (by rw [← e]; exact okh.2.2)
    rw [← e, List.length_take, Nat.min_eq_left (by omega)] at this
    exact this
  have t2 : tt ((0 : Int) < ((tupsM (os.map (·.1))).length : Int)) (.ok (.sh (.int (k2 : Int)))) = .ok (.sh (.int (k2 : Int))) := tt_pos (by have := lenP b8; omega)
  have t3 : tt ((0 : Int) < ((tupsM (os.map (·.2))).length : Int)) (.ok (.sh (.int (k3 : Int)))) = .ok (.sh (.int (k3 : Int))) := tt_pos (by have := lenP b9; omega)
  have t4 : tt ((0 : Int) < (hs.length : Int)) (.ok (.sh (.int (k4 : Int)))) = .ok (.sh (.int (k4 : Int))) := tt_pos (by omega)
  have f2 : fit (tupsM (os.map (·.1))).length = true := fit_ok (by omega)
  have f3 : fit (tupsM (os.map (·.2))).length = true := fit_ok (by omega)
  have f4 : fit hs.length = true := fit_ok (by have := okh.1; omega)
  have hlP : (hs.map hD).length = hs.length := List.length_map _
  generalize tupsM (os.map (·.1)) = Cs at *
  generalize tupsM (os.map (·.2)) = Rs at *
  generalize (Cs.getD k2 []) = cx at *
  generalize (Rs.getD k3 []) = gx at *
  generalize tupsM (hs.map (·.1)) = Ch at *
  generalize tupsM (hs.map (·.2)) = Rh at *
  generalize (os.map (·.1)).map nD = on1 at *
  generalize (os.map (·.2)).map nD = on2 at *
  generalize (hs.map (·.1)).map nD = hn1 at *
  generalize (hs.map (·.2)).map nD = hn2 at *
  generalize (placesM hs).map pD = hp at *
  generalize (placesM os).map pD = op at *
  generalize os.map hD = OD at *
  generalize hs.map hD = HD at *
  generalize ns.map D.int = S at *
  unfold den_law body_law
  rw [runD_eq]
  show outR (sSeq _ _ [.sh (.fz S), .un, .un, .un, .un, .un, .un, .un, .un, .un]) = _
  refine wp_seq (ρ' := [.sh (.fz S), .sh (.tup HD), .un, .un, .un, .un, .un, .un, .un, .un]) ?_ ?_
  · simp only [sAsgS, eCall, aCons, aNil, eVar, slt, eC, R.bind, Val.d, ar, List.length, if_true, mk, R.vl, Out.ofE, List.set, c0, v1]
  refine wp_seq (ρ' := [.sh (.fz S), .sh (.tup HD), .sh (.tup OD), .un, .un, .un, .un, .un, .un, .un]) ?_ ?_
  · simp only [sAsgS, eCall, aCons, aNil, eVar, slt, eC, R.bind, Val.d, ar, List.length, if_true, mk, R.vl, Out.ofE, List.set, c1, v2]
  refine wp_seq (ρ' := [.sh (.fz S), .sh (.tup HD), .sh (.tup OD), .sh (.lst hp), .un, .un, .un, .un, .un, .un]) ?_ ?_
  · simp only [sAsgS, eCall, aCons, aNil, eVar, slt, eC, R.bind, Val.d, ar, List.length, if_true, mk, R.vl, Out.ofE, List.set, a5]
  refine wp_ifN ?_ ?_
  · simp only [sAsgS, eCall, aCons, aNil, eVar, slt, eC, R.bind, Val.d, ar, List.length, if_true, mk, R.vl, Out.ofE, List.set, tOrD, tNotD, eTest, asB, a6, b6, Bool.not_true, Bool.false_eq_true, if_false]
  refine wp_seq (ρ' := [.sh (.fz S), .sh (.tup HD), .sh (.tup OD), .sh (.lst hp), .sh (.lst (Cs.map nT)), .un, .un, .un, .un, .un]) ?_ ?_
  · simp only [sAsgS, eCall, aCons, aNil, eVar, slt, eC, R.bind, Val.d, ar, List.length, if_true, mk, R.vl, Out.ofE, List.set, b1, b3]
  refine wp_seq (ρ' := [.sh (.fz S), .sh (.tup HD), .sh (.tup OD), .sh (.lst hp), .sh (.lst (Cs.map nT)), .sh (.lst (Rs.map nT)), .un, .un, .un, .un]) ?_ ?_
  · simp only [sAsgS, eCall, aCons, aNil, eVar, slt, eC, R.bind, Val.d, ar, List.length, if_true, mk, R.vl, Out.ofE, List.set, b2, b4]
  refine wp_seq (ρ' := [.sh (.fz S), .sh (.tup HD), .sh (.tup OD), .sh (.lst hp), .sh (.lst (Cs.map nT)), .sh (.lst (Rs.map nT)), .sh (nT cx), .un, .un, .un]) ?_ ?_
  · simp only [sAsgS, eCall, aCons, aNil, eVar, slt, eC, R.bind, Val.d, ar, List.length, if_true, mk, R.vl, Out.ofE, List.set, eOp, eCB, dIx, dMod, dInt, dLen, chk, List.length_map, f2, c2, k2e, t2, i2, ofO]
  refine wp_seq (ρ' := [.sh (.fz S), .sh (.tup HD), .sh (.tup OD), .sh (.lst hp), .sh (.lst (Cs.map nT)), .sh (.lst (Rs.map nT)), .sh (nT cx), .sh (nT gx), .un, .un]) ?_ ?_
  · simp only [sAsgS, eCall, aCons, aNil, eVar, slt, eC, R.bind, Val.d, ar, List.length, if_true, mk, R.vl, Out.ofE, List.set, eOp, eCB, dIx, dMod, dInt, dLen, chk, List.length_map, f3, c3, k3e, t3, i3, ofO]
  refine wp_for nT Ch (fun pr ρ => ∃ g8 g9, ρ = [.sh (.fz S), .sh (.tup HD), .sh (.tup OD), .sh (.lst hp), .sh (.lst (Cs.map nT)), .sh (.lst (Rs.map nT)), .sh (nT cx), .sh (nT gx), g8, g9]) ?_ ?_ ⟨_, _, rfl⟩ ?_
  · simp only [iSeq, itemsOf, sAsgS, eCall, aCons, aNil, eVar, slt, eC, R.bind, Val.d, ar, List.length, if_true, mk, R.vl, Out.ofE, List.set, a1, a3]
  · rintro pr c po ρ e ⟨g8, g9, rfl⟩
    have hcm : c ∈ Ch := by rw [e]; simp
    show nxP (sFor _ _ _ [.sh (.fz S), .sh (.tup HD), .sh (.tup OD), .sh (.lst hp), .sh (.lst (Cs.map nT)), .sh (.lst (Rs.map nT)), .sh (nT cx), .sh (nT gx), .sh (nT c), g9]) _
    refine np_for1 nT Rh (fun pr ρ => ∃ g9, ρ = [.sh (.fz S), .sh (.tup HD), .sh (.tup OD), .sh (.lst hp), .sh (.lst (Cs.map nT)), .sh (.lst (Rs.map nT)), .sh (nT cx), .sh (nT gx), .sh (nT c), g9]) ?_ ?_ ⟨_, rfl⟩ ?_
    · simp only [iSeq, itemsOf, sAsgS, eCall, aCons, aNil, eVar, slt, eC, R.bind, Val.d, ar, List.length, if_true, mk, R.vl, Out.ofE, List.set, a2, a4]
    · rintro pr r po ρ e ⟨g9, rfl⟩
      have lv := a7 c hcm r (by rw [e]; simp)
      simp only [turnP, Tg.asg, nxP, sIf, tNotD, eTest, asB, lv, Bool.not_true, sNx, sAsgS, eCall, aCons, aNil, eVar, slt, eC, R.bind, Val.d, ar, List.length, if_true, mk, R.vl, Out.ofE, List.set]
      exact ⟨_, rfl⟩
    · rintro ρ' ⟨g9, rfl⟩
      exact ⟨_, _, rfl⟩
  · rintro ρ' ⟨g8, g9, rfl⟩
    refine wp_ifN ?_ ?_
    · simp only [tNotD, eTest, asB, b5, eb, Bool.not_true, sAsgS, eCall, aCons, aNil, eVar, slt, eC, R.bind, Val.d, ar, List.length, if_true, mk, R.vl, Out.ofE, List.set]
    · refine wp_ret1 ?_
      simp only [sAsgS, eCall, aCons, aNil, eVar, slt, eC, R.bind, Val.d, ar, List.length, if_true, mk, R.vl, Out.ofE, List.set, eOp, eCB, dMod, dInt, dLen, chk, List.length_map, hlP, f4, c4, k4e, t4, cc]
end La
open PySem PySem.W PyProof.Rows
set_option maxRecDepth 100000 in
set_option maxHeartbeats 0 in
theorem PySem.Challenge.cw_fardials_k09_places_and_terms_holds : PySem.Challenge.rw_fardials_k09_places_and_terms.Holds := by
  w_on; o_law; k_head; (case hw => w_witness2)
  k_fill
  refine L2.walk_of (l := PySem.Challenge.rw_fardials_k09_places_and_terms) (n := 63) (k := 9) (x := "script") (CX := fun w => L2.CX PySem.Challenge.rw_fardials_k09_places_and_terms.prog w) (sp := fun w => Dn.spD ⟨_, fun _ => 0⟩ 1 La.den_law) rfl (by decide) rfl ⟨rfl, by decide, by decide⟩ (fun w h Y => PySem.W.kIn_of Y) ?F (fun _ _ a ns hl _ hS => Dn.law_end hS (La.law_true ns hl)) (fun _ _ _ _ _ h => Dn.cx_no h)
  case F =>
    intro w mg fa h KX G hmg
    refine' La.all_mk KX G hmg ?a0 ?l0 ?c0 ?k0 ?a1 ?l1 ?c1 ?k1 ?a2 ?l2 ?c2 ?k2 ?a3 ?l3 ?c3 ?k3 ?a4 ?l4 ?c4 ?k4 ?a5 ?l5 ?c5 ?k5 ?a6 ?l6 ?c6 ?k6 ?a7 ?l7 ?c7 ?k7 ?a8 ?l8 ?c8 ?k8 ?a9 ?l9 ?c9 ?k9 ?a10 ?l10 ?c10 ?k10 ?a11 ?l11 ?c11 ?k11 ?a12 ?l12 ?c12 ?k12 ?a13 ?l13 ?c13 ?k13 ?a14 ?l14 ?c14 ?k14 ?a15 ?l15 ?c15 ?k15 ?a16 ?l16 ?c16 ?k16 ?a17 ?l17 ?c17 ?k17 ?a18 ?l18 ?c18 ?k18 ?a19 ?l19 ?c19 ?k19 ?a20 ?l20 ?c20 ?k20 ?z_bool ?z_int ?z_isinstance ?z_len ?z_list ?z_max ?z_range ?z_str ?z_tuple ?z_zip
    (case a0 => k_is)
    (case l0 => k_is)
    (case c0 => k_is)
    (case k0 => k_is)
    (case a1 => k_is)
    (case l1 => k_is)
    (case c1 => k_is)
    (case k1 => k_is)
    (case a2 => k_is)
    (case l2 => k_is)
    (case c2 => k_is)
    (case k2 => k_is)
    (case a3 => k_is)
    (case l3 => k_is)
    (case c3 => k_is)
    (case k3 => k_is)
    (case a4 => k_is)
    (case l4 => k_is)
    (case c4 => k_is)
    (case k4 => k_is)
    (case a5 => k_is)
    (case l5 => k_is)
    (case c5 => k_is)
    (case k5 => k_is)
    (case a6 => k_is)
    (case l6 => k_is)
    (case c6 => k_is)
    (case k6 => k_is)
    (case a7 => k_is)
    (case l7 => k_is)
    (case c7 => k_is)
    (case k7 => k_is)
    (case a8 => k_is)
    (case l8 => k_is)
    (case c8 => k_is)
    (case k8 => k_is)
    (case a9 => k_is)
    (case l9 => k_is)
    (case c9 => k_is)
    (case k9 => k_is)
    (case a10 => k_is)
    (case l10 => k_is)
    (case c10 => k_is)
    (case k10 => k_is)
    (case a11 => k_is)
    (case l11 => k_is)
    (case c11 => k_is)
    (case k11 => k_is)
    (case a12 => k_is)
    (case l12 => k_is)
    (case c12 => k_is)
    (case k12 => k_is)
    (case a13 => k_is)
    (case l13 => k_is)
    (case c13 => k_is)
    (case k13 => k_is)
    (case a14 => k_is)
    (case l14 => k_is)
    (case c14 => k_is)
    (case k14 => k_is)
    (case a15 => k_is)
    (case l15 => k_is)
    (case c15 => k_is)
    (case k15 => k_is)
    (case a16 => k_is)
    (case l16 => k_is)
    (case c16 => k_is)
    (case k16 => k_is)
    (case a17 => k_is)
    (case l17 => k_is)
    (case c17 => k_is)
    (case k17 => k_is)
    (case a18 => k_is)
    (case l18 => k_is)
    (case c18 => k_is)
    (case k18 => k_is)
    (case a19 => k_is)
    (case l19 => k_is)
    (case c19 => k_is)
    (case k19 => k_is)
    (case a20 => k_is)
    (case l20 => k_is)
    (case c20 => k_is)
    (case k20 => k_is)
    (case z_bool => k_is)
    (case z_int => k_is)
    (case z_isinstance => k_is)
    (case z_len => k_is)
    (case z_list => k_is)
    (case z_max => k_is)
    (case z_range => k_is)
    (case z_str => k_is)
    (case z_tuple => k_is)
    (case z_zip => k_is)
