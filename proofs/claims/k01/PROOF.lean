import PyProof.Rows.All
import Wide.All
import OpenK.AllK
import Wide.FinOn
import HandS.Evl
import HandS.Words
import HandS.Iter
import HandS.IsInst
import HandS.Deep
import HandS.SortInts
import HandS.TupAny
import HandS.Text
import HandS.Dict
import HandS.WordsDict
import HandS.ForMost
import HandS.CallLocal
import HandS.More
import HandS.TupLe
import HandS.TupMul
import PySem.Challenge.RW_readyfire_k01_rules
set_option Elab.async false
set_option linter.all false
set_option maxRecDepth 100000
set_option maxHeartbeats 1000000
/-! Sh1: data, slots, operands; the state of a run over them. -/
namespace Sh
open PySem L2
abbrev D := PyData
/-- what an object of one's own holds -/
inductive Cont where
  | lst (ds : List D)
  | dT (kvs : List (List Key × D))
  | dK (kvs : List (Key × D))
  | obj (d : D)
/-- a slot: not set; data that nothing changes any more; an object of one's own (p: handed in) -/
inductive Slot where
  | un
  | fz (d : D)
  | ow (p : Bool) (k : Cont)
inductive Op where
  | v (d : D)
  | nw (k : Cont)
  | sl (i : Nat)
structure W where
  F : Hp
  H : Hp
  φ : Nat → List Addr

/-- how an object of a class of the program lies -/
structure Cfg (K : PySem.W.Frag) where
  OB : Hp → Hp → V → D → List Addr → Prop
  mono : ∀ {F H F' H' : Hp} {v : V} {d : D} {fp : List Addr}, OB F H v d fp → (∀ a o, F a = some o → F' a = some o) → (∀ a ∈ fp, ∀ o, H a = some o → H' a = some o) → OB F' H' v d fp

abbrev Sub (F H : Hp) : Prop := ∀ a o, F a = some o → H a = some o
section
variable {K : PySem.W.Frag}
theorem sqL_mono {F H : Hp} (e : Sub F H) {a : Addr} {xs : List V} (h : SqL K F a xs) : SqL K H a xs := Evl.ex_l e h
theorem sqT_mono {F H : Hp} (e : Sub F H) {a : Addr} {xs : List V} (h : SqT K F a xs) : SqT K H a xs := Evl.ex_t e h
mutual
theorem dp_mono {F H : Hp} (e : Sub F H) : ∀ (d : D) (v : V), Dp K F v d → Dp K H v d
  | .none, _, h => by cases h; exact .non
  | .bool _, _, h => by cases h; exact .bl _
  | .int _, _, h => by cases h; exact .int _
  | .str _, _, h => by cases h; exact .str _
  | .list ds, _, h => by
    cases h with
    | lst hs ha => exact .lst (sqL_mono e hs) (dpAll_mono e ds _ ha)
  | .tuple ds, _, h => by
    cases h with
    | tup hs ha => exact .tup (sqT_mono e hs) (dpAll_mono e ds _ ha)
  | .dict _, _, h => by cases h
theorem dpAll_mono {F H : Hp} (e : Sub F H) : ∀ (ds : List D) (vs : List V), DpAll K F vs ds → DpAll K H vs ds
  | [], _, h => by cases h; exact .nil
  | d :: ds, _, h => by
    cases h with
    | cons h1 h2 => exact .cons (dp_mono e d _ h1) (dpAll_mono e ds _ h2)
end
theorem dpa_len {F : Hp} : ∀ {vs : List V} {ds : List D}, DpAll K F vs ds → vs.length = ds.length
  | _, [], h => by cases h; rfl
  | _, d :: ds, h => by
    cases h with
    | cons h1 h2 => rw [List.length_cons, List.length_cons, dpa_len h2]
theorem dpa_get {F : Hp} : ∀ {vs : List V} {ds : List D} {i : Nat} {d : D}, DpAll K F vs ds → ds[i]? = some d → ∃ v, vs[i]? = some v ∧ Dp K F v d
  | _, [], i, d, h, e => by cases e
  | _, d :: ds, 0, _, h, e => by
    cases h with
    | cons h1 h2 =>
      cases e
      exact ⟨_, rfl, h1⟩
  | _, d :: ds, i + 1, _, h, e => by
    cases h with
    | cons h1 h2 => exact dpa_get (i := i) h2 e
theorem dpa_get' {F : Hp} : ∀ {vs : List V} {ds : List D} {i : Nat} {v : V}, DpAll K F vs ds → vs[i]? = some v → ∃ d, ds[i]? = some d ∧ Dp K F v d
  | _, [], i, v, h, e => by
    cases h
    cases e
  | _, d :: ds, 0, _, h, e => by
    cases h with
    | cons h1 h2 =>
      cases e
      exact ⟨_, rfl, h1⟩
  | _, d :: ds, i + 1, _, h, e => by
    cases h with
    | cons h1 h2 => exact dpa_get' (i := i) h2 e
theorem dpa_app {F : Hp} : ∀ {vs ws : List V} {ds es : List D}, DpAll K F vs ds → DpAll K F ws es → DpAll K F (vs ++ ws) (ds ++ es)
  | _, _, [], _, h, g => by
    cases h
    exact g
  | _, _, d :: ds, _, h, g => by
    cases h with
    | cons h1 h2 => exact .cons h1 (dpa_app h2 g)
theorem dpa_one {F : Hp} {v : V} {d : D} (h : Dp K F v d) : DpAll K F [v] [d] := .cons h .nil
theorem dpa_take {F : Hp} : ∀ (n : Nat) {vs : List V} {ds : List D}, DpAll K F vs ds → DpAll K F (vs.take n) (ds.take n)
  | 0, _, _, _ => by
    rw [List.take_zero, List.take_zero]
    exact .nil
  | n + 1, _, [], h => by
    cases h
    exact .nil
  | n + 1, _, d :: ds, h => by
    cases h with
    | cons h1 h2 => exact .cons h1 (dpa_take n h2)
theorem dpa_drop {F : Hp} : ∀ (n : Nat) {vs : List V} {ds : List D}, DpAll K F vs ds → DpAll K F (vs.drop n) (ds.drop n)
  | 0, _, _, h => h
  | n + 1, _, [], h => by
    cases h
    exact .nil
  | n + 1, _, d :: ds, h => by
    cases h with
    | cons h1 h2 => exact dpa_drop n h2
theorem dpa_set {F : Hp} {v : V} {d : D} (q : Dp K F v d) : ∀ (n : Nat) {vs : List V} {ds : List D}, DpAll K F vs ds → DpAll K F (vs.set n v) (ds.set n d)
  | _, _, [], h => by
    cases h
    exact .nil
  | 0, _, d :: ds, h => by
    cases h with
    | cons h1 h2 => exact .cons q h2
  | n + 1, _, d :: ds, h => by
    cases h with
    | cons h1 h2 => exact .cons h1 (dpa_set q n h2)
theorem dpa_erase {F : Hp} : ∀ (n : Nat) {vs : List V} {ds : List D}, DpAll K F vs ds → DpAll K F (vs.eraseIdx n) (ds.eraseIdx n)
  | _, _, [], h => by
    cases h
    exact .nil
  | 0, _, d :: ds, h => by
    cases h with
    | cons h1 h2 => exact h2
  | n + 1, _, d :: ds, h => by
    cases h with
    | cons h1 h2 => exact .cons h1 (dpa_erase n h2)
theorem dpAll_ints {F : Hp} : ∀ {vs : List V} {ns : List Int}, DpAll K F vs (ns.map PyData.int) → vs = ns.map V.int
  | _, [], h => by
    cases h
    rfl
  | _, n :: ns, h => by
    cases h with
    | cons h1 h2 =>
      cases h1
      rw [dpAll_ints h2]
      rfl
theorem dpAll_of_ints {F : Hp} : ∀ (ns : List Int), DpAll K F (ns.map V.int) (ns.map PyData.int)
  | [] => .nil
  | n :: ns => .cons (.int n) (dpAll_of_ints ns)

/-- an object of one's own -/
def Own (c : Cfg K) (F H : Hp) (v : V) : Cont → List Addr → Prop
  | .lst ds, fp => ∃ a xs, v = .ref a ∧ fp = [a] ∧ H a = some (.lst xs) ∧ DpAll K F xs ds
  | .dT kvs, fp => ∃ a kv, v = .ref a ∧ fp = [a] ∧ H a = some (.dT kv) ∧ Paired (fun (p : List Key × V) (q : List Key × D) => p.1 = q.1 ∧ Dp K F p.2 q.2) kv kvs
  | .dK kvs, fp => ∃ a kv, v = .ref a ∧ fp = [a] ∧ H a = some (.dK kv) ∧ Paired (fun (p : Key × V) (q : Key × D) => p.1 = q.1 ∧ Dp K F p.2 q.2) kv kvs
  | .obj d, fp => c.OB F H v d fp
theorem Own.mono {c : Cfg K} {F H F' H' : Hp} {v : V} {k : Cont} {fp : List Addr} (h : Own c F H v k fp) (e : Sub F F') (g : ∀ a ∈ fp, ∀ o, H a = some o → H' a = some o) : Own c F' H' v k fp := by
  cases k with
  | lst ds =>
    obtain ⟨a, xs, rfl, rfl, h1, h2⟩ := h
    exact ⟨a, xs, rfl, rfl, g a List.mem_cons_self _ h1, dpAll_mono e _ _ h2⟩
  | dT kvs =>
    obtain ⟨a, xs, rfl, rfl, h1, h2⟩ := h
    exact ⟨a, xs, rfl, rfl, g a List.mem_cons_self _ h1, Paired.mapP h2 fun p q z => ⟨z.1, dp_mono e _ _ z.2⟩⟩
  | dK kvs =>
    obtain ⟨a, xs, rfl, rfl, h1, h2⟩ := h
    exact ⟨a, xs, rfl, rfl, g a List.mem_cons_self _ h1, Paired.mapP h2 fun p q z => ⟨z.1, dp_mono e _ _ z.2⟩⟩
  | obj d => exact c.mono h e g

/-- the slots as they lie -/
structure Rel (c : Cfg K) (w : W) (σ : St) (s : List Slot) : Prop where
  len : σ.length = s.length
  sub : Sub w.F w.H
  out : ∀ i a, a ∈ w.φ i → w.F a = none ∧ ∃ o, w.H a = some o
  fz : ∀ (i : Nat) (d : D), s[i]? = some (Slot.fz d) → ∃ v, σ[i]? = some (some v) ∧ Dp K w.F v d
  ow : ∀ (i : Nat) (p : Bool) (k : Cont), s[i]? = some (Slot.ow p k) → ∃ v, σ[i]? = some (some v) ∧ Own c w.F w.H v k (w.φ i)
  dis : ∀ i j a, a ∈ w.φ i → a ∈ w.φ j → i = j
  non : ∀ (i : Nat), (∀ (p : Bool) (k : Cont), s[i]? ≠ some (Slot.ow p k)) → w.φ i = []

/-- owned by no slot -/
abbrev W.no (w : W) (a : Addr) : Prop := ∀ i, a ∉ w.φ i
/-- what a run may do -/
structure Le (w w' : W) : Prop where
  f : Sub w.F w'.F
  h : ∀ a o, w.H a = some o → w.no a → w'.H a = some o ∧ w'.F a = w.F a
  p : ∀ i a, a ∈ w'.φ i → a ∈ w.φ i ∨ w.H a = none
  t : ∀ a o, w.H a = some o → ∃ o', w'.H a = some o'
theorem Le.refl (w : W) : Le w w := ⟨fun _ _ h => h, fun _ _ h _ => ⟨h, rfl⟩, fun _ _ h => .inl h, fun _ o h => ⟨o, h⟩⟩
theorem Le.np {w w' : W} (e : Le w w') {a : Addr} {o : HO} (h : w.H a = some o) (n : w.no a) : w'.no a := fun i z => by
  rcases e.p i a z with z | z
  · exact n i z
  · rw [h] at z
    cases z
theorem Le.back {w w' : W} (e : Le w w') {a : Addr} (h : w'.H a = none) : w.H a = none := by
  cases q : w.H a with
  | none => rfl
  | some o =>
    obtain ⟨o', z⟩ := e.t a o q
    rw [h] at z
    cases z
theorem Le.trans {w w' w'' : W} (a : Le w w') (b : Le w' w'') : Le w w'' where
  f := fun x o h => b.f x o (a.f x o h)
  h := fun x o h n => by
    obtain ⟨h1, h2⟩ := a.h x o h n
    obtain ⟨h3, h4⟩ := b.h x o h1 (a.np h n)
    exact ⟨h3, h4.trans h2⟩
  p := fun i x h => by
    rcases b.p i x h with h | h
    · exact a.p i x h
    · exact .inr (a.back h)
  t := fun x o h => by
    obtain ⟨o', h1⟩ := a.t x o h
    exact b.t x o' h1
/-- what was handed in stays where it is -/
def Keep (s s' : List Slot) : Prop := ∀ (j : Nat) (k : Cont), s'[j]? = some (.ow true k) → ∃ k', s[j]? = some (.ow true k')
theorem Keep.refl (s : List Slot) : Keep s s := fun j k h => ⟨k, h⟩
theorem Keep.trans {s s' s'' : List Slot} (a : Keep s s') (b : Keep s' s'') : Keep s s'' := fun j k h => by
  obtain ⟨k', h1⟩ := b j k h
  exact a j k' h1

/-- an operand's value -/
def RepO (c : Cfg K) (B : Hp) (w : W) (σ : St) : Op → V → Prop
  | .v d, v => Dp K w.F v d
  | .nw k, v => ∃ fp, Own c w.F w.H v k fp ∧ ∀ a ∈ fp, B a = none ∧ w.F a = none ∧ w.no a ∧ ∃ o, w.H a = some o
  | .sl i, v => σ[i]? = some (some v)
theorem RepO.base {c : Cfg K} {B B' : Hp} {w : W} {σ : St} {o : Op} {v : V} (h : RepO c B w σ o v) (e : ∀ a, B a = none → B' a = none) : RepO c B' w σ o v := by
  cases o with
  | v d => exact h
  | nw k =>
    obtain ⟨fp, h1, h2⟩ := h
    exact ⟨fp, h1, fun a ha => ⟨e a (h2 a ha).1, (h2 a ha).2⟩⟩
  | sl i => exact h
theorem RepO.back {c : Cfg K} {w₀ w₁ w : W} {σ : St} {o : Op} {v : V} (h : RepO c w₁.H w σ o v) (l : Le w₀ w₁) : RepO c w₀.H w σ o v := h.base fun a q => l.back q
theorem RepO.go {c : Cfg K} {B : Hp} {w w' : W} {σ : St} {o : Op} {v : V} (h : RepO c B w σ o v) (e : Le w w') : RepO c B w' σ o v := by
  cases o with
  | v d => exact dp_mono e.f _ _ h
  | nw k =>
    obtain ⟨fp, h1, h2⟩ := h
    refine ⟨fp, h1.mono e.f fun a ha o ho => (e.h a o ho (h2 a ha).2.2.1).1, fun a ha => ?_⟩
    obtain ⟨q0, q1, q2, o, q3⟩ := h2 a ha
    obtain ⟨q4, q5⟩ := e.h a o q3 q2
    exact ⟨q0, q5.trans q1, e.np q3 q2, o, q4⟩
  | sl i => exact h

/-- what an operand holds, as data -/
def cD (s : List Slot) : Op → Option D
  | .v d => some d
  | .nw (.lst ds) => some (.list ds)
  | .nw _ => none
  | .sl i => match s[i]? with
    | some (.fz d) => some d
    | some (.ow _ (.lst ds)) => some (.list ds)
    | _ => none
/-- .. as an object of one's own -/
def cC (s : List Slot) : Op → Option Cont
  | .v _ => none
  | .nw k => some k
  | .sl i => match s[i]? with
    | some (.ow _ k) => some k
    | _ => none
/-- data to be read: a list's items are told over what nothing changes -/
def VD (w : W) (v : V) : D → Prop
  | .list ds => ∃ a xs, v = .ref a ∧ SqL K w.H a xs ∧ DpAll K w.F xs ds
  | d => Dp K w.F v d
end
section
variable {K : PySem.W.Frag} {c : Cfg K} {B : Hp} {w w' : W} {σ : St} {s s' : List Slot} {o : Op} {v : V} {d : D}
theorem VD.of (e : Sub w.F w.H) (h : Dp K w.F v d) : VD (K := K) w v d := by
  cases d with
  | list ds =>
    cases h with
    | lst h1 h2 => exact ⟨_, _, rfl, sqL_mono e h1, h2⟩
  | _ => exact h
theorem VD.dp (e : Sub w.F w.H) (h : VD (K := K) w v d) : Dp K w.H v d := by
  cases d with
  | list ds =>
    obtain ⟨a, xs, rfl, h1, h2⟩ := h
    exact .lst h1 (dpAll_mono e _ _ h2)
  | _ => exact dp_mono e _ _ h
theorem Rel.view (R : Rel c w σ s) (h : RepO c B w σ o v) (e : cD s o = some d) : VD (K := K) w v d := by
  cases o with
  | v d' =>
    cases e
    exact VD.of R.sub h
  | nw k =>
    cases k with
    | lst ds =>
      cases e
      obtain ⟨fp, ⟨a, xs, rfl, _, h1, h2⟩, _⟩ := h
      exact ⟨a, xs, rfl, .of h1, h2⟩
    | _ => cases e
  | sl i =>
    have e' : (match s[i]? with | some (.fz d) => some d | some (.ow _ (.lst ds)) => some (PyData.list ds) | _ => none) = some d := e
    have h' : σ[i]? = some (some v) := h
    cases q : s[i]? with
    | none =>
      rw [q] at e'
      cases e'
    | some x =>
      rw [q] at e'
      cases x with
      | un => cases e'
      | fz d' =>
        cases e'
        obtain ⟨v', h1, h2⟩ := R.fz i d q
        rw [h'] at h1
        cases h1
        exact VD.of R.sub h2
      | ow p k =>
        cases k with
        | lst ds =>
          cases e'
          obtain ⟨v', h1, h2⟩ := R.ow i p _ q
          rw [h'] at h1
          cases h1
          obtain ⟨a, xs, rfl, _, h3, h4⟩ := h2
          exact ⟨a, xs, rfl, .of h3, h4⟩
        | _ => cases e'
theorem Rel.viewC (R : Rel c w σ s) (h : RepO c B w σ o v) {k : Cont} (e : cC s o = some k) : ∃ fp, Own c w.F w.H v k fp := by
  cases o with
  | v d' => cases e
  | nw k' =>
    cases e
    obtain ⟨fp, h, _⟩ := h
    exact ⟨fp, h⟩
  | sl i =>
    have e' : (match s[i]? with | some (.ow _ k) => some k | _ => none) = some k := e
    have h' : σ[i]? = some (some v) := h
    cases q : s[i]? with
    | none =>
      rw [q] at e'
      cases e'
    | some x =>
      rw [q] at e'
      cases x with
      | un => cases e'
      | fz d' => cases e'
      | ow p k' =>
        cases e'
        obtain ⟨v', h1, h2⟩ := R.ow i p _ q
        rw [h'] at h1
        cases h1
        exact ⟨_, h2⟩
end
end Sh

set_option Elab.async false
set_option linter.all false
set_option maxRecDepth 100000
set_option maxHeartbeats 1000000
/-! Sh2: expressions. -/
namespace Sh
open PySem L2
abbrev M := List Slot → Option (Op × List Slot)
abbrev MT := List Slot → Option (Bool × List Slot)
abbrev MA := List Slot → Option (List Op × List Slot)
section
variable {K : PySem.W.Frag}
def liftE (c : Cfg K) (m : M) : TE := fun σ H Q => ∃ w s, w.H = H ∧ Rel c w σ s ∧ ∃ o s', m s = some (o, s') ∧ ∀ v w', Le w w' → Rel c w' σ s' → Keep s s' → RepO c w.H w' σ o v → Q v w'.H
def liftT (c : Cfg K) (m : MT) : TT := fun σ H Q => ∃ w s, w.H = H ∧ Rel c w σ s ∧ ∃ b s', m s = some (b, s') ∧ ∀ w', Le w w' → Rel c w' σ s' → Keep s s' → Q b w'.H
abbrev RepOs (c : Cfg K) (B : Hp) (w : W) (σ : St) : List Op → List V → Prop := Paired (RepO c B w σ)
def liftA (c : Cfg K) (m : MA) : TA := fun σ H Q => ∃ w s, w.H = H ∧ Rel c w σ s ∧ ∃ os s', m s = some (os, s') ∧ ∀ vs w', Le w w' → Rel c w' σ s' → Keep s s' → RepOs c w.H w' σ os vs → Q vs w'.H
theorem RepOs.go {c : Cfg K} {B : Hp} {w w' : W} {σ : St} {os : List Op} {vs : List V} (h : RepOs c B w σ os vs) (e : Le w w') : RepOs c B w' σ os vs := Paired.mapP h fun _ _ z => z.go e
theorem RepOs.back {c : Cfg K} {w₀ w₁ w : W} {σ : St} {os : List Op} {vs : List V} (h : RepOs c w₁.H w σ os vs) (l : Le w₀ w₁) : RepOs c w₀.H w σ os vs := Paired.mapP h fun _ _ z => z.back l
end
theorem _root_.L2.PE.imp {X : Cx} {e : Expr} {t t' : TE} (h : PE X e t) (i : ∀ σ H Q, t' σ H Q → t σ H Q) : PE X e t' := ⟨fun pins s σ H Q I q => h.run pins s σ H Q I (i _ _ _ q)⟩
theorem _root_.L2.PT.imp {X : Cx} {e : Expr} {t t' : TT} (h : PT X e t) (i : ∀ σ H Q, t' σ H Q → t σ H Q) : PT X e t' := ⟨fun pins s σ H Q I q => h.run pins s σ H Q I (i _ _ _ q)⟩
theorem _root_.L2.PW.imp {X : Cx} {e : Expr} {t t' : TT} (h : PW X e t) (i : ∀ σ H Q, t' σ H Q → t σ H Q) : PW X e t' := ⟨fun wh pins s σ H Q I q => h.run wh pins s σ H Q I (i _ _ _ q)⟩
theorem _root_.L2.PA.imp {X : Cx} {e : List Expr} {t t' : TA} (h : PA X e t) (i : ∀ σ H Q, t' σ H Q → t σ H Q) : PA X e t' := ⟨fun pos pins s σ H Q I q => h.run pos pins s σ H Q I (i _ _ _ q)⟩
theorem _root_.L2.PS.imp {X : Cx} {e : Stmt} {t t' : TS} (h : PS X e t) (i : ∀ D σ H, t' D σ H → t D σ H) : PS X e t' := ⟨fun pins s σ H D I q => h.run pins s σ H D I (i _ _ _ q)⟩
theorem _root_.L2.PSs.imp {X : Cx} {e : List Stmt} {t t' : TS} (h : PSs X e t) (i : ∀ D σ H, t' D σ H → t D σ H) : PSs X e t' := ⟨fun pins s σ H D I q => h.run pins s σ H D I (i _ _ _ q)⟩
theorem bnd {α β : Type} {x : Option α} {f : α → Option β} {b : β} (h : x.bind f = some b) : ∃ a, x = some a ∧ f a = some b := Option.bind_eq_some_iff.mp h

/-! ### growth -/
structure Gr (w w' : W) : Prop where
  p : w'.φ = w.φ
  f : Sub w.F w'.F
  h : ∀ a o, w.H a = some o → w'.H a = some o ∧ w'.F a = w.F a
  s : Sub w'.F w'.H
theorem Gr.le {w w' : W} (g : Gr w w') : Le w w' := ⟨g.f, fun a o h _ => g.h a o h, fun i a h => .inl (by rw [g.p] at h; exact h), fun a o h => ⟨o, (g.h a o h).1⟩⟩
theorem Gr.refl {w : W} (e : Sub w.F w.H) : Gr w w := ⟨rfl, fun _ _ h => h, fun _ _ h => ⟨h, rfl⟩, e⟩
section
variable {K : PySem.W.Frag} {c : Cfg K} {B : Hp} {w w' : W} {σ : St} {s s' : List Slot} {o : Op} {v : V} {d : D}
theorem Rel.grow (R : Rel c w σ s) (g : Gr w w') : Rel c w' σ s := by
  refine ⟨R.len, g.s, fun i a ha => ?_, fun i d e => ?_, fun i p k e => ?_, fun i j a h1 h2 => ?_, fun i h => ?_⟩
  · rw [g.p] at ha
    obtain ⟨h1, o, h2⟩ := R.out i a ha
    obtain ⟨h3, h4⟩ := g.h a o h2
    exact ⟨h4.trans h1, o, h3⟩
  · obtain ⟨v, h1, h2⟩ := R.fz i d e
    exact ⟨v, h1, dp_mono g.f _ _ h2⟩
  · obtain ⟨v, h1, h2⟩ := R.ow i p k e
    rw [g.p]
    exact ⟨v, h1, h2.mono g.f fun a _ o ho => (g.h a o ho).1⟩
  · rw [g.p] at h1 h2
    exact R.dis i j a h1 h2
  · rw [g.p]
    exact R.non i h
theorem RepO.grow (h : RepO c B w σ o v) (g : Gr w w') : RepO c B w' σ o v := h.go g.le
/-- a new object is laid, owned by none so far -/
theorem gr_lay (e : Sub w.F w.H) {p : Addr} {x : HO} (hp : w.H p = none) : Gr w { w with H := upd w.H p x } := ⟨rfl, fun _ _ h => h, fun a o h => ⟨by
  show upd w.H p x a = some o
  rw [upd_ne (ne_of_none h hp)]
  exact h, rfl⟩, fun a o h => by
  show upd w.H p x a = some o
  rw [upd_ne (ne_of_none (e a o h) hp)]
  exact e a o h⟩
theorem none_of_sub {F H : Hp} (e : Sub F H) {p : Addr} (hp : H p = none) : F p = none := by
  cases q : F p with
  | none => rfl
  | some o =>
    rw [e p o q] at hp
    cases hp
/-- .. that nothing will change -/
theorem gr_fix (e : Sub w.F w.H) {p : Addr} {x : HO} (hp : w.H p = none) : Gr w { w with H := upd w.H p x, F := upd w.F p x } := by
  have hf := none_of_sub e hp
  refine ⟨rfl, fun a o h => ?_, fun a o h => ⟨?_, ?_⟩, fun a o h => ?_⟩
  · show upd w.F p x a = some o
    rw [upd_ne (ne_of_none h hf)]
    exact h
  · show upd w.H p x a = some o
    rw [upd_ne (ne_of_none h hp)]
    exact h
  · show upd w.F p x a = w.F a
    rw [upd_ne (ne_of_none h hp)]
  · have h : upd w.F p x a = some o := h
    show upd w.H p x a = some o
    by_cases q : a = p
    · subst q
      rw [upd_same] at h ⊢
      exact h
    · rw [upd_ne q] at h ⊢
      exact e a o h

/-! ### what an operation gives -/
inductive Res where
  | d (d : D)
  | nl (ds : List D)
def Res.op : Res → Op
  | .d d => .v d
  | .nl ds => .nw (.lst ds)
def RepR (K : PySem.W.Frag) (w w' : W) : Res → V → Prop
  | .d d, v => Dp K w'.F v d
  | .nl ds, v => ∃ p xs, v = .ref p ∧ w.H p = none ∧ w'.H p = some (.lst xs) ∧ w'.F p = none ∧ DpAll K w'.F xs ds
def Fin (K : PySem.W.Frag) (w : W) (Q : VK) (r : Res) : Prop := ∀ v w', Gr w w' → RepR K w w' r v → Q v w'.H
theorem Fin.go {Q : VK} {r : Res} (R : Rel c w σ s) (k : ∀ v w', Le w w' → Rel c w' σ s → RepO c w.H w' σ r.op v → Q v w'.H) : Fin K w Q r := fun v w' g h => by
  refine k v w' g.le (R.grow g) ?_
  cases r with
  | d d => exact h
  | nl ds =>
    obtain ⟨p, xs, rfl, h0, h1, h2, h3⟩ := h
    refine ⟨[p], ⟨p, xs, rfl, rfl, h1, h3⟩, fun a ha => ?_⟩
    have ea : a = p := List.mem_singleton.mp ha
    subst ea
    refine ⟨h0, h2, fun i z => ?_, _, h1⟩
    rw [g.p] at z
    obtain ⟨_, o, q⟩ := R.out i a z
    rw [h0] at q
    cases q
theorem Fin.val {Q : VK} {d : D} (e : Sub w.F w.H) (k : Fin K w Q (.d d)) {v : V} (h : Dp K w.F v d) : Q v w.H := k v w (Gr.refl e) h
theorem Fin.lst {Q : VK} {ds : List D} (e : Sub w.F w.H) (k : Fin K w Q (.nl ds)) {xs : List V} (h : DpAll K w.F xs ds) {p : Addr} (hp : w.H p = none) : Q (.ref p) (upd w.H p (.lst xs)) :=
  k (.ref p) _ (gr_lay e hp) ⟨p, xs, rfl, hp, upd_same, none_of_sub e hp, h⟩
theorem Fin.tup {Q : VK} {ds : List D} (e : Sub w.F w.H) (k : Fin K w Q (.d (.tuple ds))) {xs : List V} (h : DpAll K w.F xs ds) {p : Addr} (hp : w.H p = none) : Q (.ref p) (upd w.H p (.tup xs)) :=
  k (.ref p) _ (gr_fix (x := .tup xs) e hp) (.tup (.of upd_same) (dpAll_mono (gr_fix (x := .tup xs) e hp).f _ _ h))

/-! ### two operands, one, a call -/
def Sem2 (K : PySem.W.Frag) (r : R2) (f : D → D → Option Res) : Prop := ∀ (w : W) (x y : V) (d e : D) (res : Res), Sub w.F w.H → VD (K := K) w x d → VD (K := K) w y e → f d e = some res → ∀ Q : VK, Fin K w Q res → r x y w.H Q
def Sem1 (K : PySem.W.Frag) (r : V → Hp → VK → Prop) (f : D → Option Res) : Prop := ∀ (w : W) (x : V) (d : D) (res : Res), Sub w.F w.H → VD (K := K) w x d → f d = some res → ∀ Q : VK, Fin K w Q res → r x w.H Q
abbrev VDs (K : PySem.W.Frag) (w : W) : List V → List D → Prop := Paired (VD (K := K) w)
def SemC (K : PySem.W.Frag) (r : List V → Hp → VK → Prop) (f : List D → Option Res) : Prop := ∀ (w : W) (xs : List V) (ds : List D) (res : Res), Sub w.F w.H → VDs K w xs ds → f ds = some res → ∀ Q : VK, Fin K w Q res → r xs w.H Q
def mBin (f : D → D → Option Res) (ma mb : M) : M := fun s => (ma s).bind fun p => (mb p.2).bind fun q => (cD q.2 p.1).bind fun d => (cD q.2 q.1).bind fun e => (f d e).bind fun r => some (r.op, q.2)
def mUn (f : D → Option Res) (ma : M) : M := fun s => (ma s).bind fun p => (cD p.2 p.1).bind fun d => (f d).bind fun r => some (r.op, p.2)
def cDs (s : List Slot) : List Op → Option (List D)
  | [] => some []
  | o :: os => (cD s o).bind fun d => (cDs s os).bind fun ds => some (d :: ds)
def mCall (f : List D → Option Res) (ma : MA) : M := fun s => (ma s).bind fun p => (cDs p.2 p.1).bind fun ds => (f ds).bind fun r => some (r.op, p.2)
theorem lift_bin {r : R2} {f : D → D → Option Res} {ma mb : M} (hs : Sem2 K r f) {H : Hp} {Q : VK} (h : liftE c (mBin f ma mb) σ H Q) : tOp r (liftE c ma) (liftE c mb) σ H Q := by
  obtain ⟨w, s, rfl, R, o, s', e, k⟩ := h
  obtain ⟨⟨o1, s1⟩, e1, e⟩ := bnd e
  obtain ⟨⟨o2, s2⟩, e2, e⟩ := bnd e
  obtain ⟨d1, e3, e⟩ := bnd e
  obtain ⟨d2, e4, e⟩ := bnd e
  obtain ⟨res, e5, e⟩ := bnd e
  cases e
  refine ⟨w, s, rfl, R, o1, s1, e1, fun v1 w1 l1 R1 k1 q1 => ?_⟩
  refine ⟨w1, s1, rfl, R1, o2, s2, e2, fun v2 w2 l2 R2 k2 q2 => ?_⟩
  exact hs w2 v1 v2 d1 d2 res R2.sub (R2.view (q1.go l2) e3) (R2.view q2 e4) e5 _ (Fin.go R2 fun v w' l R' q => k v w' ((l1.trans l2).trans l) R' (k1.trans k2) (q.back (l1.trans l2)))
theorem lift_un {r : V → Hp → VK → Prop} {f : D → Option Res} {ma : M} (hs : Sem1 K r f) {H : Hp} {Q : VK} (h : liftE c (mUn f ma) σ H Q) : tUn r (liftE c ma) σ H Q := by
  obtain ⟨w, s, rfl, R, o, s', e, k⟩ := h
  obtain ⟨⟨o1, s1⟩, e1, e⟩ := bnd e
  obtain ⟨d1, e3, e⟩ := bnd e
  obtain ⟨res, e5, e⟩ := bnd e
  cases e
  refine ⟨w, s, rfl, R, o1, s1, e1, fun v1 w1 l1 R1 k1 q1 => ?_⟩
  exact hs w1 v1 d1 res R1.sub (R1.view q1 e3) e5 _ (Fin.go R1 fun v w' l R' q => k v w' (l1.trans l) R' k1 (q.back l1))
theorem view_all (R : Rel c w σ s) : ∀ {os : List Op} {vs : List V} {ds : List D}, RepOs c B w σ os vs → cDs s os = some ds → VDs K w vs ds
  | [], _, _, h, e => by
    cases h
    cases e
    exact .nil
  | o :: os, _, _, h, e => by
    cases h with
    | cons h1 h2 =>
      obtain ⟨d, e1, e⟩ := bnd e
      obtain ⟨ds, e2, e⟩ := bnd e
      cases e
      exact .cons (R.view h1 e1) (view_all R h2 e2)
theorem lift_call {r : List V → Hp → VK → Prop} {f : List D → Option Res} {ma : MA} (hs : SemC K r f) {H : Hp} {Q : VK} (h : liftE c (mCall f ma) σ H Q) : tCB r (liftA c ma) σ H Q := by
  obtain ⟨w, s, rfl, R, o, s', e, k⟩ := h
  obtain ⟨⟨os, s1⟩, e1, e⟩ := bnd e
  obtain ⟨ds, e3, e⟩ := bnd e
  obtain ⟨res, e5, e⟩ := bnd e
  cases e
  refine ⟨w, s, rfl, R, os, s1, e1, fun vs w1 l1 R1 k1 q1 => ?_⟩
  exact hs w1 vs ds res R1.sub (view_all R1 q1 e3) e5 _ (Fin.go R1 fun v w' l R' q => k v w' (l1.trans l) R' k1 (q.back l1))
end

/-! ### names, constants -/
def mVar (i : Nat) : M := fun s => match s[i]? with
  | some (.fz d) => some (.v d, s)
  | some (.ow _ _) => some (.sl i, s)
  | _ => none
def mC (d : D) : M := fun s => some (.v d, s)
section
variable {X : Cx} {c : Cfg X.K} {pos : Pos}
theorem she_var (i : Nat) {x : Str} (h : PE X (.Name x pos) (tVar i)) : PE X (.Name x pos) (liftE c (mVar i)) := h.imp fun σ H Q q => by
  obtain ⟨w, s, rfl, R, o, s', e, k⟩ := q
  have e' : (match s[i]? with | some (.fz d) => some (Op.v d, s) | some (.ow _ _) => some (.sl i, s) | _ => none) = some (o, s') := e
  cases hq : s[i]? with
  | none =>
    rw [hq] at e'
    cases e'
  | some x =>
    rw [hq] at e'
    cases x with
    | un => cases e'
    | fz d =>
      cases e'
      obtain ⟨v, h1, h2⟩ := R.fz i d hq
      exact ⟨v, h1, k v w (Le.refl w) R (Keep.refl _) h2⟩
    | ow p kk =>
      cases e'
      obtain ⟨v, h1, h2⟩ := R.ow i p kk hq
      exact ⟨v, h1, k v w (Le.refl w) R (Keep.refl _) h1⟩
theorem she_c {e : Expr} {v : V} {d : D} (h : PE X e (tC v)) (hd : ∀ F, Dp X.K F v d) : PE X e (liftE c (mC d)) := h.imp fun σ H Q q => by
  obtain ⟨w, s, rfl, R, o, s', e, k⟩ := q
  cases e
  exact k v w (Le.refl w) R (Keep.refl _) (hd _)
theorem she_int {i : Int} {j} : PE X (.Constant (.int i) j pos) (liftE c (mC (.int i))) := she_c pe_int fun _ => .int i
theorem she_bl {b : Bool} {j} : PE X (.Constant (.bool b) j pos) (liftE c (mC (.bool b))) := she_c pe_bl fun _ => .bl b
theorem she_non {j} : PE X (.Constant .none j pos) (liftE c (mC .none)) := she_c pe_non fun _ => .non
theorem she_str {x : Str} {j} : PE X (.Constant (.str x) j pos) (liftE c (mC (.str x))) := she_c pe_str fun _ => .str x
variable {a b : Expr} {ma mb : M}
theorem she_op {op : Operator} {r : R2} {f : D → D → Option Res} (ho : OpR X (binaryOp op) r) (hs : Sem2 X.K r f) (ha : PE X a (liftE c ma)) (hb : PE X b (liftE c mb)) : PE X (.BinOp a op b pos) (liftE c (mBin f ma mb)) :=
  (pe_op ho ha hb).imp fun _ _ _ h => lift_bin hs h
theorem she_un {op : UnaryOp} {r : V → Hp → VK → Prop} {f : D → Option Res} (ho : UnR X (unaryOp op) r) (hs : Sem1 X.K r f) (ha : PE X a (liftE c ma)) : PE X (.UnaryOp op a pos) (liftE c (mUn f ma)) :=
  (pe_un ho ha).imp fun _ _ _ h => lift_un hs h
theorem she_cmp {op : CmpOp} {r : R2} {f : D → D → Option Res} (ho : OpR X (compareOp op) r) (hs : Sem2 X.K r f) (ha : PE X a (liftE c ma)) (hb : PE X b (liftE c mb)) (hm : behindInMarks op b = false) : PE X (.Compare a [op] [b] pos) (liftE c (mBin f ma mb)) :=
  (pe_cmpR ho ha hb hm).imp fun _ _ _ h => lift_bin hs h
theorem she_ix {r : R2} {f : D → D → Option Res} (ho : IxR X r) (hs : Sem2 X.K r f) (ha : PE X a (liftE c ma)) (hb : PE X b (liftE c mb)) (hp : PlainIx b) : PE X (.Subscript a b pos) (liftE c (mBin f ma mb)) :=
  (pe_ix ho ha hb hp).imp fun _ _ _ h => lift_bin hs h

/-! ### tests -/
def mTst (m : M) : MT := fun s => (m s).bind fun p => (cD p.2 p.1).bind fun d => match d with
  | .bool b => some (b, p.2)
  | _ => none
theorem lift_tst {K : PySem.W.Frag} {c : Cfg K} {m : M} {σ : St} {H : Hp} {Q : Bool → Hp → Prop} (h : liftT c (mTst m) σ H Q) : liftE c m σ H fun x H1 => ∃ b, x = .bl b ∧ Q b H1 := by
  obtain ⟨w, s, rfl, R, o, s', e, k⟩ := h
  obtain ⟨⟨o1, s1⟩, e1, e⟩ := bnd e
  obtain ⟨d, e2, e⟩ := bnd e
  cases d with
  | bool b =>
    cases e
    refine ⟨w, s, rfl, R, o1, _, e1, fun v1 w1 l1 R1 k1 q1 => ?_⟩
    have z : Dp K w1.F v1 (.bool o) := R1.view q1 e2
    cases z
    exact ⟨o, rfl, k w1 l1 R1 k1⟩
  | _ => cases e
theorem sht_val {m : M} (h : PE X a (liftE c m)) (he : ∀ whole, isTrue a X.env whole = (do let v ← whole; standAt a.pos; holding [v] (truthy v)) := by intro _; rfl) : PT X a (liftT c (mTst m)) := (pt_val h he).imp fun _ _ _ q => lift_tst q
def mNotT (m : MT) : MT := fun s => (m s).bind fun p => some (!p.1, p.2)
theorem sht_not {m : MT} (h : PT X a (liftT c m)) : PT X (.UnaryOp .Not a pos) (liftT c (mNotT m)) := (pt_not h).imp fun σ H Q q => by
  obtain ⟨w, s, rfl, R, o, s', e, k⟩ := q
  obtain ⟨⟨b1, s1⟩, e1, e⟩ := bnd e
  cases e
  exact ⟨w, s, rfl, R, b1, s1, e1, fun w1 l1 R1 k1 => k w1 l1 R1 k1⟩
def mAndT (m n : MT) : MT := fun s => (m s).bind fun p => if p.1 = true then n p.2 else some (false, p.2)
def mOrT (m n : MT) : MT := fun s => (m s).bind fun p => if p.1 = true then some (true, p.2) else n p.2
theorem lift_andT {K : PySem.W.Frag} {c : Cfg K} {m n : MT} {σ : St} {H : Hp} {Q : Bool → Hp → Prop} (h : liftT c (mAndT m n) σ H Q) : tAnd (liftT c m) (liftT c n) σ H Q := by
  obtain ⟨w, s, rfl, R, o, s', e, k⟩ := h
  obtain ⟨⟨b1, s1⟩, e1, e⟩ := bnd e
  refine ⟨w, s, rfl, R, b1, s1, e1, fun w1 l1 R1 k1 => ?_⟩
  cases b1 with
  | true => exact iteT ⟨w1, s1, rfl, R1, o, s', e, fun w2 l2 R2 k2 => k w2 (l1.trans l2) R2 (k1.trans k2)⟩
  | false =>
    cases e
    exact iteF (k w1 l1 R1 k1)
theorem lift_orT {K : PySem.W.Frag} {c : Cfg K} {m n : MT} {σ : St} {H : Hp} {Q : Bool → Hp → Prop} (h : liftT c (mOrT m n) σ H Q) : tOr (liftT c m) (liftT c n) σ H Q := by
  obtain ⟨w, s, rfl, R, o, s', e, k⟩ := h
  obtain ⟨⟨b1, s1⟩, e1, e⟩ := bnd e
  refine ⟨w, s, rfl, R, b1, s1, e1, fun w1 l1 R1 k1 => ?_⟩
  cases b1 with
  | true =>
    cases e
    exact iteT (k w1 l1 R1 k1)
  | false => exact iteF ⟨w1, s1, rfl, R1, o, s', e, fun w2 l2 R2 k2 => k w2 (l1.trans l2) R2 (k1.trans k2)⟩
variable {rest : List Expr}
theorem shw_and1 {m : MT} (h : PT X a (liftT c m)) : PW X (.BoolOp .And [a] pos) (liftT c m) := pw_and1 h
theorem shw_or1 {m : MT} (h : PT X a (liftT c m)) : PW X (.BoolOp .Or [a] pos) (liftT c m) := pw_or1 h
theorem shw_and {m n : MT} (h : PT X a (liftT c m)) (g : PW X (.BoolOp .And (b :: rest) pos) (liftT c n)) : PW X (.BoolOp .And (a :: b :: rest) pos) (liftT c (mAndT m n)) := (pw_and h g).imp fun _ _ _ q => lift_andT q
theorem shw_or {m n : MT} (h : PT X a (liftT c m)) (g : PW X (.BoolOp .Or (b :: rest) pos) (liftT c n)) : PW X (.BoolOp .Or (a :: b :: rest) pos) (liftT c (mOrT m n)) := (pw_or h g).imp fun _ _ _ q => lift_orT q
/-- and, or, not as values; all of them True or False but the last, which may be anything -/
def bD : D → Option Bool
  | .bool b => some b
  | _ => none
def mAndV (ma mb : M) : M := fun s => (ma s).bind fun p => (cD p.2 p.1).bind fun d => (bD d).bind fun b => if b = true then mb p.2 else some (.v (.bool false), p.2)
def mOrV (ma mb : M) : M := fun s => (ma s).bind fun p => (cD p.2 p.1).bind fun d => (bD d).bind fun b => if b = true then some (.v (.bool true), p.2) else mb p.2
def mNotV (ma : M) : M := fun s => (ma s).bind fun p => (cD p.2 p.1).bind fun d => (bD d).bind fun b => some (.v (.bool !b), p.2)
theorem view_b {K : PySem.W.Frag} {c : Cfg K} {B : Hp} {w : W} {σ : St} {s : List Slot} {o : Op} {v : V} {d : D} {b : Bool} (R : Rel c w σ s) (h : RepO c B w σ o v) (e : cD s o = some d) (e2 : bD d = some b) : v = .bl b := by
  have z := R.view h e
  cases d with
  | bool b' =>
    cases e2
    have z' : Dp K w.F v (.bool b) := z
    cases z'
    rfl
  | _ => cases e2
theorem she_one {op} {m : M} (h : PE X a (liftE c m)) : PE X (.BoolOp op [a] pos) (liftE c m) := pe_one h
theorem she_and (ha : PE X a (liftE c ma)) (hb : PE X (.BoolOp .And (b :: rest) pos) (liftE c mb)) : PE X (.BoolOp .And (a :: b :: rest) pos) (liftE c (mAndV ma mb)) := (pe_and ha hb).imp fun σ H Q q => by
  obtain ⟨w, s, rfl, R, o, s', e, k⟩ := q
  obtain ⟨⟨o1, s1⟩, e1, e⟩ := bnd e
  obtain ⟨d, e2, e⟩ := bnd e
  obtain ⟨b1, e3, e⟩ := bnd e
  refine ⟨w, s, rfl, R, o1, s1, e1, fun v1 w1 l1 R1 k1 q1 => ⟨b1, view_b R1 q1 e2 e3, ?_⟩⟩
  cases b1 with
  | true => exact iteT ⟨w1, s1, rfl, R1, o, s', e, fun v w2 l2 R2 k2 q => k v w2 (l1.trans l2) R2 (k1.trans k2) (q.back l1)⟩
  | false =>
    cases e
    exact iteF (k _ w1 l1 R1 k1 (.bl false))
theorem she_or (ha : PE X a (liftE c ma)) (hb : PE X (.BoolOp .Or (b :: rest) pos) (liftE c mb)) : PE X (.BoolOp .Or (a :: b :: rest) pos) (liftE c (mOrV ma mb)) := (pe_or ha hb).imp fun σ H Q q => by
  obtain ⟨w, s, rfl, R, o, s', e, k⟩ := q
  obtain ⟨⟨o1, s1⟩, e1, e⟩ := bnd e
  obtain ⟨d, e2, e⟩ := bnd e
  obtain ⟨b1, e3, e⟩ := bnd e
  refine ⟨w, s, rfl, R, o1, s1, e1, fun v1 w1 l1 R1 k1 q1 => ⟨b1, view_b R1 q1 e2 e3, ?_⟩⟩
  cases b1 with
  | true =>
    cases e
    exact iteT (k _ w1 l1 R1 k1 (.bl true))
  | false => exact iteF ⟨w1, s1, rfl, R1, o, s', e, fun v w2 l2 R2 k2 q => k v w2 (l1.trans l2) R2 (k1.trans k2) (q.back l1)⟩
theorem she_not (ha : PE X a (liftE c ma)) : PE X (.UnaryOp .Not a pos) (liftE c (mNotV ma)) := (pe_not ha).imp fun σ H Q q => by
  obtain ⟨w, s, rfl, R, o, s', e, k⟩ := q
  obtain ⟨⟨o1, s1⟩, e1, e⟩ := bnd e
  obtain ⟨d, e2, e⟩ := bnd e
  obtain ⟨b1, e3, e⟩ := bnd e
  cases e
  exact ⟨w, s, rfl, R, o1, s1, e1, fun v1 w1 l1 R1 k1 q1 => ⟨b1, view_b R1 q1 e2 e3, k _ w1 l1 R1 k1 (.bl _)⟩⟩
def mIfE (m : MT) (ma mb : M) : M := fun s => (m s).bind fun p => if p.1 = true then ma p.2 else mb p.2
theorem she_ifExp {t : Expr} {m : MT} (ht : PT X t (liftT c m)) (ha : PE X a (liftE c ma)) (hb : PE X b (liftE c mb)) : PE X (.IfExp t a b pos) (liftE c (mIfE m ma mb)) := (pe_ifExp ht ha hb).imp fun σ H Q q => by
  obtain ⟨w, s, rfl, R, o, s', e, k⟩ := q
  obtain ⟨⟨b1, s1⟩, e1, e⟩ := bnd e
  refine ⟨w, s, rfl, R, b1, s1, e1, fun w1 l1 R1 k1 => ?_⟩
  cases b1 with
  | true => exact iteT ⟨w1, s1, rfl, R1, o, s', e, fun v w2 l2 R2 k2 q => k v w2 (l1.trans l2) R2 (k1.trans k2) (q.back l1)⟩
  | false => exact iteF ⟨w1, s1, rfl, R1, o, s', e, fun v w2 l2 R2 k2 q => k v w2 (l1.trans l2) R2 (k1.trans k2) (q.back l1)⟩
def mChain (f g : D → D → Option Res) (ma mb mc : M) : M := fun s => (ma s).bind fun p => (mb p.2).bind fun q => (cD q.2 p.1).bind fun d => (cD q.2 q.1).bind fun e => (f d e).bind fun r => match r with
  | .d (.bool true) => (mc q.2).bind fun u => (cD u.2 u.1).bind fun d3 => (g e d3).bind fun r => some (r.op, u.2)
  | .d (.bool false) => some (.v (.bool false), q.2)
  | _ => none
theorem she_chain {op op' : CmpOp} {r r' : R2} {f g : D → D → Option Res} {c3 : Expr} {mc : M} (ho : OpR X (compareOp op) r) (ho' : OpR X (compareOp op') r') (hs : Sem2 X.K r f) (hs' : Sem2 X.K r' g) (hint : ∀ d e r, f d e = some r → ∃ i j, d = .int i ∧ e = .int j)
    (ha : PE X a (liftE c ma)) (hb : PE X b (liftE c mb)) (hc : PE X c3 (liftE c mc)) (h1 : behindInMarks op b = false) (h2 : behindInMarks op' c3 = false) (hp : PE X (.Compare a [op, op'] [b, c3] pos) (tChain r r' (liftE c ma) (liftE c mb) (liftE c mc))) :
    PE X (.Compare a [op, op'] [b, c3] pos) (liftE c (mChain f g ma mb mc)) := hp.imp fun σ H Q q => by
  obtain ⟨w, s, rfl, R, o, s', e, k⟩ := q
  obtain ⟨⟨o1, s1⟩, e1, e⟩ := bnd e
  obtain ⟨⟨o2, s2⟩, e2, e⟩ := bnd e
  obtain ⟨d1, e3, e⟩ := bnd e
  obtain ⟨d2, e4, e⟩ := bnd e
  obtain ⟨res, e5, e⟩ := bnd e
  refine ⟨w, s, rfl, R, o1, s1, e1, fun v1 w1 l1 R1 k1 q1 => ?_⟩
  refine ⟨w1, s1, rfl, R1, o2, s2, e2, fun v2 w2 l2 R2 k2 q2 => ?_⟩
  refine hs w2 v1 v2 d1 d2 res R2.sub (R2.view (q1.go l2) e3) (R2.view q2 e4) e5 _ fun z w3 g3 hz => ?_
  cases res with
  | nl ds => cases e
  | d dd =>
    cases dd with
    | bool b =>
      have hz' : Dp X.K w3.F z (.bool b) := hz
      cases hz'
      refine ⟨b, rfl, ?_⟩
      have R3 := R2.grow g3
      cases b with
      | false =>
        cases e
        exact iteF (k _ w3 ((l1.trans l2).trans g3.le) R3 (k1.trans k2) (.bl false))
      | true =>
        obtain ⟨⟨o3, s3⟩, e6, e⟩ := bnd e
        obtain ⟨d3, e7, e⟩ := bnd e
        obtain ⟨res2, e8, e⟩ := bnd e
        cases e
        refine iteT ⟨w3, s2, rfl, R3, o3, _, e6, fun v3 w4 l4 R4 k4 q4 => ?_⟩
        obtain ⟨i, j, rfl, rfl⟩ := hint _ _ _ e5
        have zj : Dp X.K w2.F v2 (.int j) := R2.view q2 e4
        have zj4 : Dp X.K w4.F v2 (.int j) := dp_mono l4.f _ _ (dp_mono g3.f _ _ zj)
        exact hs' w4 v2 v3 (.int j) d3 res2 R4.sub zj4 (R4.view q4 e7) e8 _ (Fin.go R4 fun v w' l R' q => k v w' ((((l1.trans l2).trans g3.le).trans l4).trans l) R' ((k1.trans k2).trans k4) (q.back (((l1.trans l2).trans g3.le).trans l4)))
    | _ => cases e

/-! ### arguments, displays, calls of built-ins -/
def mANil : MA := fun s => some ([], s)
def mACons (m : M) (n : MA) : MA := fun s => (m s).bind fun p => (n p.2).bind fun q => some (p.1 :: q.1, q.2)
variable {es : List Expr} {na : MA}
theorem sha_nil : PA X [] (liftA c mANil) := pa_nil.imp fun σ H Q q => by
  obtain ⟨w, s, rfl, R, o, s', e, k⟩ := q
  cases e
  exact k [] w (Le.refl w) R (Keep.refl _) .nil
theorem sha_cons (ha : PE X a (liftE c ma)) (hr : PA X es (liftA c na)) (hs : starEach (a :: es) X.env = (false, eval a X.env) :: starEach es X.env := by rfl) : PA X (a :: es) (liftA c (mACons ma na)) := (pa_cons ha hr hs).imp fun σ H Q q => by
  obtain ⟨w, s, rfl, R, o, s', e, k⟩ := q
  obtain ⟨⟨o1, s1⟩, e1, e⟩ := bnd e
  obtain ⟨⟨os, s2⟩, e2, e⟩ := bnd e
  cases e
  refine ⟨w, s, rfl, R, o1, s1, e1, fun v1 w1 l1 R1 k1 q1 => ?_⟩
  refine ⟨w1, s1, rfl, R1, os, _, e2, fun vs w2 l2 R2 k2 q2 => ?_⟩
  exact k (v1 :: vs) w2 (l1.trans l2) R2 (k1.trans k2) (.cons (q1.go l2) (q2.back l1))
end
end Sh

set_option Elab.async false
set_option linter.all false
set_option maxRecDepth 100000
set_option maxHeartbeats 1000000
/-! Sh3: freezing, stores, statements. -/
namespace Sh
open PySem L2
/-- an operand becomes data that nothing changes any more -/
def frz1 (s : List Slot) : Op → Option (D × List Slot)
  | .v d => some (d, s)
  | .nw (.lst ds) => some (.list ds, s)
  | .nw _ => none
  | .sl i => match s[i]? with
    | some (.fz d) => some (d, s)
    | some (.ow _ (.lst ds)) => some (.list ds, s.set i (.fz (.list ds)))
    | _ => none
def can (s : List Slot) (i : Nat) : Bool := match s[i]? with
  | none => false
  | some (.ow true _) => false
  | some _ => true
def put1 (s : List Slot) (i : Nat) : Op → Option (List Slot)
  | .nw k => some (s.set i (.ow false k))
  | .v d => some (s.set i (.fz d))
  | .sl j => (frz1 s (.sl j)).bind fun p => some (p.2.set i (.fz p.1))
def put (s : List Slot) (i : Nat) (o : Op) : Option (List Slot) := if can s i = true then put1 s i o else none
theorem can_lt {s : List Slot} {i : Nat} (h : can s i = true) : i < s.length := by
  unfold can at h
  cases q : s[i]? with
  | none =>
    rw [q] at h
    cases h
  | some x => exact (List.getElem?_eq_some_iff.mp q).1
section
variable {K : PySem.W.Frag} {c : Cfg K} {w₀ w w' : W} {σ : St} {s s' : List Slot} {o : Op} {v : V} {d : D}
theorem mem_sw {i j : Nat} {fp : List Addr} {φ : Nat → List Addr} {a : Addr} (h : a ∈ (if j = i then fp else φ j)) : (j = i ∧ a ∈ fp) ∨ (j ≠ i ∧ a ∈ φ j) := by
  by_cases q : j = i
  · rw [if_pos q] at h
    exact .inl ⟨q, h⟩
  · rw [if_neg q] at h
    exact .inr ⟨q, h⟩
/-- the slot i holds something else now; its own object is dropped -/
theorem Rel.setX (R : Rel c w σ s) (l0 : Le w₀ w) (i : Nat) (hi : i < s.length) {y : Slot} {fp : List Addr} (hf : ∀ a ∈ fp, w₀.H a = none ∧ w.F a = none ∧ w.no a ∧ ∃ o, w.H a = some o)
    (h1 : ∀ d, y = .fz d → Dp K w.F v d) (h2 : ∀ p k, y = .ow p k → Own c w.F w.H v k fp) (h3 : (∀ p k, y ≠ .ow p k) → fp = []) : ∃ w', w'.H = w.H ∧ w'.F = w.F ∧ Le w₀ w' ∧ Rel c w' (σ.set i (some v)) (s.set i y) := by
  have hσ : i < σ.length := by
    rw [R.len]
    exact hi
  refine ⟨{ w with φ := fun j => if j = i then fp else w.φ j }, rfl, rfl, ⟨l0.f, fun a o q n => l0.h a o q n, fun j a ha => ?_, l0.t⟩, ⟨?_, R.sub, fun j a ha => ?_, fun j e hj => ?_, fun j p k' hj => ?_, fun j k' a g1 g2 => ?_, fun j hj => ?_⟩⟩
  · rcases mem_sw ha with ⟨_, q⟩ | ⟨_, q⟩
    · exact .inr (hf a q).1
    · exact l0.p j a q
  · rw [List.length_set, List.length_set]
    exact R.len
  · rcases mem_sw ha with ⟨_, q⟩ | ⟨_, q⟩
    · exact ⟨(hf a q).2.1, (hf a q).2.2.2⟩
    · exact R.out j a q
  · by_cases q : j = i
    · subst q
      rw [List.getElem?_set_self hi] at hj
      exact ⟨v, List.getElem?_set_self hσ, h1 e (Option.some.inj hj)⟩
    · rw [List.getElem?_set_ne (Ne.symm q)] at hj
      obtain ⟨u, z1, z2⟩ := R.fz j e hj
      exact ⟨u, by rw [List.getElem?_set_ne (Ne.symm q)]; exact z1, z2⟩
  · by_cases q : j = i
    · subst q
      rw [List.getElem?_set_self hi] at hj
      refine ⟨v, List.getElem?_set_self hσ, ?_⟩
      show Own c w.F w.H v k' (if j = j then fp else w.φ j)
      rw [if_pos rfl]
      exact h2 p k' (Option.some.inj hj)
    · rw [List.getElem?_set_ne (Ne.symm q)] at hj
      obtain ⟨u, z1, z2⟩ := R.ow j p k' hj
      refine ⟨u, by rw [List.getElem?_set_ne (Ne.symm q)]; exact z1, ?_⟩
      show Own c w.F w.H u k' (if j = i then fp else w.φ j)
      rw [if_neg q]
      exact z2
  · rcases mem_sw g1 with ⟨q1, z1⟩ | ⟨q1, z1⟩
    · rcases mem_sw g2 with ⟨q2, z2⟩ | ⟨q2, z2⟩
      · exact q1.trans q2.symm
      · exact absurd z2 ((hf a z1).2.2.1 k')
    · rcases mem_sw g2 with ⟨q2, z2⟩ | ⟨q2, z2⟩
      · exact absurd z1 ((hf a z2).2.2.1 j)
      · exact R.dis j k' a z1 z2
  · show (if j = i then fp else w.φ j) = []
    by_cases q : j = i
    · subst q
      rw [if_pos rfl]
      refine h3 fun p k z => hj p k ?_
      rw [List.getElem?_set_self hi, z]
    · rw [if_neg q]
      refine R.non j fun p k' hh => hj p k' ?_
      rw [List.getElem?_set_ne (Ne.symm q)]
      exact hh
theorem Rel.setF (R : Rel c w σ s) (l0 : Le w₀ w) (i : Nat) (hi : i < s.length) (h : Dp K w.F v d) : ∃ w', w'.H = w.H ∧ w'.F = w.F ∧ Le w₀ w' ∧ Rel c w' (σ.set i (some v)) (s.set i (.fz d)) :=
  R.setX l0 i hi (fp := []) (fun a z => nomatch z) (fun e z => by cases z; exact h) (fun p k z => nomatch z) fun _ => rfl
theorem Rel.setO (R : Rel c w σ s) (l0 : Le w₀ w) (i : Nat) (hi : i < s.length) {k : Cont} {fp : List Addr} (h : Own c w.F w.H v k fp) (hf : ∀ a ∈ fp, w₀.H a = none ∧ w.F a = none ∧ w.no a ∧ ∃ o, w.H a = some o) : ∃ w', w'.H = w.H ∧ w'.F = w.F ∧ Le w₀ w' ∧ Rel c w' (σ.set i (some v)) (s.set i (.ow false k)) :=
  R.setX l0 i hi hf (fun e z => nomatch z) (fun p k' z => by cases z; exact h) fun z => absurd rfl (z false k)
theorem sub_upd {F H : Hp} (e : Sub F H) {a : Addr} {o : HO} (h : H a = some o) : Sub (upd F a o) H := fun b u q => by
  by_cases z : b = a
  · subst z
    rw [upd_same] at q
    cases q
    exact h
  · rw [upd_ne z] at q
    exact e b u q
theorem Sub.updR {F : Hp} {a : Addr} {o : HO} (n : F a = none) : Sub F (upd F a o) := fun b u q => by
  rw [upd_ne (ne_of_none q n)]
  exact q
theorem Rel.freeze (R : Rel c w σ s) (l0 : Le w₀ w) (h : RepO c w₀.H w σ o v) (e : frz1 s o = some (d, s')) : ∃ w', w'.H = w.H ∧ Le w₀ w' ∧ Rel c w' σ s' ∧ Dp K w'.F v d ∧ Keep s s' ∧ s'.length = s.length := by
  cases o with
  | v d' =>
    cases e
    exact ⟨w, rfl, l0, R, h, Keep.refl _, rfl⟩
  | nw k =>
    cases k with
    | lst ds =>
      cases e
      obtain ⟨fp, ⟨a, xs, rfl, rfl, h1, h2⟩, h3⟩ := h
      obtain ⟨b0, f0, p0, _⟩ := h3 a List.mem_cons_self
      have sf : Sub w.F (upd w.F a (.lst xs)) := Sub.updR f0
      refine ⟨{ w with F := upd w.F a (.lst xs) }, rfl, ⟨fun b u q => sf b u (l0.f b u q), fun b u q n => ?_, l0.p, l0.t⟩, ⟨R.len, sub_upd R.sub h1, fun i b hb => ?_, fun i d' hi => ?_, fun i p k hi => ?_, R.dis, R.non⟩, .lst (.of upd_same) (dpAll_mono sf _ _ h2), Keep.refl _, rfl⟩
      · obtain ⟨q1, q2⟩ := l0.h b u q n
        refine ⟨q1, ?_⟩
        show upd w.F a (.lst xs) b = w₀.F b
        rw [upd_ne (ne_of_none q b0)]
        exact q2
      · obtain ⟨q1, q2⟩ := R.out i b hb
        refine ⟨?_, q2⟩
        show upd w.F a (.lst xs) b = none
        rw [upd_ne (fun z => p0 i (by rw [← z]; exact hb))]
        exact q1
      · obtain ⟨u, q1, q2⟩ := R.fz i d' hi
        exact ⟨u, q1, dp_mono sf _ _ q2⟩
      · obtain ⟨u, q1, q2⟩ := R.ow i p k hi
        exact ⟨u, q1, q2.mono sf fun _ _ _ z => z⟩
    | _ => cases e
  | sl i =>
    have h : σ[i]? = some (some v) := h
    have e' : (match s[i]? with | some (.fz d) => some (d, s) | some (.ow _ (.lst ds)) => some (PyData.list ds, s.set i (.fz (.list ds))) | _ => none) = some (d, s') := e
    cases q : s[i]? with
    | none =>
      rw [q] at e'
      cases e'
    | some x =>
      rw [q] at e'
      cases x with
      | un => cases e'
      | fz d' =>
        cases e'
        obtain ⟨u, h1, h2⟩ := R.fz i d q
        rw [h] at h1
        cases h1
        exact ⟨w, rfl, l0, R, h2, Keep.refl _, rfl⟩
      | ow p k =>
        cases k with
        | lst ds =>
          cases e'
          obtain ⟨u, h1, h2⟩ := R.ow i p _ q
          rw [h] at h1
          cases h1
          obtain ⟨a, xs, rfl, ea, h3, h4⟩ := h2
          have pa : a ∈ w.φ i := by
            rw [ea]
            exact List.mem_cons_self
          obtain ⟨fa, _⟩ := R.out i a pa
          have sf : Sub w.F (upd w.F a (.lst xs)) := Sub.updR fa
          have hil : i < s.length := (List.getElem?_eq_some_iff.mp q).1
          have hne : ∀ j b, j ≠ i → b ∈ w.φ j → b ≠ a := fun j b z hb z2 => z (R.dis j i b hb (by rw [z2]; exact pa))
          refine ⟨{ w with F := upd w.F a (.lst xs), φ := fun j => if j = i then [] else w.φ j }, rfl, ⟨fun b u z => sf b u (l0.f b u z), fun b u z n => ?_, fun j b hb => ?_, l0.t⟩,
            ⟨by rw [List.length_set]; exact R.len, sub_upd R.sub h3, fun j b hb => ?_, fun j d' hj => ?_, fun j p' k hj => ?_, fun j k b z1 z2 => ?_, fun j hj => ?_⟩, .lst (.of upd_same) (dpAll_mono sf _ _ h4), fun j k hj => ?_, List.length_set⟩
          · obtain ⟨q1, q2⟩ := l0.h b u z n
            refine ⟨q1, ?_⟩
            show upd w.F a (.lst xs) b = w₀.F b
            rw [upd_ne (fun z3 => ?_)]
            · exact q2
            · rcases l0.p i a pa with z4 | z4
              · exact n i (by rw [z3]; exact z4)
              · rw [z3, z4] at z
                cases z
          · rcases mem_sw hb with ⟨_, z⟩ | ⟨_, z⟩
            · cases z
            · exact l0.p j b z
          · rcases mem_sw hb with ⟨_, z⟩ | ⟨z0, z⟩
            · cases z
            · obtain ⟨q1, q2⟩ := R.out j b z
              refine ⟨?_, q2⟩
              show upd w.F a (.lst xs) b = none
              rw [upd_ne (hne j b z0 z)]
              exact q1
          · by_cases z : j = i
            · subst z
              rw [List.getElem?_set_self hil] at hj
              cases hj
              exact ⟨_, h, .lst (.of upd_same) (dpAll_mono sf _ _ h4)⟩
            · rw [List.getElem?_set_ne (Ne.symm z)] at hj
              obtain ⟨u, q1, q2⟩ := R.fz j d' hj
              exact ⟨u, q1, dp_mono sf _ _ q2⟩
          · by_cases z : j = i
            · subst z
              rw [List.getElem?_set_self hil] at hj
              cases hj
            · rw [List.getElem?_set_ne (Ne.symm z)] at hj
              obtain ⟨u, q1, q2⟩ := R.ow j p' k hj
              refine ⟨u, q1, ?_⟩
              show Own c (upd w.F a (.lst xs)) w.H u k (if j = i then [] else w.φ j)
              rw [if_neg z]
              exact q2.mono sf fun _ _ _ z => z
          · rcases mem_sw z1 with ⟨_, z⟩ | ⟨_, z3⟩
            · cases z
            · rcases mem_sw z2 with ⟨_, z⟩ | ⟨_, z4⟩
              · cases z
              · exact R.dis j k b z3 z4
          · show (if j = i then [] else w.φ j) = []
            by_cases z : j = i
            · rw [if_pos z]
            · rw [if_neg z]
              refine R.non j fun p k hh => hj p k ?_
              rw [List.getElem?_set_ne (Ne.symm z)]
              exact hh
          · by_cases z : j = i
            · subst z
              rw [List.getElem?_set_self hil] at hj
              cases hj
            · rw [List.getElem?_set_ne (Ne.symm z)] at hj
              exact ⟨k, hj⟩
        | _ => cases e'
/-- between statements: what was handed in stays at its slot -/
def Kp (σ : St) (s : List Slot) (σ' : St) (s' : List Slot) : Prop := ∀ (j : Nat) (k : Cont), s'[j]? = some (.ow true k) → σ'[j]? = σ[j]? ∧ ∃ k', s[j]? = some (.ow true k')
theorem Kp.refl (σ : St) (s : List Slot) : Kp σ s σ s := fun j k h => ⟨rfl, k, h⟩
theorem Kp.trans {σ σ' σ'' : St} {s s' s'' : List Slot} (a : Kp σ s σ' s') (b : Kp σ' s' σ'' s'') : Kp σ s σ'' s'' := fun j k h => by
  obtain ⟨h1, k', h2⟩ := b j k h
  obtain ⟨h3, h4⟩ := a j k' h2
  exact ⟨h1.trans h3, h4⟩
theorem Keep.kp (h : Keep s s') : Kp σ s σ s' := fun j k q => ⟨rfl, h j k q⟩
theorem Rel.put (R : Rel c w σ s) (l0 : Le w₀ w) (h : RepO c w₀.H w σ o v) {i : Nat} (e : put s i o = some s') : ∃ w', w'.H = w.H ∧ Le w₀ w' ∧ Rel c w' (σ.set i (some v)) s' ∧ Kp σ s (σ.set i (some v)) s' := by
  unfold Sh.put at e
  by_cases hc : can s i = true
  · rw [if_pos hc] at e
    have hil : i < s.length := can_lt hc
    have kp : ∀ (s1 : List Slot) (y : Slot), Keep s s1 → s1.length = s.length → (∀ k, y ≠ .ow true k) → Kp σ s (σ.set i (some v)) (s1.set i y) := fun s1 y ks hl ny j k hj => by
      by_cases z : j = i
      · subst z
        rw [List.getElem?_set_self (by omega)] at hj
        exact absurd (Option.some.inj hj) (ny k)
      · rw [List.getElem?_set_ne (Ne.symm z)] at hj
        exact ⟨by rw [List.getElem?_set_ne (Ne.symm z)], ks j k hj⟩
    cases o with
    | v d =>
      cases e
      obtain ⟨w2, h2, f2, l2, R2⟩ := R.setF l0 i hil h
      exact ⟨w2, h2, l2, R2, kp s _ (Keep.refl s) rfl (fun k z => nomatch z)⟩
    | sl j =>
      obtain ⟨⟨d, s1⟩, e4, e5⟩ := bnd (x := frz1 s (.sl j)) e
      cases e5
      obtain ⟨w1, hh, l1, R1, dp, ks, hl⟩ := R.freeze l0 h e4
      obtain ⟨w2, h2, f2, l2, R2⟩ := R1.setF l1 i (by omega) dp
      exact ⟨w2, h2.trans hh, l2, R2, kp s1 _ ks hl (fun k z => nomatch z)⟩
    | nw k =>
      cases e
      obtain ⟨fp, h1, h2⟩ := h
      obtain ⟨w2, h3, f2, l2, R2⟩ := R.setO l0 i hil h1 h2
      exact ⟨w2, h3, l2, R2, kp s _ (Keep.refl s) rfl (fun k z => nomatch z)⟩
  · rw [if_neg hc] at e
    cases e
end

/-! ### statements -/
inductive Out where
  | nx (s : List Slot)
  | rt (o : Op) (s : List Slot)
  | bk (s : List Slot)
  | ct (s : List Slot)
abbrev MS := List Slot → Option Out
section
variable {K : PySem.W.Frag}
def EndOk (c : Cfg K) (D : Ends) (w : W) (σ : St) (s : List Slot) : Out → Prop
  | .nx s' => ∀ σ' w', Le w w' → Rel c w' σ' s' → Kp σ s σ' s' → D.nx σ' w'.H
  | .bk s' => ∀ σ' w', Le w w' → Rel c w' σ' s' → Kp σ s σ' s' → D.bk σ' w'.H
  | .ct s' => ∀ σ' w', Le w w' → Rel c w' σ' s' → Kp σ s σ' s' → D.ct σ' w'.H
  | .rt o s' => ∀ v σ' w', Le w w' → Rel c w' σ' s' → Kp σ s σ' s' → RepO c w.H w' σ' o v → D.rt v w'.H
def liftS (c : Cfg K) (m : MS) : TS := fun D σ H => ∃ w s, w.H = H ∧ Rel c w σ s ∧ ∃ out, m s = some out ∧ EndOk c D w σ s out
theorem EndOk.back {c : Cfg K} {D : Ends} {w w1 : W} {σ σ1 : St} {s s1 : List Slot} {out : Out} (h : EndOk c D w σ s out) (l : Le w w1) (k : Kp σ s σ1 s1) : EndOk c D w1 σ1 s1 out := by
  cases out with
  | nx s' => exact fun σ' w' l' R' k' => h σ' w' (l.trans l') R' (k.trans k')
  | bk s' => exact fun σ' w' l' R' k' => h σ' w' (l.trans l') R' (k.trans k')
  | ct s' => exact fun σ' w' l' R' k' => h σ' w' (l.trans l') R' (k.trans k')
  | rt o s' => exact fun v σ' w' l' R' k' q => h v σ' w' (l.trans l') R' (k.trans k') (q.back l)
end
def mNext : MS := fun s => some (.nx s)
def mSeq (m n : MS) : MS := fun s => (m s).bind fun out => match out with
  | .nx s' => n s'
  | o => some o
def mFz (m : M) : M := fun s => (m s).bind fun p => (frz1 p.2 p.1).bind fun q => some (.v q.1, q.2)
def mAsg (m : M) (i : Nat) : MS := fun s => (m s).bind fun p => (put p.2 i p.1).bind fun s' => some (.nx s')
def mDrop (m : M) : MS := fun s => (m s).bind fun p => some (.nx p.2)
def mRet (m : M) : MS := fun s => (m s).bind fun p => some (.rt p.1 p.2)
def mIf (m : MT) (a b : MS) : MS := fun s => (m s).bind fun p => if p.1 = true then a p.2 else b p.2
section
variable {X : Cx} {c : Cfg X.K} {pos : Pos} {st : Stmt} {rest : List Stmt} {m : M} {e : Expr}
/-- freezing changes nothing -/
theorem lift_fz {K : PySem.W.Frag} {c : Cfg K} {σ : St} {H : Hp} {Q : VK} (h : liftE c (mFz m) σ H Q) : liftE c m σ H Q := by
  obtain ⟨w, s, rfl, R, o, s', e, k⟩ := h
  obtain ⟨⟨o1, s1⟩, e1, e⟩ := bnd e
  obtain ⟨⟨d, s2⟩, e2, e⟩ := bnd e
  cases e
  refine ⟨w, s, rfl, R, o1, s1, e1, fun v w1 l1 R1 k1 q1 => ?_⟩
  obtain ⟨w2, hh, l2, R2, dp, ks, _⟩ := R1.freeze l1 q1 e2
  rw [← hh]
  exact k v w2 l2 R2 (k1.trans ks) dp
theorem she_fz (h : PE X e (liftE c m)) : PE X e (liftE c (mFz m)) := h.imp fun _ _ _ q => lift_fz q
theorem shs_nil : PSs X [] (liftS c mNext) := pss_nil.imp fun D σ H h => by
  obtain ⟨w, s, rfl, R, out, e, k⟩ := h
  cases e
  exact k σ w (Le.refl w) R (Kp.refl σ s)
theorem lift_seq {K : PySem.W.Frag} {c : Cfg K} {a b : MS} {D : Ends} {σ : St} {H : Hp} (h : liftS c (mSeq a b) D σ H) : tSeq (liftS c a) (liftS c b) D σ H := by
  obtain ⟨w, s, rfl, R, out, e, k⟩ := h
  obtain ⟨o1, e1, e⟩ := bnd e
  refine ⟨w, s, rfl, R, o1, e1, ?_⟩
  cases o1 with
  | nx s1 => exact fun σ1 w1 l1 R1 k1 => ⟨w1, s1, rfl, R1, out, e, k.back l1 k1⟩
  | rt o s1 =>
    cases e
    exact k
  | bk s1 =>
    cases e
    exact k
  | ct s1 =>
    cases e
    exact k
theorem shs_cons {a b : MS} (h1 : PS X st (liftS c a)) (h2 : PSs X rest (liftS c b)) : PSs X (st :: rest) (liftS c (mSeq a b)) := (pss_cons h1 h2).imp fun _ _ _ h => lift_seq h
theorem shs_one {a : MS} (h1 : PS X st (liftS c a)) : PSs X [st] (liftS c a) := pss_one h1
theorem lift_asg {K : PySem.W.Frag} {c : Cfg K} {m : M} {i : Nat} {D : Ends} {σ : St} {H : Hp} (h : liftS c (mAsg m i) D σ H) : liftE c m σ H fun x H1 => gName i x σ H1 D.nx := by
  obtain ⟨w, s, rfl, R, out, e, k⟩ := h
  obtain ⟨⟨o1, s1⟩, e1, e⟩ := bnd e
  obtain ⟨s2, e2, e⟩ := bnd e
  cases e
  refine ⟨w, s, rfl, R, o1, s1, e1, fun v w1 l1 R1 k1 q1 => ?_⟩
  obtain ⟨w2, hh, l2, R2, kp⟩ := R1.put l1 q1 e2
  show D.nx (σ.set i (some v)) w1.H
  rw [← hh]
  exact k _ w2 l2 R2 (k1.kp.trans kp)
/-- x = e -/
theorem shs_set {i : Nat} {x : Str} {pos' : Pos} (hN : X.N.Nodup) (hi : X.N[i]? = some x) (hx : Loc X.env.scope x) (he : PE X e (liftE c m)) (hs : swapsWith e (some (.Name x pos')) pos.line X.env = pure false := by rfl) (hf : X.fn x = true ∨ X.env.scope.names.lookup x = some .local := by first | exact .inl rfl | exact .inr rfl | assumption) :
    PS X (.Assign [.Name x pos'] e pos) (liftS c (mAsg m i)) := (ps_set hN hi hx he hs hf).imp fun _ _ _ h => lift_asg h
theorem shs_expr (he : PE X e (liftE c m)) (hs : swapsWith e none pos.line X.env = pure false := by rfl) : PS X (.Expr e pos) (liftS c (mDrop m)) := (ps_expr he hs).imp fun D σ H h => by
  obtain ⟨w, s, rfl, R, out, e, k⟩ := h
  obtain ⟨⟨o1, s1⟩, e1, e⟩ := bnd e
  cases e
  exact ⟨w, s, rfl, R, o1, s1, e1, fun v w1 l1 R1 k1 q1 => k σ w1 l1 R1 k1.kp⟩
theorem shs_ret (he : PE X e (liftE c m)) : PS X (.Return (some e) pos) (liftS c (mRet m)) := (ps_ret he).imp fun D σ H h => by
  obtain ⟨w, s, rfl, R, out, e, k⟩ := h
  obtain ⟨⟨o1, s1⟩, e1, e⟩ := bnd e
  cases e
  exact ⟨w, s, rfl, R, o1, s1, e1, fun v w1 l1 R1 k1 q1 => k v σ w1 l1 R1 k1.kp q1⟩
theorem shs_retN : PS X (.Return none pos) (liftS c (mRet (mC .none))) := ps_retN.imp fun D σ H h => by
  obtain ⟨w, s, rfl, R, out, e, k⟩ := h
  cases e
  exact k .non σ w (Le.refl w) R (Kp.refl σ s) .non
theorem shs_if {t : Expr} {mt : MT} {a b : List Stmt} {ma mb : MS} (ht : PT X t (liftT c mt)) (ha : PSs X a (liftS c ma)) (hb : PSs X b (liftS c mb)) : PS X (.If t a b pos) (liftS c (mIf mt ma mb)) := (ps_if ht ha hb).imp fun D σ H h => by
  obtain ⟨w, s, rfl, R, out, e, k⟩ := h
  obtain ⟨⟨b1, s1⟩, e1, e⟩ := bnd e
  refine ⟨w, s, rfl, R, b1, s1, e1, fun w1 l1 R1 k1 => ?_⟩
  cases b1 with
  | true => exact iteT ⟨w1, s1, rfl, R1, out, e, k.back l1 k1.kp⟩
  | false => exact iteF ⟨w1, s1, rfl, R1, out, e, k.back l1 k1.kp⟩
theorem shs_pass : PS X (.Pass pos) (liftS c mNext) := ps_pass.imp fun D σ H h => by
  obtain ⟨w, s, rfl, R, out, e, k⟩ := h
  cases e
  exact k σ w (Le.refl w) R (Kp.refl σ s)
theorem shs_break : PS X (.Break pos) (liftS c fun s => some (.bk s)) := ps_break.imp fun D σ H h => by
  obtain ⟨w, s, rfl, R, out, e, k⟩ := h
  cases e
  exact k σ w (Le.refl w) R (Kp.refl σ s)
theorem shs_continue : PS X (.Continue pos) (liftS c fun s => some (.ct s)) := ps_continue.imp fun D σ H h => by
  obtain ⟨w, s, rfl, R, out, e, k⟩ := h
  cases e
  exact k σ w (Le.refl w) R (Kp.refl σ s)

/-! ### displays -/
def opsD : List Op → Option (List D)
  | [] => some []
  | .v d :: r => (opsD r).bind fun ds => some (d :: ds)
  | _ :: _ => none
def mTup (n : MA) : M := fun s => (n s).bind fun p => (opsD p.1).bind fun ds => if ds.length ≤ 100000 then some (.v (.tuple ds), p.2) else none
def mLst (n : MA) : M := fun s => (n s).bind fun p => (opsD p.1).bind fun ds => if ds.length ≤ 100000 then some (.nw (.lst ds), p.2) else none
theorem ops_dp {K : PySem.W.Frag} {c : Cfg K} {B : Hp} {w : W} {σ : St} : ∀ {os : List Op} {vs : List V} {ds : List D}, RepOs c B w σ os vs → opsD os = some ds → DpAll K w.F vs ds
  | [], _, _, h, e => by
    cases h
    cases e
    exact .nil
  | o :: os, _, _, h, e => by
    cases h with
    | cons h1 h2 =>
      cases o with
      | v d =>
        obtain ⟨ds, e1, e⟩ := bnd (x := opsD os) e
        cases e
        exact .cons h1 (ops_dp h2 e1)
      | _ => cases e
variable {es : List Expr} {na : MA}
theorem she_tup {x1} (h : PA X es (liftA c na)) : PE X (.Tuple es x1 pos) (liftE c (mTup na)) := (pe_tup h).imp fun σ H Q q => by
  obtain ⟨w, s, rfl, R, o, s', e, k⟩ := q
  obtain ⟨⟨os, s1⟩, e1, e⟩ := bnd e
  obtain ⟨ds, e2, e⟩ := bnd e
  refine ⟨w, s, rfl, R, os, s1, e1, fun vs w1 l1 R1 k1 q1 => ?_⟩
  by_cases hz : ds.length ≤ 100000
  · rw [if_pos hz] at e
    cases e
    have dp := ops_dp q1 e2
    refine ⟨Evl.sz_of (by rw [dpa_len dp]; exact hz), fun p hp => ?_⟩
    exact Fin.tup R1.sub (Fin.go R1 (r := .d (.tuple ds)) fun v w' l R' q => k v w' (l1.trans l) R' k1 (q.back l1)) dp hp
  · rw [if_neg hz] at e
    cases e
theorem she_lst (h : PA X es (liftA c na)) : PE X (.List es pos) (liftE c (mLst na)) := (pe_lst h).imp fun σ H Q q => by
  obtain ⟨w, s, rfl, R, o, s', e, k⟩ := q
  obtain ⟨⟨os, s1⟩, e1, e⟩ := bnd e
  obtain ⟨ds, e2, e⟩ := bnd e
  refine ⟨w, s, rfl, R, os, s1, e1, fun vs w1 l1 R1 k1 q1 => ?_⟩
  by_cases hz : ds.length ≤ 100000
  · rw [if_pos hz] at e
    cases e
    have dp := ops_dp q1 e2
    refine ⟨Evl.sz_of (by rw [dpa_len dp]; exact hz), fun p hp => ?_⟩
    exact Fin.lst R1.sub (Fin.go R1 (r := .nl ds) fun v w' l R' q => k v w' (l1.trans l) R' k1 (q.back l1)) dp hp
  · rw [if_neg hz] at e
    cases e
end
end Sh

set_option Elab.async false
set_option linter.all false
set_option maxRecDepth 100000
set_option maxHeartbeats 1000000
/-! Sh4: defs and their calls. -/
namespace Sh
open PySem L2
abbrev SemF := List Slot → Option (Op × List Slot)
def isOw : Option Slot → Bool
  | some (.ow _ _) => true
  | _ => false
section
variable {K : PySem.W.Frag}
/-- the promise of a def that is told by f -/
def spF (c : Cfg K) (n : Nat) (f : SemF) : Sp := fun vs H Q _ => vs.length = n ∧ ∃ w ss, w.H = H ∧ Rel c w (vs.map some) ss ∧ ∃ o ss', f ss = some (o, ss') ∧ (∀ i, o ≠ .sl i) ∧
  ∀ v w', Le w w' → Rel c w' (vs.map some) ss' → RepO c w.H w' (vs.map some) o v → Q v w'.H
def conv (ss s : List Slot) : Op → Option Op
  | .v d => some (.v d)
  | .nw k => some (.nw k)
  | .sl i => match s[i]? with
    | some (.fz d) => some (.v d)
    | some (.ow false k) => if isOw ss[i]? then none else some (.nw k)
    | _ => none
def outs : List Slot → List Slot → Option (List Slot)
  | [], _ => some []
  | .fz d :: r, _ :: r' => (outs r r').bind fun t => some (.fz d :: t)
  | .ow true _ :: r, .ow true k :: r' => (outs r r').bind fun t => some (.ow true k :: t)
  | _, _ => none
def bodyF (N : Nat) (m : MS) : SemF := fun ss => (m (ss ++ List.replicate (N - ss.length) .un)).bind fun out => match out with
  | .nx s' => (outs ss s').bind fun ss' => some (.v .none, ss')
  | .rt o s' => (conv ss s' o).bind fun o' => (outs ss s').bind fun ss' => some (o', ss')
  | _ => none
theorem outs_len : ∀ {ss s ss' : List Slot}, outs ss s = some ss' → ss'.length = ss.length
  | [], _, _, h => by
    cases h
    rfl
  | .fz d :: r, _ :: r', _, h => by
    obtain ⟨t, e1, e⟩ := bnd (x := outs r r') h
    cases e
    rw [List.length_cons, List.length_cons, outs_len e1]
  | .ow true _ :: r, .ow true k :: r', _, h => by
    obtain ⟨t, e1, e⟩ := bnd (x := outs r r') h
    cases e
    rw [List.length_cons, List.length_cons, outs_len e1]
  | .fz _ :: _, [], _, h => by cases h
  | .un :: _, _, _, h => by cases h
  | .ow false _ :: _, _, _, h => by cases h
  | .ow true _ :: _, [], _, h => by cases h
  | .ow true _ :: _, .un :: _, _, h => by cases h
  | .ow true _ :: _, .fz _ :: _, _, h => by cases h
  | .ow true _ :: _, .ow false _ :: _, _, h => by cases h
theorem outs_get : ∀ {ss s ss' : List Slot}, outs ss s = some ss' → ∀ (i : Nat) (x : Slot), ss'[i]? = some x → (∃ d, x = .fz d ∧ ss[i]? = some (.fz d)) ∨ (∃ k, x = .ow true k ∧ s[i]? = some (.ow true k))
  | [], _, _, h, i, x, e => by
    cases h
    cases e
  | .fz d :: r, _ :: r', _, h, i, x, e => by
    obtain ⟨t, e1, e2⟩ := bnd (x := outs r r') h
    cases e2
    cases i with
    | zero =>
      cases e
      exact .inl ⟨d, rfl, rfl⟩
    | succ i => exact outs_get e1 i x e
  | .ow true _ :: r, .ow true k :: r', _, h, i, x, e => by
    obtain ⟨t, e1, e2⟩ := bnd (x := outs r r') h
    cases e2
    cases i with
    | zero =>
      cases e
      exact .inr ⟨k, rfl, rfl⟩
    | succ i => exact outs_get e1 i x e
  | .fz _ :: _, [], _, h, _, _, _ => by cases h
  | .un :: _, _, _, h, _, _, _ => by cases h
  | .ow false _ :: _, _, _, h, _, _, _ => by cases h
  | .ow true _ :: _, [], _, h, _, _, _ => by cases h
  | .ow true _ :: _, .un :: _, _, h, _, _, _ => by cases h
  | .ow true _ :: _, .fz _ :: _, _, h, _, _, _ => by cases h
  | .ow true _ :: _, .ow false _ :: _, _, h, _, _, _ => by cases h
variable {c : Cfg K} {w w' : W} {σ σ' : St} {s s' ss ss' : List Slot} {o o' : Op} {v : V} {d : D} {vs : List V}
theorem Rel.pad (R : Rel c w σ s) (m : Nat) : Rel c w (σ ++ List.replicate m none) (s ++ List.replicate m .un) := by
  have un : ∀ (i : Nat) (x : Slot), (s ++ List.replicate m .un)[i]? = some x → x = .un ∨ s[i]? = some x := fun i x h => by
    by_cases q : i < s.length
    · rw [List.getElem?_append_left q] at h
      exact .inr h
    · rw [List.getElem?_append_right (by omega), List.getElem?_replicate] at h
      split at h
      · cases h
        exact .inl rfl
      · cases h
  have up : ∀ (i : Nat) (v : V), σ[i]? = some (some v) → (σ ++ List.replicate m none)[i]? = some (some v) := fun i v h => by
    rw [List.getElem?_append_left (List.getElem?_eq_some_iff.mp h).1]
    exact h
  refine ⟨by rw [List.length_append, List.length_append, List.length_replicate, List.length_replicate, R.len], R.sub, R.out, fun i d h => ?_, fun i p k h => ?_, R.dis, fun i h => ?_⟩
  · rcases un i _ h with q | q
    · cases q
    · obtain ⟨v, h1, h2⟩ := R.fz i d q
      exact ⟨v, up i v h1, h2⟩
  · rcases un i _ h with q | q
    · cases q
    · obtain ⟨v, h1, h2⟩ := R.ow i p k q
      exact ⟨v, up i v h1, h2⟩
  · refine R.non i fun p k q => h p k ?_
    rw [List.getElem?_append_left (List.getElem?_eq_some_iff.mp q).1]
    exact q
theorem Rel.leave (R0 : Rel c w (vs.map some) ss) {m : Nat} (l : Le w w') (R : Rel c w' σ' s') (kp : Kp (vs.map some ++ List.replicate m none) (ss ++ List.replicate m .un) σ' s') (e : outs ss s' = some ss') :
    ∃ w'', w''.H = w'.H ∧ Le w w'' ∧ Rel c w'' (vs.map some) ss' ∧ ∀ o o' v, conv ss s' o = some o' → RepO c w.H w' σ' o v → RepO c w.H w'' (vs.map some) o' v := by
  have hφ : ∀ i a, a ∈ (if isOw ss'[i]? = true then w'.φ i else []) → a ∈ w'.φ i ∧ ∃ k, ss'[i]? = some (.ow true k) ∧ s'[i]? = some (.ow true k) := fun i a h => by
    split at h
    · rename_i q
      refine ⟨h, ?_⟩
      cases hx : ss'[i]? with
      | none =>
        rw [hx] at q
        cases q
      | some x =>
        rw [hx] at q
        rcases outs_get e i x hx with ⟨d, rfl, _⟩ | ⟨k, rfl, h2⟩
        · cases q
        · exact ⟨k, rfl, h2⟩
    · cases h
  have hvs : ∀ (j : Nat) (x : Slot), ss'[j]? = some x → (vs.map some ++ List.replicate m none)[j]? = (vs.map some)[j]? := fun j x h => by
    have h1 := (List.getElem?_eq_some_iff.mp h).1
    rw [outs_len e, ← R0.len] at h1
    exact List.getElem?_append_left h1
  refine ⟨{ w' with φ := fun i => if isOw ss'[i]? = true then w'.φ i else [] }, rfl, ⟨l.f, fun a x h n => l.h a x h n, fun i a h => l.p i a (hφ i a h).1, l.t⟩, ⟨by rw [outs_len e]; exact R0.len, R.sub, fun i a h => R.out i a (hφ i a h).1, fun i d h => ?_, fun i p k h => ?_, fun i j a h1 h2 => R.dis i j a (hφ i a h1).1 (hφ j a h2).1, fun i h => ?_⟩, ?_⟩
  · rcases outs_get e i _ h with ⟨d', q, h2⟩ | ⟨k, q, _⟩
    · cases q
      obtain ⟨v, h3, h4⟩ := R0.fz i d h2
      exact ⟨v, h3, dp_mono l.f _ _ h4⟩
    · cases q
  · rcases outs_get e i _ h with ⟨d', q, h2⟩ | ⟨k', q, h2⟩
    · cases q
    · cases q
      obtain ⟨v, h3, h4⟩ := R.ow i true k h2
      obtain ⟨h5, _⟩ := kp i k h2
      refine ⟨v, ?_, ?_⟩
      · rw [← hvs i _ h, ← h5]
        exact h3
      · show Own c w'.F w'.H v k (if isOw ss'[i]? = true then w'.φ i else [])
        rw [h, if_pos (show isOw (some (Slot.ow true k)) = true from rfl)]
        exact h4
  · show (if isOw ss'[i]? = true then w'.φ i else []) = []
    rw [if_neg]
    intro q
    cases hx : ss'[i]? with
    | none =>
      rw [hx] at q
      cases q
    | some x =>
      rw [hx] at q
      cases x with
      | ow p k => exact h p k hx
      | un => cases q
      | fz d => cases q
  · intro o o' v hc ho
    have nofp : ∀ (fp : List Addr), (∀ a ∈ fp, w.H a = none ∧ w'.F a = none ∧ w'.no a ∧ ∃ o, w'.H a = some o) → ∀ a ∈ fp, w.H a = none ∧ w'.F a = none ∧ (∀ i, a ∉ (if isOw ss'[i]? = true then w'.φ i else [])) ∧ ∃ o, w'.H a = some o := fun fp h a ha => ⟨(h a ha).1, (h a ha).2.1, fun i z => (h a ha).2.2.1 i (hφ i a z).1, (h a ha).2.2.2⟩
    cases o with
    | v d =>
      cases hc
      exact ho
    | nw k =>
      cases hc
      obtain ⟨fp, h1, h2⟩ := ho
      exact ⟨fp, h1, nofp fp h2⟩
    | sl i =>
      have ho : σ'[i]? = some (some v) := ho
      have hc : (match s'[i]? with | some (.fz d) => some (Op.v d) | some (.ow false k) => if isOw ss[i]? = true then none else some (.nw k) | _ => none) = some o' := hc
      cases hx : s'[i]? with
      | none =>
        rw [hx] at hc
        cases hc
      | some x =>
        rw [hx] at hc
        cases x with
        | un => cases hc
        | fz d =>
          cases hc
          obtain ⟨u, h1, h2⟩ := R.fz i d hx
          rw [ho] at h1
          cases h1
          exact h2
        | ow p k =>
          cases p with
          | true => cases hc
          | false =>
            have hc : (if isOw ss[i]? = true then none else some (Op.nw k)) = some o' := hc
            split at hc
            · cases hc
            · rename_i no
              cases hc
              obtain ⟨u, h1, h2⟩ := R.ow i false k hx
              rw [ho] at h1
              cases h1
              have e0 : w.φ i = [] := R0.non i fun p k q => no (by rw [q]; rfl)
              refine ⟨w'.φ i, h2, fun a ha => ⟨?_, (R.out i a ha).1, fun j z => ?_, (R.out i a ha).2⟩⟩
              · rcases l.p i a ha with q | q
                · rw [e0] at q
                  cases q
                · exact q
              · obtain ⟨z1, k2, _, z2⟩ := hφ j a z
                have e := R.dis i j a ha z1
                subst e
                rw [hx] at z2
                cases z2
theorem conv_sl {ss s : List Slot} {o o' : Op} (h : conv ss s o = some o') : ∀ i, o' ≠ .sl i := by
  intro i z
  subst z
  cases o with
  | v d => cases h
  | nw k => cases h
  | sl j =>
    have h : (match s[j]? with | some (.fz d) => some (Op.v d) | some (.ow false k) => if isOw ss[j]? = true then none else some (.nw k) | _ => none) = some (Op.sl i) := h
    cases hx : s[j]? with
    | none =>
      rw [hx] at h
      cases h
    | some x =>
      rw [hx] at h
      cases x with
      | un => cases h
      | fz d => cases h
      | ow p k =>
        cases p with
        | true => cases h
        | false =>
          have h : (if isOw ss[j]? = true then none else some (Op.nw k)) = some (.sl i) := h
          split at h
          · cases h
          · cases h
end
/-- THE RULE for a def -/
theorem fn_sem {P : Program} {w : World} {K : PySem.W.Frag} {mg : Str → Option Value} {base : Heap} {x qual : Str} {st : Stmt} {f : Addr} {fd : FuncData} {N ps : List Str} {k l n : Nat} {c : Cfg K} {m : MS} (F : Fun K x qual st f fd) (S : FnScope N ps (defScope st)) (hN : N.length = l) (hn : ps.length = n)
    (hb : ∀ (cdv : Value) (A : Around) (outer : List Env) (s : Shared) (H : Hp) (E : XK), Room k (A.deeper (PyProof.Rows.envOfC qual (defScope st) s.heap.objs.size f cdv)) →
      PSs (cxOf CX0 P w K mg base N qual (defScope st) f cdv A outer s H E).nox (defBody st) (liftS c m)) : FnOk P w K mg base CX0 (k + 1) f fd ps (spF c n (bodyF l m)) := by
  subst hN hn
  refine F.ok S (fun vs H Q E h => h.1) (fun cdv A outer s H vs Q E hr h => ⟨_, hb cdv A outer s H E hr, ?_⟩)
  obtain ⟨hl, w1, ss, rfl, R, o, ss', e, ns, q⟩ := h
  obtain ⟨out, e1, e⟩ := bnd e
  have hlen : vs.length = ss.length := by
    have := R.len
    rw [List.length_map] at this
    exact this
  have R1 : Rel c w1 (L2.start N vs) (ss ++ List.replicate (N.length - ss.length) .un) := by
    unfold L2.start
    rw [hlen]
    exact R.pad _
  refine ⟨w1, _, rfl, R1, out, e1, ?_⟩
  have kp' : ∀ {σ' : St} {s' : List Slot}, Kp (L2.start N vs) (ss ++ List.replicate (N.length - ss.length) .un) σ' s' → Kp (vs.map some ++ List.replicate (N.length - ss.length) none) (ss ++ List.replicate (N.length - ss.length) .un) σ' s' := fun {σ' s'} h => by
    unfold L2.start at h
    rw [hlen] at h
    exact h
  cases out with
  | nx s' =>
    obtain ⟨ss2, e2, e⟩ := bnd (x := outs ss s') e
    cases e
    intro σ' w' l R' kp
    obtain ⟨w2, hh, l2, R2, _⟩ := R.leave l R' (kp' kp) e2
    show Q .non w'.H
    rw [← hh]
    exact q _ w2 l2 R2 .non
  | rt o1 s' =>
    obtain ⟨o2, e2, e⟩ := bnd (x := conv ss s' o1) e
    obtain ⟨ss2, e3, e⟩ := bnd e
    cases e
    intro v σ' w' l R' kp ho
    obtain ⟨w2, hh, l2, R2, hc⟩ := R.leave l R' (kp' kp) e3
    show Q v w'.H
    rw [← hh]
    exact q _ w2 l2 R2 (hc o1 _ v e2 ho)
  | bk s' => cases e
  | ct s' => cases e

/-! ### calls -/
def pass (s : List Slot) : List Op → Option (List Slot)
  | [] => some []
  | .v d :: r => (pass s r).bind fun t => some (.fz d :: t)
  | .nw _ :: _ => none
  | .sl i :: r => match s[i]? with
    | some (.fz d) => (pass s r).bind fun t => some (.fz d :: t)
    | some (.ow _ k) => (pass s r).bind fun t => some (.ow true k :: t)
    | _ => none
def jOf : List Op → Nat → Option Nat
  | [], _ => none
  | .sl k :: r, i => if k = i then some 0 else (jOf r i).map (· + 1)
  | .v _ :: r, i => (jOf r i).map (· + 1)
  | .nw _ :: r, i => (jOf r i).map (· + 1)
def dst (s : List Slot) : List Op → Bool
  | [] => true
  | .sl i :: r => (!isOw s[i]? || (jOf r i).isNone) && dst s r
  | .v _ :: r => dst s r
  | .nw _ :: r => dst s r
def shp : List Slot → List Slot → Bool
  | [], [] => true
  | .fz _ :: r, .fz _ :: r' => shp r r'
  | .ow _ _ :: r, .ow true _ :: r' => shp r r'
  | _, _ => false
def wb2 (p : Bool) : Option Slot → Slot
  | some (.ow _ k) => .ow p k
  | _ => .un
def wb1 (p : Bool) (k : Cont) (ss' : List Slot) : Option Nat → Slot
  | some j => wb2 p ss'[j]?
  | none => .ow p k
def wb (os : List Op) (ss' : List Slot) (i : Nat) : Slot → Slot
  | .ow p k => wb1 p k ss' (jOf os i)
  | x => x
theorem wb2_ow {p p' : Bool} {k : Cont} {x : Option Slot} (h : wb2 p x = .ow p' k) : p' = p ∧ ∃ q, x = some (.ow q k) := by
  cases x with
  | none => cases h
  | some x =>
    cases x with
    | un => cases h
    | fz d => cases h
    | ow q k' =>
      cases h
      exact ⟨rfl, q, rfl⟩
theorem wb2_fz {p : Bool} {d : D} {x : Option Slot} (h : wb2 p x = .fz d) : False := by
  cases x with
  | none => cases h
  | some x => cases x <;> cases h
theorem wb_fz {os : List Op} {ss' : List Slot} {i : Nat} {d : D} {y : Slot} (h : .fz d = wb os ss' i y) : y = .fz d := by
  cases y with
  | un => cases h
  | fz d' =>
    cases h
    rfl
  | ow p k =>
    have h : Slot.fz d = wb1 p k ss' (jOf os i) := h
    cases z : jOf os i with
    | none =>
      rw [z] at h
      cases h
    | some j =>
      rw [z] at h
      exact (wb2_fz h.symm).elim
theorem wb_ow {os : List Op} {ss' : List Slot} {i : Nat} {p : Bool} {k : Cont} {y : Slot} (h : .ow p k = wb os ss' i y) : ∃ k', y = .ow p k' ∧ ((jOf os i = none ∧ k' = k) ∨ ∃ j q, jOf os i = some j ∧ ss'[j]? = some (.ow q k)) := by
  cases y with
  | un => cases h
  | fz d' => cases h
  | ow p' k' =>
    have h : Slot.ow p k = wb1 p' k' ss' (jOf os i) := h
    cases z : jOf os i with
    | none =>
      rw [z] at h
      cases h
      exact ⟨_, rfl, .inl ⟨rfl, rfl⟩⟩
    | some j =>
      rw [z] at h
      obtain ⟨rfl, q, hq⟩ := wb2_ow h.symm
      exact ⟨_, rfl, .inr ⟨j, q, rfl, hq⟩⟩
def Op.isSl : Op → Bool
  | .sl _ => true
  | _ => false
theorem Op.not_sl {o : Op} (h : o.isSl = false) : ∀ i, o ≠ .sl i := fun i z => by
  subst z
  cases h
def mCallF (f : SemF) (ma : MA) : M := fun s => (ma s).bind fun p => (pass p.2 p.1).bind fun ss => if dst p.2 p.1 = true then (f ss).bind fun r => if (shp ss r.2 && !r.1.isSl) = true then some (r.1, p.2.mapIdx (wb p.1 r.2)) else none else none
theorem jOf_some : ∀ {os : List Op} {i j : Nat}, jOf os i = some j → os[j]? = some (.sl i)
  | [], _, _, h => by cases h
  | .sl k :: r, i, j, h => by
    unfold jOf at h
    split at h
    · rename_i q
      cases h
      rw [q]
      rfl
    · cases q : jOf r i with
      | none =>
        rw [q] at h
        cases h
      | some j' =>
        rw [q] at h
        cases h
        exact jOf_some (os := r) q
  | .v _ :: r, i, j, h => by
    unfold jOf at h
    cases q : jOf r i with
    | none =>
      rw [q] at h
      cases h
    | some j' =>
      rw [q] at h
      cases h
      exact jOf_some (os := r) q
  | .nw _ :: r, i, j, h => by
    unfold jOf at h
    cases q : jOf r i with
    | none =>
      rw [q] at h
      cases h
    | some j' =>
      rw [q] at h
      cases h
      exact jOf_some (os := r) q
theorem jOf_none : ∀ {os : List Op} {i : Nat}, jOf os i = none → ∀ (j : Nat), os[j]? ≠ some (Op.sl i)
  | [], _, _, j => by simp
  | .sl k :: r, i, h, j => by
    unfold jOf at h
    split at h
    · cases h
    · rename_i q
      cases j with
      | zero =>
        intro z
        cases z
        exact q rfl
      | succ j =>
        have h' : jOf r i = none := by
          cases q : jOf r i with
          | none => rfl
          | some j' =>
            rw [q] at h
            cases h
        exact jOf_none (os := r) h' j
  | .v _ :: r, i, h, j => by
    unfold jOf at h
    cases j with
    | zero => intro z; cases z
    | succ j =>
      have h' : jOf r i = none := by
        cases q : jOf r i with
        | none => rfl
        | some j' =>
          rw [q] at h
          cases h
      exact jOf_none (os := r) h' j
  | .nw _ :: r, i, h, j => by
    unfold jOf at h
    cases j with
    | zero => intro z; cases z
    | succ j =>
      have h' : jOf r i = none := by
        cases q : jOf r i with
        | none => rfl
        | some j' =>
          rw [q] at h
          cases h
      exact jOf_none (os := r) h' j
theorem dst_uniq {s : List Slot} : ∀ {os : List Op}, dst s os = true → ∀ {i j j' : Nat}, isOw s[i]? = true → os[j]? = some (.sl i) → os[j']? = some (.sl i) → j = j'
  | [], _, _, _, _, _, h, _ => by simp at h
  | o :: r, hd, i, j, j', ho, h1, h2 => by
    have hr : dst s r = true := by
      cases o with
      | sl k =>
        have hd : ((!isOw s[k]? || (jOf r k).isNone) && dst s r) = true := hd
        exact (Bool.and_eq_true_iff.mp hd).2
      | v d => exact hd
      | nw k => exact hd
    have key : ∀ {j : Nat}, o = .sl i → r[j]? = some (.sl i) → False := fun {j} e h => by
      subst e
      have hd : ((!isOw s[i]? || (jOf r i).isNone) && dst s r) = true := hd
      have h3 := (Bool.and_eq_true_iff.mp hd).1
      rw [ho] at h3
      have h4 : (jOf r i).isNone = true := h3
      exact jOf_none (Option.isNone_iff_eq_none.mp h4) j h
    cases j with
    | zero =>
      cases j' with
      | zero => rfl
      | succ j' => exact (key (Option.some.inj h1) h2).elim
    | succ j =>
      cases j' with
      | zero => exact (key (Option.some.inj h2) h1).elim
      | succ j' => rw [dst_uniq hr ho h1 h2]
theorem pass_len {s : List Slot} : ∀ {os : List Op} {ss : List Slot}, pass s os = some ss → ss.length = os.length
  | [], _, h => by
    cases h
    rfl
  | .v d :: r, _, h => by
    obtain ⟨t, e1, e⟩ := bnd (x := pass s r) h
    cases e
    rw [List.length_cons, List.length_cons, pass_len e1]
  | .nw _ :: _, _, h => by cases h
  | .sl i :: r, _, h => by
    unfold pass at h
    cases q : s[i]? with
    | none =>
      rw [q] at h
      cases h
    | some x =>
      rw [q] at h
      cases x with
      | un => cases h
      | fz d =>
        obtain ⟨t, e1, e⟩ := bnd (x := pass s r) h
        cases e
        rw [List.length_cons, List.length_cons, pass_len e1]
      | ow p k =>
        obtain ⟨t, e1, e⟩ := bnd (x := pass s r) h
        cases e
        rw [List.length_cons, List.length_cons, pass_len e1]
theorem pass_get {s : List Slot} : ∀ {os : List Op} {ss : List Slot}, pass s os = some ss → ∀ (j : Nat) (x : Slot), ss[j]? = some x →
    (∃ d, x = .fz d ∧ (os[j]? = some (.v d) ∨ ∃ i, os[j]? = some (.sl i) ∧ s[i]? = some (.fz d))) ∨ (∃ i p k, x = .ow true k ∧ os[j]? = some (.sl i) ∧ s[i]? = some (.ow p k))
  | [], _, h, j, x, e => by
    cases h
    cases e
  | .v d :: r, _, h, j, x, e => by
    obtain ⟨t, e1, e2⟩ := bnd (x := pass s r) h
    cases e2
    cases j with
    | zero =>
      cases e
      exact .inl ⟨d, rfl, .inl rfl⟩
    | succ j => exact pass_get e1 j x e
  | .nw _ :: _, _, h, _, _, _ => by cases h
  | .sl i :: r, _, h, j, x, e => by
    unfold pass at h
    cases q : s[i]? with
    | none =>
      rw [q] at h
      cases h
    | some y =>
      rw [q] at h
      cases y with
      | un => cases h
      | fz d =>
        obtain ⟨t, e1, e2⟩ := bnd (x := pass s r) h
        cases e2
        cases j with
        | zero =>
          cases e
          exact .inl ⟨d, rfl, .inr ⟨i, rfl, q⟩⟩
        | succ j => exact pass_get e1 j x e
      | ow p k =>
        obtain ⟨t, e1, e2⟩ := bnd (x := pass s r) h
        cases e2
        cases j with
        | zero =>
          cases e
          exact .inr ⟨i, p, k, rfl, rfl, q⟩
        | succ j => exact pass_get e1 j x e
theorem shp_get : ∀ {ss ss' : List Slot}, shp ss ss' = true → ∀ (j : Nat) (x : Slot), ss'[j]? = some x → (∃ d d', x = .fz d' ∧ ss[j]? = some (.fz d)) ∨ (∃ p k k', x = .ow true k' ∧ ss[j]? = some (.ow p k))
  | [], [], _, j, x, e => by cases e
  | .fz d :: r, .fz d' :: r', h, j, x, e => by
    cases j with
    | zero =>
      cases e
      exact .inl ⟨d, d', rfl, rfl⟩
    | succ j => exact shp_get (ss := r) (ss' := r') h j x e
  | .ow p k :: r, .ow true k' :: r', h, j, x, e => by
    cases j with
    | zero =>
      cases e
      exact .inr ⟨p, k, k', rfl, rfl⟩
    | succ j => exact shp_get (ss := r) (ss' := r') h j x e
  | .un :: _, _, h, _, _, _ => by cases h
  | [], _ :: _, h, _, _, _ => by cases h
  | .fz _ :: _, [], h, _, _, _ => by cases h
  | .fz _ :: _, .un :: _, h, _, _, _ => by cases h
  | .fz _ :: _, .ow _ _ :: _, h, _, _, _ => by cases h
  | .ow _ _ :: _, [], h, _, _, _ => by cases h
  | .ow _ _ :: _, .un :: _, h, _, _, _ => by cases h
  | .ow _ _ :: _, .fz _ :: _, h, _, _, _ => by cases h
  | .ow _ _ :: _, .ow false _ :: _, h, _, _, _ => by cases h
theorem paired_get {α β : Type} {R : α → β → Prop} : ∀ {xs : List α} {ys : List β}, Paired R xs ys → ∀ {j : Nat} {x : α}, xs[j]? = some x → ∃ y, ys[j]? = some y ∧ R x y
  | _, _, .nil, _, _, h => by simp at h
  | _, _, .cons r t, 0, _, h => by
    cases h
    exact ⟨_, rfl, r⟩
  | _, _, .cons r t, j + 1, _, h => paired_get (j := j) t h
section
variable {K : PySem.W.Frag} {c : Cfg K} {w w' : W} {σ σ' : St} {s s' ss ss' : List Slot} {o o' : Op} {v : V} {d : D} {vs : List V} {os : List Op} {B : Hp}
/-- what a callee gets -/
def subφ (w : W) (os : List Op) : Nat → List Addr := fun j => match os[j]? with
  | some (.sl i) => w.φ i
  | _ => []
theorem mem_subφ {w : W} {os : List Op} {j : Nat} {a : Addr} (h : a ∈ subφ w os j) : ∃ i, os[j]? = some (.sl i) ∧ a ∈ w.φ i := by
  unfold subφ at h
  cases q : os[j]? with
  | none =>
    rw [q] at h
    cases h
  | some x =>
    rw [q] at h
    cases x with
    | v d => cases h
    | nw k => cases h
    | sl i => exact ⟨i, rfl, h⟩
theorem Rel.ow_of (R : Rel c w σ s) {i : Nat} {a : Addr} (h : a ∈ w.φ i) : ∃ p k, s[i]? = some (.ow p k) := by
  cases q : s[i]? with
  | none =>
    have z := R.non i fun p k e => by
      rw [q] at e
      cases e
    rw [z] at h
    cases h
  | some x =>
    cases x with
    | ow p k => exact ⟨p, k, rfl⟩
    | un =>
      have z := R.non i fun p k e => by
        rw [q] at e
        cases e
      rw [z] at h
      cases h
    | fz d =>
      have z := R.non i fun p k e => by
        rw [q] at e
        cases e
      rw [z] at h
      cases h
theorem Rel.enter (R : Rel c w σ s) (q : RepOs c B w σ os vs) (e : pass s os = some ss) (hd : dst s os = true) : Rel c { w with φ := subφ w os } (vs.map some) ss := by
  have hl : vs.length = os.length := q.length.symm
  have val : ∀ {j : Nat} {x : Op}, os[j]? = some x → ∃ v, (vs.map some)[j]? = some (some v) ∧ RepO c B w σ x v := fun {j x} h => by
    obtain ⟨v, h1, h2⟩ := paired_get q h
    exact ⟨v, by rw [List.getElem?_map, h1]; rfl, h2⟩
  refine ⟨by rw [List.length_map, pass_len e, hl], R.sub, fun j a h => ?_, fun j d h => ?_, fun j p k h => ?_, fun j j' a h1 h2 => ?_, fun j h => ?_⟩
  · obtain ⟨i, _, h1⟩ := mem_subφ h
    exact R.out i a h1
  · rcases pass_get e j _ h with ⟨d', z, h1⟩ | ⟨i, p, k, z, _⟩
    · cases z
      rcases h1 with h1 | ⟨i, h1, h2⟩
      · obtain ⟨v, h3, h4⟩ := val h1
        exact ⟨v, h3, h4⟩
      · obtain ⟨v, h3, h4⟩ := val h1
        have h4 : σ[i]? = some (some v) := h4
        obtain ⟨u, h5, h6⟩ := R.fz i d h2
        rw [h4] at h5
        cases h5
        exact ⟨v, h3, h6⟩
    · cases z
  · rcases pass_get e j _ h with ⟨d', z, h1⟩ | ⟨i, p', k', z, h1, h2⟩
    · cases z
    · cases z
      obtain ⟨v, h3, h4⟩ := val h1
      have h4 : σ[i]? = some (some v) := h4
      obtain ⟨u, h5, h6⟩ := R.ow i p' k h2
      rw [h4] at h5
      cases h5
      refine ⟨v, h3, ?_⟩
      show Own c w.F w.H v k (subφ w os j)
      unfold subφ
      rw [h1]
      exact h6
  · obtain ⟨i, h3, h4⟩ := mem_subφ h1
    obtain ⟨i', h5, h6⟩ := mem_subφ h2
    have z := R.dis i i' a h4 h6
    subst z
    obtain ⟨p, k, h7⟩ := R.ow_of h4
    exact dst_uniq hd (by rw [h7]; rfl) h3 h5
  · cases hx : subφ w os j with
    | nil => exact hx
    | cons a r =>
      obtain ⟨i, h1, h2⟩ := mem_subφ (w := w) (os := os) (j := j) (a := a) (by rw [hx]; exact List.mem_cons_self)
      obtain ⟨p, k, h3⟩ := R.ow_of h2
      exfalso
      have hj : j < ss.length := by
        rw [pass_len e]
        exact (List.getElem?_eq_some_iff.mp h1).1
      rcases pass_get e j ss[j] (List.getElem?_eq_getElem hj) with ⟨d', z, h4⟩ | ⟨i', p', k', z, _⟩
      · rcases h4 with h4 | ⟨i', h4, h5⟩
        · rw [h1] at h4
          cases h4
        · rw [h1] at h4
          cases h4
          rw [h3] at h5
          cases h5
      · exact h true k' (by rw [List.getElem?_eq_getElem hj, z])
theorem wb_get {s : List Slot} {os : List Op} {ss' : List Slot} {i : Nat} {x : Slot} (h : (s.mapIdx (wb os ss'))[i]? = some x) : ∃ y, s[i]? = some y ∧ x = wb os ss' i y := by
  rw [List.getElem?_mapIdx] at h
  cases q : s[i]? with
  | none =>
    rw [q] at h
    cases h
  | some y =>
    rw [q] at h
    cases h
    exact ⟨y, rfl, rfl⟩
theorem Rel.back (R : Rel c w σ s) (q : RepOs c B w σ os vs) (e : pass s os = some ss) (hd : dst s os = true) (l : Le { w with φ := subφ w os } w') (R' : Rel c w' (vs.map some) ss') (hs : shp ss ss' = true) :
    ∃ w2, w2.H = w'.H ∧ w2.F = w'.F ∧ Le w w2 ∧ Rel c w2 σ (s.mapIdx (wb os ss')) ∧ Keep s (s.mapIdx (wb os ss')) ∧ ∀ a, w.H a = none → w'.no a → w2.no a := by
  -- the slots that were handed over
  let φ2 : Nat → List Addr := fun i => match jOf os i with
    | some j => w'.φ j
    | none => w.φ i
  have hφ : ∀ i a, a ∈ φ2 i → (∃ j, jOf os i = some j ∧ a ∈ w'.φ j) ∨ (jOf os i = none ∧ a ∈ w.φ i) := fun i a h => by
    have h : a ∈ (match jOf os i with | some j => w'.φ j | none => w.φ i) := h
    cases z : jOf os i with
    | none =>
      rw [z] at h
      exact .inr ⟨rfl, h⟩
    | some j =>
      rw [z] at h
      exact .inl ⟨j, rfl, h⟩
  have noc : ∀ i a, jOf os i = none → a ∈ w.φ i → ∀ j, a ∉ subφ w os j := fun i a h1 h2 j h3 => by
    obtain ⟨i', h4, h5⟩ := mem_subφ h3
    have z := R.dis i i' a h2 h5
    subst z
    exact jOf_none h1 j h4
  have keepu : ∀ i a, jOf os i = none → a ∈ w.φ i → ∀ o, w.H a = some o → w'.H a = some o ∧ w'.F a = w.F a := fun i a h1 h2 o h3 => l.h a o h3 (noc i a h1 h2)
  have cross : ∀ i i' a j, jOf os i = some j → a ∈ w'.φ j → jOf os i' = none → a ∈ w.φ i' → False := fun i i' a j h1 h2 h3 h4 => by
    obtain ⟨_, o, h5⟩ := R.out i' a h4
    rcases l.p j a h2 with z | z
    · exact noc i' a h3 h4 j z
    · have z : w.H a = none := z
      rw [h5] at z
      cases z
  have hval : ∀ {j : Nat} {i : Nat} {v : V}, os[j]? = some (.sl i) → (vs.map some)[j]? = some (some v) → σ[i]? = some (some v) := fun {j i v} h1 h2 => by
    obtain ⟨u, h3, h4⟩ := paired_get q h1
    rw [List.getElem?_map, h3] at h2
    cases h2
    exact h4
  have lew : Le w { w' with φ := φ2 } := ⟨l.f, fun a o h n => l.h a o h fun j z => by
    obtain ⟨i, _, h2⟩ := mem_subφ z
    exact n i h2, fun i a h => by
    rcases hφ i a h with ⟨j, h1, h2⟩ | ⟨h1, h2⟩
    · rcases l.p j a h2 with z | z
      · obtain ⟨i', h3, h4⟩ := mem_subφ z
        have h5 := jOf_some h1
        rw [h3] at h5
        cases h5
        exact .inl h4
      · exact .inr z
    · exact .inl h2, l.t⟩
  refine ⟨{ w' with φ := φ2 }, rfl, rfl, lew, ⟨by rw [List.length_mapIdx]; exact R.len, R'.sub, fun i a h => ?_, fun i d h => ?_, fun i p k h => ?_, fun i i' a h1 h2 => ?_, fun i h => ?_⟩, fun j k h => ?_, fun a h1 h2 i h3 => ?_⟩
  · rcases hφ i a h with ⟨j, h1, h2⟩ | ⟨h1, h2⟩
    · exact R'.out j a h2
    · obtain ⟨h3, o, h4⟩ := R.out i a h2
      obtain ⟨h5, h6⟩ := keepu i a h1 h2 o h4
      exact ⟨h6.trans h3, o, h5⟩
  · obtain ⟨y, h1, h2⟩ := wb_get h
    have hy := wb_fz h2
    subst hy
    obtain ⟨v, h3, h4⟩ := R.fz i d h1
    exact ⟨v, h3, dp_mono l.f _ _ h4⟩
  · obtain ⟨y, h1, h2⟩ := wb_get h
    obtain ⟨k', hy, h9⟩ := wb_ow h2
    subst hy
    rcases h9 with ⟨z, z0⟩ | ⟨j, q', z, z2⟩
    · subst z0
      obtain ⟨v, h3, h4⟩ := R.ow i p _ h1
      refine ⟨v, h3, ?_⟩
      have e0 : φ2 i = w.φ i := by
        show (match jOf os i with | some j => w'.φ j | none => w.φ i) = w.φ i
        rw [z]
      show Own c w'.F w'.H v _ (φ2 i)
      rw [e0]
      exact h4.mono l.f fun a ha o ho => (keepu i a z ha o ho).1
    · obtain ⟨v, h3, h4⟩ := R'.ow j q' k z2
      refine ⟨v, hval (jOf_some z) h3, ?_⟩
      have e0 : φ2 i = w'.φ j := by
        show (match jOf os i with | some j => w'.φ j | none => w.φ i) = w'.φ j
        rw [z]
      show Own c w'.F w'.H v k (φ2 i)
      rw [e0]
      exact h4
  · rcases hφ i a h1 with ⟨j, h3, h4⟩ | ⟨h3, h4⟩
    · rcases hφ i' a h2 with ⟨j', h5, h6⟩ | ⟨h5, h6⟩
      · have z := R'.dis j j' a h4 h6
        subst z
        have e1 := jOf_some h3
        rw [jOf_some h5] at e1
        cases e1
        rfl
      · exact (cross i i' a j h3 h4 h5 h6).elim
    · rcases hφ i' a h2 with ⟨j', h5, h6⟩ | ⟨h5, h6⟩
      · exact (cross i' i a j' h5 h6 h3 h4).elim
      · exact R.dis i i' a h4 h6
  · show (match jOf os i with | some j => w'.φ j | none => w.φ i) = []
    cases z : jOf os i with
    | none =>
      refine R.non i fun p k h1 => h p k ?_
      rw [List.getElem?_mapIdx, h1]
      show some (wb1 p k ss' (jOf os i)) = _
      rw [z]
      rfl
    | some j =>
      show w'.φ j = []
      refine R'.non j fun p k h1 => ?_
      rcases shp_get hs j _ h1 with ⟨d, d', z1, _⟩ | ⟨p2, k2, k3, z1, z2⟩
      · cases z1
      · rcases pass_get e j _ z2 with ⟨d', z3, _⟩ | ⟨i2, p3, k4, z3, z4, z5⟩
        · cases z3
        · rw [jOf_some z] at z4
          cases z4
          refine h p3 k ?_
          rw [List.getElem?_mapIdx, z5]
          show some (wb1 p3 k4 ss' (jOf os i)) = _
          rw [z]
          show some (wb2 p3 ss'[j]?) = _
          rw [h1]
          rfl
  · obtain ⟨y, h1, h2⟩ := wb_get h
    obtain ⟨k', hy, _⟩ := wb_ow h2
    subst hy
    exact ⟨k', h1⟩
  · rcases hφ i a h3 with ⟨j, _, h4⟩ | ⟨_, h4⟩
    · exact h2 j h4
    · obtain ⟨_, o, h5⟩ := R.out i a h4
      rw [h1] at h5
      cases h5
/-- a call, told by what the callee is worth -/
theorem lift_callF {f : SemF} {n : Nat} {ma : MA} {σ : St} {H : Hp} {Q : VK} {E : XK} (hn : ∀ s p, ma s = some p → p.1.length = n) (h : liftE c (mCallF f ma) σ H Q) : liftA c ma σ H fun vs H1 => spF c n f (vs ++ []) H1 Q E := by
  obtain ⟨w, s, rfl, R, o, s', e, k⟩ := h
  obtain ⟨⟨os, s1⟩, e1, e⟩ := bnd e
  obtain ⟨ss, e2, e⟩ := bnd e
  by_cases hd : dst s1 os = true
  · have e : ((f ss).bind fun r => if (shp ss r.2 && !r.1.isSl) = true then some (r.1, s1.mapIdx (wb os r.2)) else none) = some (o, s') := by
      rw [← e]
      show _ = if dst s1 os = true then _ else _
      rw [if_pos hd]
    obtain ⟨⟨o1, ss'⟩, e3, e⟩ := bnd e
    by_cases hb : (shp ss ss' && !o1.isSl) = true
    · have e : some (o1, s1.mapIdx (wb os ss')) = some (o, s') := by
        rw [← e]
        show _ = if (shp ss ss' && !o1.isSl) = true then _ else _
        rw [if_pos hb]
      cases e
      obtain ⟨hs, hns⟩ := Bool.and_eq_true_iff.mp hb
      have ns : ∀ i, o ≠ .sl i := Op.not_sl (by
        cases z : o.isSl with
        | false => rfl
        | true =>
          rw [z] at hns
          cases hns)
      refine ⟨w, s, rfl, R, os, s1, e1, fun vs w1 l1 R1 k1 q1 => ?_⟩
      show spF c n f (vs ++ []) w1.H Q E
      rw [List.append_nil]
      refine ⟨by rw [← q1.length]; exact hn _ _ e1, { w1 with φ := subφ w1 os }, ss, rfl, R1.enter q1 e2 hd, o, ss', e3, ns, fun v w' l' R' ho => ?_⟩
      obtain ⟨w2, hh, hf, l2, R2, kp, hno⟩ := R1.back q1 e2 hd l' R' hs
      rw [← hh]
      refine k v w2 (l1.trans l2) R2 (k1.trans kp) ?_
      cases o with
      | v d =>
        show Dp K w2.F v d
        rw [hf]
        exact ho
      | nw kk =>
        obtain ⟨fp, h1, h2⟩ := ho
        refine ⟨fp, ?_, fun a ha => ?_⟩
        · rw [hf, hh]
          exact h1
        · obtain ⟨z1, z2, z3, z4⟩ := h2 a ha
          have z1 : w1.H a = none := z1
          refine ⟨l1.back z1, ?_, hno a z1 z3, ?_⟩
          · rw [hf]
            exact z2
          · rw [hh]
            exact z4
      | sl i => exact absurd rfl (ns i)
    · exfalso
      have e : (none : Option (Op × List Slot)) = some (o, s') := by
        rw [← e]
        show _ = if (shp ss ss' && !o1.isSl) = true then _ else _
        rw [if_neg hb]
      cases e
  · exfalso
    have e : (none : Option (Op × List Slot)) = some (o, s') := by
      rw [← e]
      show _ = if dst s1 os = true then _ else _
      rw [if_neg hd]
    cases e
end
end Sh

set_option Elab.async false
set_option linter.all false
set_option maxRecDepth 100000
set_option maxHeartbeats 1000000
/-! Sh5: calls as rules, loops, comprehensions. -/
namespace Sh
open PySem L2
theorem mfz_v {m : M} {s s' : List Slot} {o : Op} (h : mFz m s = some (o, s')) : ∃ d, o = .v d := by
  obtain ⟨⟨o0, s0⟩, e4, e5⟩ := bnd h
  obtain ⟨⟨d0, s00⟩, e6, e7⟩ := bnd e5
  cases e7
  exact ⟨d0, rfl⟩
def Len (ma : MA) (n : Nat) : Prop := ∀ s p, ma s = some p → p.1.length = n
theorem len_nil : Len mANil 0 := fun s p h => by
  cases h
  rfl
theorem len_cons {m : M} {ma : MA} {n : Nat} (h : Len ma n) : Len (mACons m ma) (n + 1) := fun s p e => by
  obtain ⟨⟨o1, s1⟩, e1, e⟩ := bnd e
  obtain ⟨⟨os, s2⟩, e2, e⟩ := bnd e
  cases e
  show (o1 :: os).length = n + 1
  rw [List.length_cons, h _ _ e2]
/-- a def of the module, told by f -/
structure Fn (P : Program) (w : World) (K : PySem.W.Frag) (mg : Str → Option Value) (base : Heap) (c : Cfg K) (k : Nat) (x : Str) (n : Nat) (f : SemF) : Prop where
  ex : ∃ (fa : Addr) (fd : FuncData) (ps : List Str), FnOk P w K mg base CX0 k fa fd ps (spF c n f) ∧ mg x = some (.ref fa) ∧ PySem.W.keepIn K (.ref fa) = true ∧ Binds K fd ps []
theorem Fn.mono {P : Program} {w : World} {K : PySem.W.Frag} {mg : Str → Option Value} {base : Heap} {c : Cfg K} {j k : Nat} {x : Str} {n : Nat} {f : SemF} (F : Fn P w K mg base c j x n f) (h : j ≤ k) : Fn P w K mg base c k x n f := by
  obtain ⟨fa, fd, ps, h1, h2⟩ := F.ex
  exact ⟨fa, fd, ps, h1.mono h, h2⟩
/-- the same def, told otherwise -/
theorem Fn.to {P : Program} {w : World} {K : PySem.W.Frag} {mg : Str → Option Value} {base : Heap} {c : Cfg K} {k : Nat} {x : Str} {n : Nat} {f g : SemF} (F : Fn P w K mg base c k x n f) (h : ∀ ss r, g ss = some r → f ss = some r) : Fn P w K mg base c k x n g := by
  obtain ⟨fa, fd, ps, h1, h2⟩ := F.ex
  refine ⟨fa, fd, ps, h1.imp fun vs H Q E q => ?_, h2⟩
  obtain ⟨hl, w1, ss, e1, R, o, ss', e, q⟩ := q
  exact ⟨hl, w1, ss, e1, R, o, ss', h _ _ e, q⟩
section
variable {X : Cx} {c : Cfg X.K} {pos p : Pos} {x : Str} {e : Expr} {es : List Expr} {ma : MA} {k n : Nat} {f : SemF}
theorem she_call (G : Fn X.prog X.w X.K X.mg X.base c k x n f) (hr : Room k X.A) (hg : Gl X x) (ha : PA X (e :: es) (liftA c ma)) (hn : Len ma n) (hdb : (x == ("__debug__" : Str)) = false := by decide)
    (he : starEach (e :: es) X.env = (false, eval e X.env) :: starEach es X.env := by rfl) (hpl : (backTo pos (starEach es X.env)).any (·.1) = false := by rfl) : PE X (.Call (.Name x p) (e :: es) [] pos) (liftE c (mCallF f ma)) := by
  obtain ⟨fa, fd, ps, h1, h2, h3, h4⟩ := G.ex
  exact (pe_call h1 hr hg h2 h3 h4 .nil pass0 ha hdb he hpl).imp fun _ _ _ q => lift_callF hn q
theorem she_callB {r : List V → Hp → VK → Prop} {g : List D → Option Res} {id : String} (hc : CallR X (.builtin id) r) (hs : SemC X.K r g) (hg : Gl X x) (hm : X.mg x = none) (hv : bootBuiltins x = some (.builtin id)) (ha : PA X (e :: es) (liftA c ma)) (h : PE X (.Call (.Name x p) (e :: es) [] pos) (tCB r (liftA c ma))) :
    PE X (.Call (.Name x p) (e :: es) [] pos) (liftE c (mCall g ma)) := h.imp fun _ _ _ q => lift_call hs q
end

/-! ### what is walked -/
def Walks {K : PySem.W.Frag} (J : It) (ds : List D) (w : W) : Prop := ∀ w', Le w w' → Sub w'.F w'.H → (∀ i d, ds[i]? = some d → J.go i w'.H ∧ ∀ x H', J.yld i w'.H x H' → ∃ w'', w''.H = H' ∧ Gr w' w'' ∧ Dp K w''.F x d) ∧ J.stop ds.length w'.H
section
variable {K : PySem.W.Frag} {w : W}
theorem walks_list {a : Addr} {xs : List V} {ds : List D} (h : SqL K w.F a xs) (hd : DpAll K w.F xs ds) : Walks (K := K) (Itl K a) ds w := fun w' l sb => by
  have h' : SqL K w'.H a xs := sqL_mono sb (sqL_mono l.f h)
  refine ⟨fun i d e => ?_, xs, h', by rw [dpa_len hd]; exact Nat.le_refl _⟩
  obtain ⟨v, h1, h2⟩ := dpa_get hd e
  refine ⟨⟨xs, v, h', h1⟩, fun x H' ⟨e1, y⟩ => ?_⟩
  subst e1
  have z := y xs h'
  rw [h1] at z
  cases z
  exact ⟨w', rfl, Gr.refl sb, dp_mono l.f _ _ h2⟩
theorem walks_tup {a : Addr} {xs : List V} {ds : List D} (h : SqT K w.F a xs) (hd : DpAll K w.F xs ds) : Walks (K := K) (Itt K a) ds w := fun w' l sb => by
  have h' : SqT K w'.H a xs := sqT_mono sb (sqT_mono l.f h)
  refine ⟨fun i d e => ?_, xs, h', by rw [dpa_len hd]; exact Nat.le_refl _⟩
  obtain ⟨v, h1, h2⟩ := dpa_get hd e
  refine ⟨⟨xs, v, h', h1⟩, fun x H' ⟨e1, y⟩ => ?_⟩
  subst e1
  have z := y xs h'
  rw [h1] at z
  cases z
  exact ⟨w', rfl, Gr.refl sb, dp_mono l.f _ _ h2⟩
def rngD (lo : Int) (n : Nat) : List D := (List.range n).map fun (i : Nat) => .int (lo + (i : Int))
theorem rngD_len (lo : Int) (n : Nat) : (rngD lo n).length = n := by
  unfold rngD
  rw [List.length_map, List.length_range]
theorem rngD_get {lo : Int} {n i : Nat} {d : D} (h : (rngD lo n)[i]? = some d) : i < n ∧ d = .int (lo + (i : Int)) := by
  have hi := (List.getElem?_eq_some_iff.mp h).1
  rw [rngD_len] at hi
  unfold rngD at h
  rw [List.getElem?_map, List.getElem?_range hi] at h
  cases h
  exact ⟨hi, rfl⟩
theorem walks_rng {lo : Int} {n : Nat} : Walks (K := K) (Itr lo n) (rngD lo n) w := fun w' l sb => by
  refine ⟨fun i d e => ?_, by rw [rngD_len]; exact Nat.le_refl _⟩
  obtain ⟨hi, rfl⟩ := rngD_get e
  refine ⟨hi, fun x H' ⟨e1, y⟩ => ?_⟩
  subst e1 y
  exact ⟨w', rfl, Gr.refl sb, .int _⟩
def enumD (ds : List D) : List D := ds.mapIdx fun i d => .tuple [.int (i : Int), d]
theorem enumD_get {ds : List D} {i : Nat} {d : D} (h : (enumD ds)[i]? = some d) : ∃ d', ds[i]? = some d' ∧ d = .tuple [.int (i : Int), d'] := by
  unfold enumD at h
  rw [List.getElem?_mapIdx] at h
  cases q : ds[i]? with
  | none =>
    rw [q] at h
    cases h
  | some d' =>
    rw [q] at h
    cases h
    exact ⟨d', rfl, rfl⟩
theorem enumD_len (ds : List D) : (enumD ds).length = ds.length := by
  unfold enumD
  rw [List.length_mapIdx]
end

/-! ### targets -/
abbrev Tgt := D → List Slot → Option (List Slot)
def TgtOk {K : PySem.W.Frag} (c : Cfg K) (g : TG) (t : Tgt) : Prop := ∀ (w₀ w : W) (σ : St) (s s' : List Slot) (v : V) (d : D), Le w₀ w → Rel c w σ s → Dp K w.F v d → t d s = some s' → ∀ Q : St → Hp → Prop,
  (∀ σ' w', w'.H = w.H → Le w₀ w' → Rel c w' σ' s' → Kp σ s σ' s' → Q σ' w'.H) → g v σ w.H Q
def tName (i : Nat) : Tgt := fun d s => put s i (.v d)
abbrev Tgts := List D → List Slot → Option (List Slot)
def TgtsOk {K : PySem.W.Frag} (c : Cfg K) (g : TGs) (t : Tgts) : Prop := ∀ (w₀ w : W) (σ : St) (s s' : List Slot) (vs : List V) (ds : List D), Le w₀ w → Rel c w σ s → DpAll K w.F vs ds → t ds s = some s' → ∀ Q : St → Hp → Prop,
  (∀ σ' w', w'.H = w.H → Le w₀ w' → Rel c w' σ' s' → Kp σ s σ' s' → Q σ' w'.H) → g vs σ w.H Q
def tNilT : Tgts := fun ds s => match ds with
  | [] => some s
  | _ => none
def tConsT (t : Tgt) (u : Tgts) : Tgts := fun ds s => match ds with
  | d :: r => (t d s).bind fun s1 => u r s1
  | [] => none
def tTupT (n : Nat) (u : Tgts) : Tgt := fun d s => match d with
  | .tuple ds => if ds.length = n then u ds s else none
  | _ => none
section
variable {K : PySem.W.Frag} {c : Cfg K}
theorem Rel.put_f {w₀ w : W} {σ : St} {s s' : List Slot} {v : V} {d : D} (R : Rel c w σ s) (l : Le w₀ w) (h : Dp K w.F v d) {i : Nat} (e : Sh.put s i (.v d) = some s') : ∃ w', w'.H = w.H ∧ w'.F = w.F ∧ Le w₀ w' ∧ Rel c w' (σ.set i (some v)) s' ∧ Kp σ s (σ.set i (some v)) s' := by
  unfold Sh.put at e
  by_cases hc : can s i = true
  · rw [if_pos hc] at e
    cases e
    have hil := can_lt hc
    obtain ⟨w2, h2, f2, l2, R2⟩ := R.setF l i hil h
    refine ⟨w2, h2, f2, l2, R2, fun j k hj => ?_⟩
    by_cases z : j = i
    · subst z
      rw [List.getElem?_set_self hil] at hj
      cases hj
    · rw [List.getElem?_set_ne (Ne.symm z)] at hj
      exact ⟨by rw [List.getElem?_set_ne (Ne.symm z)], k, hj⟩
  · rw [if_neg hc] at e
    cases e
theorem tgt_name (i : Nat) : TgtOk c (gName i) (tName i) := fun w₀ w σ s s' v d l R h e Q k => by
  obtain ⟨w', hh, _, l', R', kp⟩ := R.put_f l h e
  show Q (σ.set i (some v)) w.H
  rw [← hh]
  exact k _ w' hh l' R' kp
theorem tgts_nil : TgtsOk c gNil tNilT := fun w₀ w σ s s' vs ds l R h e Q k => by
  cases ds with
  | nil =>
    cases h
    cases e
    exact ⟨rfl, k σ w rfl l R (Kp.refl σ s)⟩
  | cons d r => cases e
/-- names in a row -/
theorem tgts_cons {u : TGs} {tu : Tgts} (i : Nat) (hu : TgtsOk c u tu) : TgtsOk c (gCons (gName i) u) (tConsT (tName i) tu) := fun w₀ w σ s s' vs ds l R h e Q k => by
  cases ds with
  | nil => cases e
  | cons d r =>
    cases h with
    | cons h1 h2 =>
      obtain ⟨s1, e1, e2⟩ := bnd e
      refine ⟨_, _, rfl, ?_⟩
      obtain ⟨w1, hh, hf, l1, R1, k1⟩ := R.put_f l h1 e1
      show u _ (σ.set i (some _)) w.H Q
      rw [← hh]
      exact hu w₀ w1 _ s1 s' _ r l1 R1 (by rw [hf]; exact h2) e2 Q fun σ' w' hh' l' R' k' => k σ' w' (hh'.trans hh) l' R' (k1.trans k')
theorem tgt_tup {n : Nat} {u : TGs} {tu : Tgts} (hu : TgtsOk c u tu) : TgtOk c (gTup K n u) (tTupT n tu) := fun w₀ w σ s s' v d l R h e Q k => by
  cases d with
  | tuple ds =>
    have e : (if ds.length = n then tu ds s else none) = some s' := e
    split at e
    · rename_i hn
      cases h with
      | tup h1 h2 => exact ⟨_, _, rfl, sqT_mono R.sub h1, by rw [dpa_len h2]; exact hn, hu w₀ w σ s s' _ ds l R h2 e Q k⟩
    · cases e
  | _ => cases e

/-! ### for -/
def loopF (t : Tgt) (m : MS) : List D → List Slot → Option Out
  | [], s => some (.nx s)
  | d :: r, s => (t d s).bind fun s1 => (m s1).bind fun out => match out with
    | .nx s2 => loopF t m r s2
    | .ct s2 => loopF t m r s2
    | .bk s2 => some (.nx s2)
    | .rt o s2 => some (.rt o s2)
theorem lift_loop {g : TG} {t : Tgt} {mb : MS} {J : It} {ds : List D} {w : W} {σ : St} {s : List Slot} {D' : Ends} {out : Out} (hg : TgtOk c g t) (hw : Walks (K := K) J ds w) (R : Rel c w σ s) (e : loopF t mb ds s = some out) (k : EndOk c D' w σ s out) :
    ∃ Wv : Nat → Nat → St → Hp → Prop, (∃ m, Wv 0 m σ w.H) ∧ ∀ i m σ H, Wv i m σ H →
      (J.stop i H ∧ D'.nx σ H) ∨ (J.go i H ∧ ∃ N : St → Hp → Prop, (∀ σ' H', N σ' H' → ∃ m', m' < m ∧ Wv (i + 1) m' σ' H') ∧ ∀ x H', J.yld i H x H' → g x σ H' fun σ2 H2 => liftS c mb { D' with nx := N, ct := N, bk := D'.nx } σ2 H2) := by
  refine ⟨fun i m σ' H' => m = ds.length - i ∧ i ≤ ds.length ∧ ∃ w' s', w'.H = H' ∧ Le w w' ∧ Rel c w' σ' s' ∧ Kp σ s σ' s' ∧ loopF t mb (ds.drop i) s' = some out, ⟨ds.length, by simp, Nat.zero_le _, w, s, rfl, Le.refl w, R, Kp.refl σ s, e⟩, ?_⟩
  rintro i m σ' H' ⟨rfl, hi, w', s', rfl, l', R', k', e'⟩
  obtain ⟨hgo, hstop⟩ := hw w' l' R'.sub
  by_cases hlt : i < ds.length
  · refine .inr ?_
    have hd : ds[i]? = some ds[i] := List.getElem?_eq_getElem hlt
    obtain ⟨h1, h2⟩ := hgo i _ hd
    rw [List.drop_eq_getElem_cons hlt] at e'
    obtain ⟨s1, e1, e2⟩ := bnd (x := t ds[i] s') e'
    obtain ⟨out1, e3, e4⟩ := bnd e2
    refine ⟨h1, fun σ2 H2 => ∃ w2 s2, w2.H = H2 ∧ Le w w2 ∧ Rel c w2 σ2 s2 ∧ Kp σ s σ2 s2 ∧ loopF t mb (ds.drop (i + 1)) s2 = some out, fun σ2 H2 ⟨w2, s2, z⟩ => ⟨ds.length - (i + 1), by omega, rfl, hlt, w2, s2, z⟩, fun x H'' hy => ?_⟩
    obtain ⟨w1, rfl, g1, dx⟩ := h2 x H'' hy
    have R1 := R'.grow g1
    refine hg w w1 σ' s' s1 x ds[i] (l'.trans g1.le) R1 dx e1 _ fun σ2 w2 hh l2 R2 k2 => ?_
    refine ⟨w2, s1, rfl, R2, out1, e3, ?_⟩
    cases out1 with
    | nx s2 => exact fun σ3 w3 l3 R3 k3 => ⟨w3, s2, rfl, l2.trans l3, R3, k'.trans (k2.trans k3), e4⟩
    | ct s2 => exact fun σ3 w3 l3 R3 k3 => ⟨w3, s2, rfl, l2.trans l3, R3, k'.trans (k2.trans k3), e4⟩
    | bk s2 =>
      cases e4
      exact fun σ3 w3 l3 R3 k3 => k σ3 w3 (l2.trans l3) R3 (k'.trans (k2.trans k3))
    | rt o s2 =>
      cases e4
      exact fun v σ3 w3 l3 R3 k3 ho => k v σ3 w3 (l2.trans l3) R3 (k'.trans (k2.trans k3)) (ho.back l2)
  · have e0 : i = ds.length := by omega
    subst e0
    rw [List.drop_length] at e'
    cases e'
    exact .inl ⟨hstop, k σ' w' l' R' k'⟩
def selL : D → Option (List D)
  | .list ds => some ds
  | _ => none
def selT : D → Option (List D)
  | .tuple ds => some ds
  | _ => none
def mFor (sel : D → Option (List D)) (ml : M) (t : Tgt) (mb : MS) : MS := fun s => (mFz ml s).bind fun p => (cD p.2 p.1).bind fun d => (sel d).bind fun ds => loopF t mb ds p.2
theorem lift_forL {ml : M} {g : TG} {t : Tgt} {mb : MS} {D' : Ends} {σ : St} {H : Hp} (hg : TgtOk c g t) (h : liftS c (mFor selL ml t mb) D' σ H) : tFor (iList K (liftE c (mFz ml))) g (liftS c mb) D' σ H := by
  obtain ⟨w, s, rfl, R, out, e, k⟩ := h
  obtain ⟨⟨o1, s1⟩, e1, e⟩ := bnd e
  obtain ⟨d, e2, e⟩ := bnd e
  obtain ⟨ds, e3, e⟩ := bnd e
  refine ⟨w, s, rfl, R, o1, s1, e1, fun v w1 l1 R1 k1 q1 => ?_⟩
  obtain ⟨d1, rfl⟩ := mfz_v e1
  cases e2
  cases d with
  | list ds' =>
    cases e3
    have q1 : Dp K w1.F v (.list ds) := q1
    cases q1 with
    | lst h1 h2 => exact ⟨_, rfl, ⟨_, sqL_mono R1.sub h1⟩, lift_loop hg (walks_list h1 h2) R1 e (k.back l1 k1.kp)⟩
  | _ => cases e3
theorem lift_forT {ml : M} {g : TG} {t : Tgt} {mb : MS} {D' : Ends} {σ : St} {H : Hp} (hg : TgtOk c g t) (h : liftS c (mFor selT ml t mb) D' σ H) : tFor (iTup K (liftE c (mFz ml))) g (liftS c mb) D' σ H := by
  obtain ⟨w, s, rfl, R, out, e, k⟩ := h
  obtain ⟨⟨o1, s1⟩, e1, e⟩ := bnd e
  obtain ⟨d, e2, e⟩ := bnd e
  obtain ⟨ds, e3, e⟩ := bnd e
  refine ⟨w, s, rfl, R, o1, s1, e1, fun v w1 l1 R1 k1 q1 => ?_⟩
  obtain ⟨d1, rfl⟩ := mfz_v e1
  cases e2
  cases d with
  | tuple ds' =>
    cases e3
    have q1 : Dp K w1.F v (.tuple ds) := q1
    cases q1 with
    | tup h1 h2 => exact ⟨_, rfl, ⟨_, sqT_mono R1.sub h1⟩, lift_loop hg (walks_tup h1 h2) R1 e (k.back l1 k1.kp)⟩
  | _ => cases e3
def mForR1 (m : M) (t : Tgt) (mb : MS) : MS := fun s => (m s).bind fun p => (cD p.2 p.1).bind fun d => match d with
  | .int n => if -(2 ^ 62) ≤ n ∧ n < 2 ^ 62 then loopF t mb (rngD 0 n.toNat) p.2 else none
  | _ => none
theorem lift_forR1 {m : M} {g : TG} {t : Tgt} {mb : MS} {D' : Ends} {σ : St} {H : Hp} (hg : TgtOk c g t) (h : liftS c (mForR1 m t mb) D' σ H) : tFor (iRng1 (liftA c (mACons m mANil))) g (liftS c mb) D' σ H := by
  obtain ⟨w, s, rfl, R, out, e, k⟩ := h
  obtain ⟨⟨o1, s1⟩, e1, e⟩ := bnd e
  obtain ⟨d, e2, e⟩ := bnd e
  cases d with
  | int n =>
    have e : (if -(2 ^ 62) ≤ n ∧ n < 2 ^ 62 then loopF t mb (rngD 0 n.toNat) s1 else none) = some out := e
    split at e
    · rename_i hn
      refine ⟨w, s, rfl, R, [o1], s1, ?_, fun vs w1 l1 R1 k1 q1 => ?_⟩
      · unfold mACons mANil
        rw [e1]
        rfl
      · cases q1 with
        | cons h1 h2 =>
          cases h2
          have z : Dp K w1.F _ (.int n) := R1.view h1 e2
          cases z
          exact ⟨n, rfl, hn.1, hn.2, lift_loop hg walks_rng R1 e (k.back l1 k1.kp)⟩
    · cases e
  | _ => cases e
theorem walks_enum {w : W} {a : Addr} {xs : List V} {ds : List D} (h : SqL K w.F a xs) (hd : DpAll K w.F xs ds) : Walks (K := K) (Ite K a) (enumD ds) w := fun w' l sb => by
  have h' : SqL K w'.H a xs := sqL_mono sb (sqL_mono l.f h)
  refine ⟨fun i d e => ?_, xs, h', by rw [enumD_len, dpa_len hd]; exact Nat.le_refl _⟩
  obtain ⟨d', e1, rfl⟩ := enumD_get e
  obtain ⟨v, h1, h2⟩ := dpa_get hd e1
  refine ⟨⟨xs, v, h', h1⟩, fun x H' ⟨T, x', ex, hT, eH, y⟩ => ?_⟩
  subst ex eH
  have z : v = x' := Option.some.inj (h1.symm.trans (y xs h'))
  subst z
  have g := gr_fix (w := w') (x := .tup [.int (i : Int), v]) sb hT
  exact ⟨_, rfl, g, .tup (.of upd_same) (.cons (.int _) (.cons (dp_mono g.f _ _ (dp_mono l.f _ _ h2)) .nil))⟩
def mForE (ml : M) (t : Tgt) (mb : MS) : MS := fun s => (mFz ml s).bind fun p => (cD p.2 p.1).bind fun d => (selL d).bind fun ds => loopF t mb (enumD ds) p.2
theorem lift_forE {ml : M} {g : TG} {t : Tgt} {mb : MS} {D' : Ends} {σ : St} {H : Hp} (hg : TgtOk c g t) (h : liftS c (mForE ml t mb) D' σ H) : tFor (iEnum K (liftA c (mACons (mFz ml) mANil))) g (liftS c mb) D' σ H := by
  obtain ⟨w, s, rfl, R, out, e, k⟩ := h
  obtain ⟨⟨o1, s1⟩, e1, e⟩ := bnd e
  obtain ⟨d, e2, e⟩ := bnd e
  obtain ⟨ds, e3, e⟩ := bnd e
  refine ⟨w, s, rfl, R, [o1], s1, ?_, fun vs w1 l1 R1 k1 q1 => ?_⟩
  · unfold mACons mANil
    rw [e1]
    rfl
  · obtain ⟨d1, rfl⟩ := mfz_v e1
    cases e2
    cases d with
    | list ds' =>
      cases e3
      cases q1 with
      | cons h1 h2 =>
        cases h2
        have q1 : Dp K w1.F _ (.list ds) := h1
        cases q1 with
        | lst h3 h4 => exact ⟨_, _, rfl, sqL_mono R1.sub h3, lift_loop hg (walks_enum h3 h4) R1 e (k.back l1 k1.kp)⟩
    | _ => cases e3
end
section
variable {X : Cx} {c : Cfg X.K} {pos : Pos} {tg it : Expr} {body : List Stmt} {g : TG} {t : Tgt} {mb : MS} {ml : M}
theorem shs_forL (hp : PassesOwn (model X.prog X.w) X.A X.env X.xe) (hc : X.calm = true) (hi : PE X it (liftE c ml)) (hg : PG X tg g) (ht : TgtOk c g t) (hb : PSs X body (liftS c mb)) (hs : ∀ x, foldedSetIterable it X.env x = pure x := by intro _; rfl) :
    PS X (.For tg it body [] pos) (liftS c (mFor selL ml t mb)) := (ps_for hp hc (pi_list (she_fz hi)) hg hb hs).imp fun _ _ _ h => lift_forL ht h
theorem shs_forT (hp : PassesOwn (model X.prog X.w) X.A X.env X.xe) (hc : X.calm = true) (hi : PE X it (liftE c ml)) (hg : PG X tg g) (ht : TgtOk c g t) (hb : PSs X body (liftS c mb)) (hs : ∀ x, foldedSetIterable it X.env x = pure x := by intro _; rfl) :
    PS X (.For tg it body [] pos) (liftS c (mFor selT ml t mb)) := (ps_for hp hc (pi_tup (she_fz hi)) hg hb hs).imp fun _ _ _ h => lift_forT ht h
theorem shs_forR1 {a : Expr} {p pos' : Pos} (hp : PassesOwn (model X.prog X.w) X.A X.env X.xe) (hc : X.calm = true) (hgl : Gl X "range") (hm : X.mg "range" = none) (hi : PE X a (liftE c ml)) (hg : PG X tg g) (ht : TgtOk c g t) (hb : PSs X body (liftS c mb)) (hs : starEach [a] X.env = [(false, eval a X.env)] := by rfl)
    (hf : ∀ x, foldedSetIterable (.Call (.Name "range" p) [a] [] pos') X.env x = pure x := by intro _; rfl) : PS X (.For tg (.Call (.Name "range" p) [a] [] pos') body [] pos) (liftS c (mForR1 ml t mb)) :=
  (ps_for hp hc (pi_range1 hgl hm (sha_cons hi sha_nil hs) hs) hg hb hf).imp fun _ _ _ h => lift_forR1 ht h
theorem shs_forE {a : Expr} {p pos' tpos : Pos} {elts : List Expr} {kk : Nat} (hp : PassesOwn (model X.prog X.w) X.A X.env X.xe) (hc : X.calm = true) (hgl : Gl X "enumerate") (hm : X.mg "enumerate" = none) (hi : PE X a (liftE c ml)) (hg : PG X (.Tuple elts kk tpos) g) (ht : TgtOk c g t) (hb : PSs X body (liftS c mb))
    (hs : starEach [a] X.env = [(false, eval a X.env)] := by rfl) (hf : ∀ x, foldedSetIterable (.Call (.Name "enumerate" p) [a] [] pos') X.env x = pure x := by intro _; rfl) : PS X (.For (.Tuple elts kk tpos) (.Call (.Name "enumerate" p) [a] [] pos') body [] pos) (liftS c (mForE ml t mb)) :=
  (ps_for hp hc (pi_enum hgl hm (sha_cons (she_fz hi) sha_nil hs) hs) hg hb hf).imp fun _ _ _ h => lift_forE ht h
end
end Sh

set_option Elab.async false
set_option linter.all false
set_option maxRecDepth 100000
set_option maxHeartbeats 1000000
/-! Sh6: comprehensions. -/
namespace Sh
open PySem L2
theorem wipe_get (σ : St) : ∀ (vs : List Nat) (i : Nat), (wipe σ vs)[i]? = if i ∈ vs then (σ[i]?).map (fun _ => none) else σ[i]?
  | [], i => by rw [if_neg (by simp)]; rfl
  | v :: vs, i => by
    show ((wipe σ vs).set v none)[i]? = _
    have ih := wipe_get σ vs i
    by_cases h : v = i
    · subst h
      rw [if_pos List.mem_cons_self, List.getElem?_set, if_pos rfl]
      by_cases hl : v < (wipe σ vs).length
      · rw [if_pos hl]
        rw [wipe_length] at hl
        rw [List.getElem?_eq_getElem hl]
        rfl
      · rw [if_neg hl]
        rw [wipe_length] at hl
        rw [List.getElem?_eq_none (by omega)]
        rfl
    · rw [List.getElem?_set_ne h, ih]
      by_cases hm : i ∈ vs
      · rw [if_pos hm, if_pos (List.mem_cons_of_mem _ hm)]
      · rw [if_neg hm, if_neg (fun z => by
          rcases List.mem_cons.mp z with z | z
          · exact h z.symm
          · exact hm z)]
/-- the targets change the slots ts alone -/
def TgtC {K : PySem.W.Frag} (c : Cfg K) (g : TG) (t : Tgt) (ts : List Nat) : Prop := ∀ (w₀ w : W) (σ : St) (s s' : List Slot) (v : V) (d : D), Le w₀ w → Rel c w σ s → Dp K w.F v d → t d s = some s' → ∀ Q : St → Hp → Prop,
  (∀ σ' w', w'.H = w.H → Le w₀ w' → Rel c w' σ' s' → Kp σ s σ' s' → σ'.length = σ.length → (∀ i, i ∉ ts → σ'[i]? = σ[i]?) → Q σ' w'.H) → g v σ w.H Q
def TgtsC {K : PySem.W.Frag} (c : Cfg K) (g : TGs) (t : Tgts) (ts : List Nat) : Prop := ∀ (w₀ w : W) (σ : St) (s s' : List Slot) (vs : List V) (ds : List D), Le w₀ w → Rel c w σ s → DpAll K w.F vs ds → t ds s = some s' → ∀ Q : St → Hp → Prop,
  (∀ σ' w', w'.H = w.H → Le w₀ w' → Rel c w' σ' s' → Kp σ s σ' s' → σ'.length = σ.length → (∀ i, i ∉ ts → σ'[i]? = σ[i]?) → Q σ' w'.H) → g vs σ w.H Q
section
variable {K : PySem.W.Frag} {c : Cfg K}
theorem tgc_name (i : Nat) : TgtC c (gName i) (tName i) [i] := fun w₀ w σ s s' v d l R h e Q k => by
  obtain ⟨w', hh, _, l', R', kp⟩ := R.put_f l h e
  show Q (σ.set i (some v)) w.H
  rw [← hh]
  refine k _ w' hh l' R' kp List.length_set fun j hj => List.getElem?_set_ne ?_
  intro z
  exact hj (by rw [z]; exact List.mem_cons_self)
theorem tgcs_nil : TgtsC c gNil tNilT [] := fun w₀ w σ s s' vs ds l R h e Q k => by
  cases ds with
  | nil =>
    cases h
    cases e
    exact ⟨rfl, k σ w rfl l R (Kp.refl σ s) rfl fun _ _ => rfl⟩
  | cons d r => cases e
theorem tgcs_cons {u : TGs} {tu : Tgts} {ts : List Nat} (i : Nat) (hu : TgtsC c u tu ts) : TgtsC c (gCons (gName i) u) (tConsT (tName i) tu) (i :: ts) := fun w₀ w σ s s' vs ds l R h e Q k => by
  cases ds with
  | nil => cases e
  | cons d r =>
    cases h with
    | cons h1 h2 =>
      obtain ⟨s1, e1, e2⟩ := bnd e
      refine ⟨_, _, rfl, ?_⟩
      obtain ⟨w1, hh, hf, l1, R1, k1⟩ := R.put_f l h1 e1
      show u _ (σ.set i (some _)) w.H Q
      rw [← hh]
      refine hu w₀ w1 _ s1 s' _ r l1 R1 (by rw [hf]; exact h2) e2 Q fun σ' w' hh' l' R' k' hl hs => k σ' w' (hh'.trans hh) l' R' (k1.trans k') (hl.trans List.length_set) fun j hj => ?_
      rw [hs j (fun z => hj (List.mem_cons_of_mem _ z))]
      refine List.getElem?_set_ne fun z => hj ?_
      rw [z]
      exact List.mem_cons_self
theorem tgc_tup {n : Nat} {u : TGs} {tu : Tgts} {ts : List Nat} (hu : TgtsC c u tu ts) : TgtC c (gTup K n u) (tTupT n tu) ts := fun w₀ w σ s s' v d l R h e Q k => by
  cases d with
  | tuple ds =>
    have e : (if ds.length = n then tu ds s else none) = some s' := e
    split at e
    · rename_i hn
      cases h with
      | tup h1 h2 => exact ⟨_, _, rfl, sqT_mono R.sub h1, by rw [dpa_len h2]; exact hn, hu w₀ w σ s s' _ ds l R h2 e Q k⟩
    · cases e
  | _ => cases e
def unw (vs : List Nat) (s : List Slot) : Option (List Slot) := if vs.all (fun v => !isOw s[v]?) = true then some (s.mapIdx fun i x => if i ∈ vs then .un else x) else none
def rst (vs : List Nat) (s₀ s : List Slot) : List Slot := s.mapIdx fun i x => if i ∈ vs then s₀[i]?.getD .un else x
theorem unw_get {vs : List Nat} {s s' : List Slot} (h : unw vs s = some s') : (∀ v ∈ vs, isOw s[v]? = false) ∧ s'.length = s.length ∧ ∀ i x, s'[i]? = some x → (i ∈ vs ∧ x = .un) ∨ (i ∉ vs ∧ s[i]? = some x) := by
  unfold unw at h
  split at h
  · rename_i q
    cases h
    refine ⟨fun v hv => ?_, List.length_mapIdx, fun i x hx => ?_⟩
    · have z := List.all_eq_true.mp q v hv
      simpa using z
    · rw [List.getElem?_mapIdx] at hx
      cases e : s[i]? with
      | none =>
        rw [e] at hx
        cases hx
      | some y =>
        rw [e] at hx
        have hx : (if i ∈ vs then Slot.un else y) = x := Option.some.inj hx
        by_cases hi : i ∈ vs
        · rw [if_pos hi] at hx
          exact .inl ⟨hi, hx.symm⟩
        · rw [if_neg hi] at hx
          exact .inr ⟨hi, by rw [hx]⟩
  · cases h
theorem Rel.wipe {w : W} {σ : St} {s s' : List Slot} (R : Rel c w σ s) {vs : List Nat} (h : unw vs s = some s') : Rel c w (L2.wipe σ vs) s' := by
  obtain ⟨h1, h2, h3⟩ := unw_get h
  have wp : ∀ i, i ∉ vs → (L2.wipe σ vs)[i]? = σ[i]? := fun i hi => by rw [wipe_get, if_neg hi]
  refine ⟨by rw [wipe_length, h2]; exact R.len, R.sub, R.out, fun i d hd => ?_, fun i p k hd => ?_, R.dis, fun i hi => ?_⟩
  · rcases h3 i _ hd with ⟨_, z⟩ | ⟨z1, z2⟩
    · cases z
    · obtain ⟨v, q1, q2⟩ := R.fz i d z2
      exact ⟨v, (wp i z1).trans q1, q2⟩
  · rcases h3 i _ hd with ⟨_, z⟩ | ⟨z1, z2⟩
    · cases z
    · obtain ⟨v, q1, q2⟩ := R.ow i p k z2
      exact ⟨v, (wp i z1).trans q1, q2⟩
  · refine R.non i fun p k q => ?_
    by_cases hv : i ∈ vs
    · have z := h1 i hv
      rw [q] at z
      cases z
    · have hl : i < s'.length := by
        rw [h2]
        exact (List.getElem?_eq_some_iff.mp q).1
      rcases h3 i _ (List.getElem?_eq_getElem hl) with ⟨z, _⟩ | ⟨_, z⟩
      · exact hv z
      · rw [q] at z
        exact hi p k (by rw [List.getElem?_eq_getElem hl]; exact z.symm)
theorem Rel.unwipe {w₀ w : W} {σ : St} {s₀ s : List Slot} {vs : List Nat} (R0 : Rel c w₀ σ s₀) (l : Le w₀ w) (R : Rel c w (L2.wipe σ vs) s) (hn : ∀ v ∈ vs, isOw s₀[v]? = false) : Rel c w σ (rst vs s₀ s) := by
  have wp : ∀ i, i ∉ vs → (L2.wipe σ vs)[i]? = σ[i]? := fun i hi => by rw [wipe_get, if_neg hi]
  have wn : ∀ i v, i ∈ vs → (L2.wipe σ vs)[i]? ≠ some (some v) := fun i v hi z => (wipe_some z).2 hi
  have hl0 : s.length = s₀.length := by
    rw [← R.len, wipe_length, R0.len]
  have get : ∀ i x, (rst vs s₀ s)[i]? = some x → (i ∈ vs ∧ s₀[i]? = some x) ∨ (i ∉ vs ∧ s[i]? = some x) := fun i x hx => by
    unfold rst at hx
    rw [List.getElem?_mapIdx] at hx
    cases e : s[i]? with
    | none =>
      rw [e] at hx
      cases hx
    | some y =>
      rw [e] at hx
      have hx : (if i ∈ vs then s₀[i]?.getD .un else y) = x := Option.some.inj hx
      have hi0 : i < s₀.length := by
        rw [← hl0]
        exact (List.getElem?_eq_some_iff.mp e).1
      by_cases hi : i ∈ vs
      · rw [if_pos hi, List.getElem?_eq_getElem hi0] at hx
        exact .inl ⟨hi, by rw [List.getElem?_eq_getElem hi0]; exact congrArg some hx⟩
      · rw [if_neg hi] at hx
        exact .inr ⟨hi, by rw [hx]⟩
  refine ⟨?_, R.sub, R.out, fun i d hd => ?_, fun i p k hd => ?_, R.dis, fun i hi => ?_⟩
  · show _ = (s.mapIdx _).length
    rw [List.length_mapIdx, hl0]
    exact R0.len
  · rcases get i _ hd with ⟨_, z⟩ | ⟨z1, z2⟩
    · obtain ⟨v, q1, q2⟩ := R0.fz i d z
      exact ⟨v, q1, dp_mono l.f _ _ q2⟩
    · obtain ⟨v, q1, q2⟩ := R.fz i d z2
      exact ⟨v, (wp i z1).symm.trans q1, q2⟩
  · rcases get i _ hd with ⟨z1, z⟩ | ⟨z1, z2⟩
    · have z2 := hn i z1
      rw [z] at z2
      cases z2
    · obtain ⟨v, q1, q2⟩ := R.ow i p k z2
      exact ⟨v, (wp i z1).symm.trans q1, q2⟩
  · refine R.non i fun p k q => ?_
    by_cases hv : i ∈ vs
    · obtain ⟨v, q1, _⟩ := R.ow i p k q
      exact wn i v hv q1
    · refine hi p k ?_
      unfold rst
      rw [List.getElem?_mapIdx, q]
      show some (if i ∈ vs then _ else _) = _
      rw [if_neg hv]
/-- an object that no slot owns and that is not fixed changes -/
theorem Rel.mutD {w : W} {σ : St} {s : List Slot} (R : Rel c w σ s) {a : Addr} {o : HO} (h1 : w.no a) (h2 : w.F a = none) (h3 : ∃ o, w.H a = some o) : Rel c { w with H := upd w.H a o } σ s := by
  refine ⟨R.len, fun b u q => ?_, fun i b hb => ?_, fun i d hd => R.fz i d hd, fun i p k hd => ?_, R.dis, R.non⟩
  · show upd w.H a o b = some u
    rw [upd_ne (ne_of_none q h2)]
    exact R.sub b u q
  · obtain ⟨q1, u, q2⟩ := R.out i b hb
    refine ⟨q1, u, ?_⟩
    show upd w.H a o b = some u
    rw [upd_ne (fun z => h1 i (by rw [← z]; exact hb))]
    exact q2
  · obtain ⟨v, q1, q2⟩ := R.ow i p k hd
    refine ⟨v, q1, q2.mono (fun _ _ z => z) fun b hb u hu => ?_⟩
    show upd w.H a o b = some u
    rw [upd_ne (fun z => h1 i (by rw [← z]; exact hb))]
    exact hu
theorem Le.mutD {w₀ w : W} (l : Le w₀ w) {a : Addr} {o : HO} (h : w₀.H a = none) : Le w₀ { w with H := upd w.H a o } := by
  refine ⟨l.f, fun b u q n => ?_, l.p, fun b u q => ?_⟩
  · obtain ⟨h1, h2⟩ := l.h b u q n
    refine ⟨?_, h2⟩
    show upd w.H a o b = some u
    rw [upd_ne (ne_of_none q h)]
    exact h1
  · obtain ⟨u', h1⟩ := l.t b u q
    refine ⟨u', ?_⟩
    show upd w.H a o b = some u'
    rw [upd_ne (ne_of_none q h)]
    exact h1
def vD : Op → Option D
  | .v d => some d
  | _ => none
def loopC (t : Tgt) (mt : MT) (me : M) (vs : List Nat) : List D → List Slot → Option (List D × List Slot)
  | [], s => some ([], s)
  | d :: r, s => (t d s).bind fun s1 => (mt s1).bind fun p => if p.1 = true then (mFz me p.2).bind fun q => (vD q.1).bind fun d' => (unw vs q.2).bind fun s4 => (loopC t mt me vs r s4).bind fun z => some (d' :: z.1, z.2) else (unw vs p.2).bind fun s4 => loopC t mt me vs r s4
def endC (vs : List Nat) (s₁ : List Slot) (z : List D × List Slot) : Option (Op × List Slot) := if z.1.length ≤ 100000 then some (.nw (.lst z.1), rst vs s₁ z.2) else none
theorem keep_rst {vs : List Nat} {s₁ s : List Slot} (hn : ∀ v ∈ vs, isOw s₁[v]? = false) (h : Keep s₁ s) : Keep s₁ (rst vs s₁ s) := fun j k q => by
  unfold rst at q
  rw [List.getElem?_mapIdx] at q
  cases e : s[j]? with
  | none =>
    rw [e] at q
    cases q
  | some y =>
    rw [e] at q
    have q : (if j ∈ vs then s₁[j]?.getD .un else y) = .ow true k := Option.some.inj q
    by_cases hj : j ∈ vs
    · rw [if_pos hj] at q
      have z := hn j hj
      cases e2 : s₁[j]? with
      | none =>
        rw [e2] at q
        cases q
      | some x =>
        rw [e2] at q z
        have q : x = .ow true k := q
        rw [q] at z
        cases z
    · rw [if_neg hj] at q
      exact h j k (by rw [e, q])
theorem keep_unw {vs : List Nat} {s s' : List Slot} (h : unw vs s = some s') : Keep s s' := fun j k q => by
  rcases (unw_get h).2.2 j _ q with ⟨_, z⟩ | ⟨_, z⟩
  · cases z
  · exact ⟨k, z⟩
theorem lift_lc {g : TG} {t : Tgt} {ts vs : List Nat} {mt : MT} {me : M} {J : It} {ds : List D} {w : W} {σ : St} {s s2 : List Slot} {z : List D × List Slot} {Q : VK} (hg : TgtC c g t ts) (hts : ∀ i ∈ ts, i ∈ vs) (hw : Walks (K := K) J ds w) (R : Rel c w σ s) (hu : unw vs s = some s2)
    (e : loopC t mt me vs ds s2 = some z) (hz : z.1.length ≤ 100000) (k : ∀ v w', Le w w' → Rel c w' σ (rst vs s z.2) → Keep s (rst vs s z.2) → RepO c w.H w' σ (.nw (.lst z.1)) v → Q v w'.H) (D' : Addr) (hD : w.H D' = none) :
    ∃ Wv : Nat → Nat → Hp → Prop, (∃ m, Wv 0 m (upd w.H D' (.lst []))) ∧ ∀ i m H, Wv i m H →
      (J.stop i H ∧ Q (.ref D') H) ∨ (J.go i H ∧ ∃ Nx : Hp → Prop, (∀ H', Nx H' → ∃ m', m' < m ∧ Wv (i + 1) m' H') ∧ ∀ x H', J.yld i H x H' → g x (L2.wipe σ vs) H' fun σ2 H2 => L2.wipe σ2 vs = L2.wipe σ vs ∧ liftT c mt σ2 H2 fun b H3 =>
        if b = true then liftE c (mFz me) σ2 H3 fun y H4 => ∃ acc, H4 D' = some (.lst acc) ∧ acc.length < sizeLine ∧ Nx (upd H4 D' (.lst (acc ++ [y]))) else Nx H3) := by
  have hn := (unw_get hu).1
  let In : Nat → Hp → Prop := fun i H => ∃ w' s' das acc z', w'.H = H ∧ Le w w' ∧ Rel c w' (L2.wipe σ vs) s' ∧ Keep s s' ∧ w'.H D' = some (.lst acc) ∧ DpAll K w'.F acc das ∧ w'.F D' = none ∧ w'.no D' ∧ loopC t mt me vs (ds.drop i) s' = some z' ∧ das ++ z'.1 = z.1 ∧ z'.2 = z.2
  refine ⟨fun i m H => m = ds.length - i ∧ i ≤ ds.length ∧ In i H, ⟨ds.length, by simp, Nat.zero_le _, ?_⟩, ?_⟩
  · have gl := gr_lay (x := .lst []) R.sub hD
    refine ⟨_, s2, [], [], z, rfl, gl.le, (R.wipe hu).grow gl, keep_unw hu, upd_same, .nil, none_of_sub R.sub hD, fun i h => ?_, e, rfl, rfl⟩
    obtain ⟨_, o, h2⟩ := R.out i D' h
    rw [hD] at h2
    cases h2
  · rintro i m H ⟨rfl, hi, w', s', das, acc, z', rfl, l', R', k', hA, dA, fD, nD, e', ez, ez2⟩
    obtain ⟨hgo, hstop⟩ := hw w' l' R'.sub
    by_cases hlt : i < ds.length
    · refine .inr ?_
      obtain ⟨h1, h2⟩ := hgo i _ (List.getElem?_eq_getElem hlt)
      rw [List.drop_eq_getElem_cons hlt] at e'
      obtain ⟨s1, e1, e2⟩ := bnd (x := t ds[i] s') e'
      obtain ⟨⟨b, s3⟩, e3, e4⟩ := bnd e2
      refine ⟨h1, In (i + 1), fun H' q => ⟨ds.length - (i + 1), by omega, rfl, hlt, q⟩, fun x H'' hy => ?_⟩
      obtain ⟨w1, rfl, g1, dx⟩ := h2 x H'' hy
      have R1 := R'.grow g1
      have hA1 : w1.H D' = some (.lst acc) := (g1.h D' _ hA).1
      have fD1 : w1.F D' = none := ((g1.h D' _ hA).2).trans fD
      have n1 : w1.no D' := fun j q => nD j (by rw [g1.p] at q; exact q)
      have dA1 := dpAll_mono g1.f _ _ dA
      have l1 : Le w w1 := l'.trans g1.le
      -- what stays of the list that grows
      have stay : ∀ w3, Le w1 w3 → w3.H D' = some (.lst acc) ∧ w3.F D' = none ∧ w3.no D' ∧ DpAll K w3.F acc das := fun w3 l3 => by
        obtain ⟨q1, q2⟩ := l3.h D' _ hA1 n1
        exact ⟨q1, q2.trans fD1, l3.np hA1 n1, dpAll_mono l3.f _ _ dA1⟩
      refine hg w1 w1 _ s' s1 x ds[i] (Le.refl w1) R1 dx e1 _ fun σ2 w2 hh l2 R2 k2 hl2 hs2 => ?_
      have hwp : L2.wipe σ2 vs = L2.wipe σ vs := by
        apply List.ext_getElem?
        intro j
        rw [wipe_get, wipe_get]
        by_cases hj : j ∈ vs
        · rw [if_pos hj, if_pos hj]
          rw [wipe_length] at hl2
          by_cases hjl : j < σ.length
          · rw [List.getElem?_eq_getElem hjl, List.getElem?_eq_getElem (by omega)]
            rfl
          · rw [List.getElem?_eq_none (by omega), List.getElem?_eq_none (by omega)]
        · rw [if_neg hj, if_neg hj, hs2 j (fun q => hj (hts j q)), wipe_get, if_neg hj]
      have kk2 : Keep s' s1 := fun j kc q => (k2 j kc q).2
      refine ⟨hwp, w2, s1, rfl, R2, b, s3, e3, fun w3 l3 R3 k3 => ?_⟩
      cases b with
      | true =>
        obtain ⟨⟨o4, s4⟩, e5, e6⟩ := bnd (x := mFz me s3) e4
        obtain ⟨d', e7, e8⟩ := bnd e6
        obtain ⟨s5, e9, e10⟩ := bnd e8
        obtain ⟨z2, e11, e12⟩ := bnd e10
        have e12 := Option.some.inj e12
        subst e12
        rw [if_pos rfl]
        refine ⟨w3, s3, rfl, R3, o4, s4, e5, fun y w4 l4 R4 k4 q4 => ?_⟩
        have l14 : Le w1 w4 := (l2.trans l3).trans l4
        obtain ⟨y1, y2, y3, y4⟩ := stay w4 l14
        have dy : Dp K w4.F y d' := by
          cases o4 with
          | v d4 =>
            cases e7
            exact q4
          | nw _ => cases e7
          | sl _ => cases e7
        have ez' : das ++ (d' :: z2.1) = z.1 := ez
        have hzl := congrArg List.length ez'
        rw [List.length_append, List.length_cons] at hzl
        refine ⟨acc, y1, ?_, ?_⟩
        · rw [dpa_len y4]
          exact Evl.sz_lt (by omega)
        · have Rw := R4.wipe e9
          rw [hwp] at Rw
          refine ⟨{ w4 with H := upd w4.H D' (.lst (acc ++ [y])) }, s5, das ++ [d'], acc ++ [y], z2, rfl, (l1.trans l14).mutD hD, Rw.mutD y3 y2 ⟨_, y1⟩, k'.trans (kk2.trans (k3.trans (k4.trans (keep_unw e9)))), upd_same, dpa_app y4 (dpa_one dy), y2, y3, e11, ?_, ez2⟩
          rw [← ez', List.append_assoc]
          rfl
      | false =>
        obtain ⟨s5, e9, e10⟩ := bnd (x := unw vs s3) e4
        have l13 : Le w1 w3 := l2.trans l3
        obtain ⟨y1, y2, y3, y4⟩ := stay w3 l13
        have Rw := R3.wipe e9
        rw [hwp] at Rw
        rw [if_neg Bool.false_ne_true]
        exact ⟨w3, s5, das, acc, z', rfl, l1.trans l13, Rw, k'.trans (kk2.trans (k3.trans (keep_unw e9))), y1, y4, y2, y3, e10, ez, ez2⟩
    · have e0 : i = ds.length := by omega
      subst e0
      rw [List.drop_length] at e'
      cases e'
      have ez : das ++ [] = z.1 := ez
      rw [List.append_nil] at ez
      subst ez
      refine .inl ⟨hstop, k (.ref D') w' l' ?_ ?_ ⟨[D'], ⟨D', acc, rfl, rfl, hA, dA⟩, fun a ha => ?_⟩⟩
      · rw [← ez2]
        exact R.unwipe l' R' hn
      · rw [← ez2]
        exact keep_rst hn k'
      · have ea : a = D' := List.mem_singleton.mp ha
        subst ea
        exact ⟨hD, fD, nD, _, hA⟩
def mLc (sel : D → Option (List D)) (ml : M) (t : Tgt) (mt : MT) (me : M) (vs : List Nat) : M := fun s => (mFz ml s).bind fun p => (cD p.2 p.1).bind fun d => (sel d).bind fun ds => (unw vs p.2).bind fun s2 => (loopC t mt me vs ds s2).bind fun z => endC vs p.2 z
theorem endC_le {vs : List Nat} {s₁ : List Slot} {z : List D × List Slot} {r : Op × List Slot} (h : endC vs s₁ z = some r) : z.1.length ≤ 100000 ∧ r = (.nw (.lst z.1), rst vs s₁ z.2) := by
  unfold endC at h
  split at h
  · rename_i q
    cases h
    exact ⟨q, rfl⟩
  · cases h
theorem lift_lcL {ml : M} {g : TG} {t : Tgt} {ts vs : List Nat} {mt : MT} {me : M} {σ : St} {H : Hp} {Q : VK} (hg : TgtC c g t ts) (hts : ∀ i ∈ ts, i ∈ vs) (h : liftE c (mLc selL ml t mt me vs) σ H Q) : tLc (iList K (liftE c (mFz ml))) g (liftT c mt) (liftE c (mFz me)) vs σ H Q := by
  obtain ⟨w, s, rfl, R, o, s', e, k⟩ := h
  obtain ⟨⟨o1, s1⟩, e1, e⟩ := bnd e
  obtain ⟨d, e2, e⟩ := bnd e
  obtain ⟨ds, e3, e⟩ := bnd e
  obtain ⟨s2, e4, e⟩ := bnd e
  obtain ⟨z, e5, e⟩ := bnd e
  obtain ⟨hz, e⟩ := endC_le e
  cases e
  refine ⟨w, s, rfl, R, o1, s1, e1, fun v w1 l1 R1 k1 q1 => ?_⟩
  obtain ⟨d1, rfl⟩ := mfz_v e1
  cases e2
  cases d with
  | list ds' =>
    cases e3
    have q1 : Dp K w1.F v (.list ds) := q1
    cases q1 with
    | lst h1 h2 => exact ⟨_, rfl, ⟨_, sqL_mono R1.sub h1⟩, lift_lc hg hts (walks_list h1 h2) R1 e4 e5 hz fun v w' l' R' k' q => k v w' (l1.trans l') R' (k1.trans k') (q.back l1)⟩
  | _ => cases e3
theorem lift_lcT {ml : M} {g : TG} {t : Tgt} {ts vs : List Nat} {mt : MT} {me : M} {σ : St} {H : Hp} {Q : VK} (hg : TgtC c g t ts) (hts : ∀ i ∈ ts, i ∈ vs) (h : liftE c (mLc selT ml t mt me vs) σ H Q) : tLc (iTup K (liftE c (mFz ml))) g (liftT c mt) (liftE c (mFz me)) vs σ H Q := by
  obtain ⟨w, s, rfl, R, o, s', e, k⟩ := h
  obtain ⟨⟨o1, s1⟩, e1, e⟩ := bnd e
  obtain ⟨d, e2, e⟩ := bnd e
  obtain ⟨ds, e3, e⟩ := bnd e
  obtain ⟨s2, e4, e⟩ := bnd e
  obtain ⟨z, e5, e⟩ := bnd e
  obtain ⟨hz, e⟩ := endC_le e
  cases e
  refine ⟨w, s, rfl, R, o1, s1, e1, fun v w1 l1 R1 k1 q1 => ?_⟩
  obtain ⟨d1, rfl⟩ := mfz_v e1
  cases e2
  cases d with
  | tuple ds' =>
    cases e3
    have q1 : Dp K w1.F v (.tuple ds) := q1
    cases q1 with
    | tup h1 h2 => exact ⟨_, rfl, ⟨_, sqT_mono R1.sub h1⟩, lift_lc hg hts (walks_tup h1 h2) R1 e4 e5 hz fun v w' l' R' k' q => k v w' (l1.trans l') R' (k1.trans k') (q.back l1)⟩
  | _ => cases e3
def mLcR1 (m : M) (t : Tgt) (mt : MT) (me : M) (vs : List Nat) : M := fun s => (m s).bind fun p => (cD p.2 p.1).bind fun d => match d with
  | .int n => if -(2 ^ 62) ≤ n ∧ n < 2 ^ 62 then (unw vs p.2).bind fun s2 => (loopC t mt me vs (rngD 0 n.toNat) s2).bind fun z => endC vs p.2 z else none
  | _ => none
theorem lift_lcR1 {m : M} {g : TG} {t : Tgt} {ts vs : List Nat} {mt : MT} {me : M} {σ : St} {H : Hp} {Q : VK} (hg : TgtC c g t ts) (hts : ∀ i ∈ ts, i ∈ vs) (h : liftE c (mLcR1 m t mt me vs) σ H Q) : tLc (iRng1 (liftA c (mACons m mANil))) g (liftT c mt) (liftE c (mFz me)) vs σ H Q := by
  obtain ⟨w, s, rfl, R, o, s', e, k⟩ := h
  obtain ⟨⟨o1, s1⟩, e1, e⟩ := bnd e
  obtain ⟨d, e2, e⟩ := bnd e
  cases d with
  | int n =>
    have e : (if -(2 ^ 62) ≤ n ∧ n < 2 ^ 62 then (unw vs s1).bind fun s2 => (loopC t mt me vs (rngD 0 n.toNat) s2).bind fun z => endC vs s1 z else none) = some (o, s') := e
    split at e
    · rename_i hn
      obtain ⟨s2, e4, e⟩ := bnd e
      obtain ⟨z, e5, e⟩ := bnd e
      obtain ⟨hz, e⟩ := endC_le e
      cases e
      refine ⟨w, s, rfl, R, [o1], s1, ?_, fun vs w1 l1 R1 k1 q1 => ?_⟩
      · unfold mACons mANil
        rw [e1]
        rfl
      · cases q1 with
        | cons h1 h2 =>
          cases h2
          have q : Dp K w1.F _ (.int n) := R1.view h1 e2
          cases q
          exact ⟨n, rfl, hn.1, hn.2, lift_lc hg hts walks_rng R1 e4 e5 hz fun v w' l' R' k' q => k v w' (l1.trans l') R' (k1.trans k') (q.back l1)⟩
    · cases e
  | _ => cases e
end
def mYes : MT := fun s => some (true, s)
theorem _root_.L2.PTs.imp {X : Cx} {e : List Expr} {t t' : TT} (h : PTs X e t) (i : ∀ σ H Q, t' σ H Q → t σ H Q) : PTs X e t' := ⟨fun pins s σ H Q I q => h.run pins s σ H Q I (i _ _ _ q)⟩
theorem shts_nil {X : Cx} {c : Cfg X.K} : PTs X [] (liftT c mYes) := pts_nil.imp fun σ H Q q => by
  obtain ⟨w, s, rfl, R, b, s', e, k⟩ := q
  cases e
  exact k w (Le.refl w) R (Keep.refl _)
theorem shts_one {X : Cx} {c : Cfg X.K} {e : Expr} {m : MT} (h : PT X e (liftT c m)) : PTs X [e] (liftT c m) := pts_one h
section
variable {X : Cx} {c : Cfg X.K} {elt tg iter : Expr} {ifs : List Expr} {scope : Scope} {own : List (Str × Nat)} {pos : Pos} {g : TG} {t : Tgt} {ts : List Nat} {mt : MT} {me ml : M}
abbrev Blk (X : Cx) (scope : Scope) (p : Cx → Prop) : Prop := ∀ (s : Shared) (H : Hp) (C : Addr) (cl : List (Str × Addr)) (fp : List Addr), p (X.blk s H scope (compEnvC scope cl C X.env) fp)
theorem she_lcL (hc : X.calm = true) (hN : X.N.Nodup) (hi : PE X iter (liftE c ml)) (ok : BlkOk X.N X.env.scope scope own) (hg : ∀ (s : Shared) (H : Hp) (C : Addr) (cl : List (Str × Addr)) (fp : List Addr), PG (X.blk s H scope (compEnvC scope cl C X.env) fp) tg g) (hg' : TgtC c g t ts) (hts : ∀ i ∈ ts, i ∈ own.map (·.2))
    (ht : ∀ (s : Shared) (H : Hp) (C : Addr) (cl : List (Str × Addr)) (fp : List Addr), PTs (X.blk s H scope (compEnvC scope cl C X.env) fp) ifs (liftT c mt)) (he : ∀ (s : Shared) (H : Hp) (C : Addr) (cl : List (Str × Addr)) (fp : List Addr), PE (X.blk s H scope (compEnvC scope cl C X.env) fp) elt (liftE c me)) (hs : ∀ x, foldedSetIterable iter X.env x = pure x := by intro _; rfl) :
    PE X (.ListComp elt [⟨tg, iter, ifs, 0⟩] scope pos) (liftE c (mLc selL ml t mt me (own.map (·.2)))) := (pe_lc hc hN (pi_list (she_fz hi)) ok hg ht (fun s H C cl fp => she_fz (he s H C cl fp)) hs).imp fun _ _ _ h => lift_lcL hg' hts h
theorem she_lcT (hc : X.calm = true) (hN : X.N.Nodup) (hi : PE X iter (liftE c ml)) (ok : BlkOk X.N X.env.scope scope own) (hg : ∀ (s : Shared) (H : Hp) (C : Addr) (cl : List (Str × Addr)) (fp : List Addr), PG (X.blk s H scope (compEnvC scope cl C X.env) fp) tg g) (hg' : TgtC c g t ts) (hts : ∀ i ∈ ts, i ∈ own.map (·.2))
    (ht : ∀ (s : Shared) (H : Hp) (C : Addr) (cl : List (Str × Addr)) (fp : List Addr), PTs (X.blk s H scope (compEnvC scope cl C X.env) fp) ifs (liftT c mt)) (he : ∀ (s : Shared) (H : Hp) (C : Addr) (cl : List (Str × Addr)) (fp : List Addr), PE (X.blk s H scope (compEnvC scope cl C X.env) fp) elt (liftE c me)) (hs : ∀ x, foldedSetIterable iter X.env x = pure x := by intro _; rfl) :
    PE X (.ListComp elt [⟨tg, iter, ifs, 0⟩] scope pos) (liftE c (mLc selT ml t mt me (own.map (·.2)))) := (pe_lc hc hN (pi_tup (she_fz hi)) ok hg ht (fun s H C cl fp => she_fz (he s H C cl fp)) hs).imp fun _ _ _ h => lift_lcT hg' hts h
theorem she_lcR1 {a : Expr} {p pos' : Pos} (hc : X.calm = true) (hN : X.N.Nodup) (hgl : Gl X "range") (hm : X.mg "range" = none) (hi : PE X a (liftE c ml)) (ok : BlkOk X.N X.env.scope scope own) (hg : ∀ (s : Shared) (H : Hp) (C : Addr) (cl : List (Str × Addr)) (fp : List Addr), PG (X.blk s H scope (compEnvC scope cl C X.env) fp) tg g) (hg' : TgtC c g t ts) (hts : ∀ i ∈ ts, i ∈ own.map (·.2))
    (ht : ∀ (s : Shared) (H : Hp) (C : Addr) (cl : List (Str × Addr)) (fp : List Addr), PTs (X.blk s H scope (compEnvC scope cl C X.env) fp) ifs (liftT c mt)) (he : ∀ (s : Shared) (H : Hp) (C : Addr) (cl : List (Str × Addr)) (fp : List Addr), PE (X.blk s H scope (compEnvC scope cl C X.env) fp) elt (liftE c me)) (hs : starEach [a] X.env = [(false, eval a X.env)] := by rfl)
    (hf : ∀ x, foldedSetIterable (.Call (.Name "range" p) [a] [] pos') X.env x = pure x := by intro _; rfl) : PE X (.ListComp elt [⟨tg, .Call (.Name "range" p) [a] [] pos', ifs, 0⟩] scope pos) (liftE c (mLcR1 ml t mt me (own.map (·.2)))) :=
  (pe_lc hc hN (pi_range1 hgl hm (sha_cons hi sha_nil hs) hs) ok hg ht (fun s H C cl fp => she_fz (he s H C cl fp)) hf).imp fun _ _ _ h => lift_lcR1 hg' hts h
/-- y = [..] on one line -/
theorem shs_setLc {i : Nat} {y : Str} {py : Pos} {spos : Pos} {wi : TI} {te : TE} {tt : TT} {m : M} (hc : X.calm = true) (hN : X.N.Nodup) (hy : X.N[i]? = some y) (hyl : X.env.scope.names.lookup y = some .local)
    (hsw : swapsWith (.ListComp elt [⟨tg, iter, ifs, 0⟩] scope pos) (some (.Name y py)) spos.line X.env = pure true) (hi : PI X tg iter wi) (ok : BlkOk X.N X.env.scope scope own)
    (hg : ∀ (s : Shared) (H : Hp) (C : Addr) (cl : List (Str × Addr)) (fp : List Addr), PG (X.blk s H scope (compEnvC scope cl C X.env) fp) tg g) (ht : ∀ (s : Shared) (H : Hp) (C : Addr) (cl : List (Str × Addr)) (fp : List Addr), PTs (X.blk s H scope (compEnvC scope cl C X.env) fp) ifs tt)
    (he : ∀ (s : Shared) (H : Hp) (C : Addr) (cl : List (Str × Addr)) (fp : List Addr), PE (X.blk s H scope (compEnvC scope cl C X.env) fp) elt te) (hl : ∀ σ H Q, liftE c m σ H Q → tLc wi g tt te (own.map (·.2)) σ H Q) (hs : ∀ x, foldedSetIterable iter X.env x = pure x := by intro _; rfl) :
    PS X (.Assign [.Name y py] (.ListComp elt [⟨tg, iter, ifs, 0⟩] scope pos) spos) (liftS c (mAsg m i)) := (ps_setLc hc hN hy hyl hsw hi ok hg ht he hs).imp fun D σ H h => hl σ H _ (lift_asg h)
end
end Sh

set_option Elab.async false
set_option linter.all false
set_option maxRecDepth 100000
set_option maxHeartbeats 1000000
/-! Sh7: what the operations are worth. -/
namespace Sh
open PySem L2
section
variable {K : PySem.W.Frag}
theorem vd_int {w : W} {v : V} {i : Int} (h : VD (K := K) w v (.int i)) : v = .int i := by
  have h : Dp K w.F v (.int i) := h
  cases h
  rfl
theorem vd_str {w : W} {v : V} {i : Str} (h : VD (K := K) w v (.str i)) : v = .str i := by
  have h : Dp K w.F v (.str i) := h
  cases h
  rfl
theorem vd_bool {w : W} {v : V} {i : Bool} (h : VD (K := K) w v (.bool i)) : v = .bl i := by
  have h : Dp K w.F v (.bool i) := h
  cases h
  rfl
theorem vd_none {w : W} {v : V} (h : VD (K := K) w v .none) : v = .non := by
  have h : Dp K w.F v .none := h
  cases h
  rfl
theorem vd_tup {w : W} {v : V} {ds : List D} (h : VD (K := K) w v (.tuple ds)) : ∃ a xs, v = .ref a ∧ SqT K w.F a xs ∧ DpAll K w.F xs ds := by
  have h : Dp K w.F v (.tuple ds) := h
  cases h with
  | tup h1 h2 => exact ⟨_, _, rfl, h1, h2⟩
/-- two ints -/
def fI (C : Int → Int → Bool) (g : Int → Int → D) : D → D → Option Res
  | .int i, .int j => if C i j = true then some (.d (g i j)) else none
  | _, _ => none
theorem sem_I {C : Int → Int → Prop} {Cb : Int → Int → Bool} {g : Int → Int → V} {g' : Int → Int → D} (hC : ∀ i j, Cb i j = true → C i j) (hg : ∀ F i j, Dp K F (g i j) (g' i j)) : Sem2 K (rI C g) (fI Cb g') := fun w x y d e res sb vx vy q Q k => by
  cases d with
  | int i =>
    cases e with
    | int j =>
      have q : (if Cb i j = true then some (Res.d (g' i j)) else none) = some res := q
      split at q
      · rename_i hc
        cases q
        exact ⟨i, j, vd_int vx, vd_int vy, hC i j hc, k.val sb (hg _ i j)⟩
      · cases q
    | _ => cases q
  | _ => cases q
def fI0 (g : Int → Int → D) : D → D → Option Res
  | .int i, .int j => some (.d (g i j))
  | _, _ => none
theorem sem_I0 {g : Int → Int → V} {g' : Int → Int → D} (hg : ∀ F i j, Dp K F (g i j) (g' i j)) : Sem2 K (rI0 g) (fI0 g') := fun w x y d e res sb vx vy q Q k => by
  cases d with
  | int i =>
    cases e with
    | int j =>
      cases q
      exact ⟨i, j, vd_int vx, vd_int vy, k.val sb (hg _ i j)⟩
    | _ => cases q
  | _ => cases q
instance (i j : Int) : Decidable (CMul i j) := inferInstanceAs (Decidable ((-(2 ^ 64) < i ∧ i < 2 ^ 64) ∨ (-(2 ^ 64) < j ∧ j < 2 ^ 64)))
def fAddI := fI0 fun i j => .int (i + j)
def fSub := fI0 fun i j => .int (i - j)
def fMulI := fI (fun i j => decide (CMul i j)) fun i j => .int (i * j)
def fDiv := fI (fun _ j => decide (0 < j) && decide (j < 1073741824)) fun i j => .int (i / j)
def fMod := fI (fun _ j => decide (0 < j)) fun i j => .int (i % j)
def fPow := fI (fun i j => decide (0 ≤ j) && decide (j ≤ 1000000) && decide (i.natAbs < 2 ^ 64)) fun i j => .int (i ^ j.toNat)
def fLt := fI0 fun i j => .bool (decide (i < j))
def fLe := fI0 fun i j => .bool (decide (i ≤ j))
def fGt := fI0 fun i j => .bool (decide (j < i))
def fGe := fI0 fun i j => .bool (decide (j ≤ i))
theorem sem_addI : Sem2 K (rI0 fun i j => .int (i + j)) fAddI := sem_I0 fun _ _ _ => .int _
theorem sem_sub : Sem2 K (rI0 fun i j => .int (i - j)) fSub := sem_I0 fun _ _ _ => .int _
theorem sem_mulI : Sem2 K (rI CMul fun i j => .int (i * j)) fMulI := sem_I (fun _ _ h => of_decide_eq_true h) fun _ _ _ => .int _
theorem sem_div : Sem2 K (rI CDiv fun i j => .int (i / j)) fDiv := sem_I (fun _ _ h => by
  have z := Bool.and_eq_true_iff.mp h
  exact ⟨of_decide_eq_true z.1, of_decide_eq_true z.2⟩) fun _ _ _ => .int _
theorem sem_mod : Sem2 K (rI (fun _ j => 0 < j) fun i j => .int (i % j)) fMod := sem_I (fun _ _ h => of_decide_eq_true h) fun _ _ _ => .int _
theorem sem_pow : Sem2 K (rI CPow fun i j => .int (i ^ j.toNat)) fPow := sem_I (fun _ _ h => by
  have z := Bool.and_eq_true_iff.mp h
  have z2 := Bool.and_eq_true_iff.mp z.1
  exact ⟨of_decide_eq_true z2.1, of_decide_eq_true z2.2, of_decide_eq_true z.2⟩) fun _ _ _ => .int _
theorem sem_lt : Sem2 K (rI0 fun i j => .bl (decide (i < j))) fLt := sem_I0 fun _ _ _ => .bl _
theorem sem_le : Sem2 K (rI0 fun i j => .bl (decide (i ≤ j))) fLe := sem_I0 fun _ _ _ => .bl _
theorem sem_gt : Sem2 K (rI0 fun i j => .bl (decide (j < i))) fGt := sem_I0 fun _ _ _ => .bl _
theorem sem_ge : Sem2 K (rI0 fun i j => .bl (decide (j ≤ i))) fGe := sem_I0 fun _ _ _ => .bl _
def fNeg : D → Option Res
  | .int i => some (.d (.int (-i)))
  | _ => none
theorem sem_neg : Sem1 K (rU fun i => .int (-i)) fNeg := fun w x d res sb vx q Q k => by
  cases d with
  | int i =>
    cases q
    exact ⟨i, vd_int vx, k.val sb (.int _)⟩
  | _ => cases q
/-- == -/
def fEq : D → D → Option Res
  | .int i, .int j => some (.d (.bool (decide (i = j))))
  | .str x, .str y => some (.d (.bool (decide (x = y))))
  | .bool a, .bool b => some (.d (.bool (decide (a = b))))
  | d, e => if (SeqAt.shaped d && SeqAt.shaped e) = true then some (.d (.bool (PyData.eqv d e))) else none
def fNe : D → D → Option Res
  | .int i, .int j => some (.d (.bool (!decide (i = j))))
  | .str x, .str y => some (.d (.bool (!decide (x = y))))
  | .bool a, .bool b => some (.d (.bool (!decide (a = b))))
  | d, e => if (SeqAt.shaped d && SeqAt.shaped e) = true then some (.d (.bool (!PyData.eqv d e))) else none
theorem dec_V {α : Type} [DecidableEq α] {f : α → V} (hf : ∀ a b, f a = f b → a = b) (a b : α) : decide (f a = f b) = decide (a = b) := by
  by_cases h : a = b
  · subst h
    rw [decide_eq_true rfl, decide_eq_true rfl]
  · rw [decide_eq_false h, decide_eq_false fun q => h (hf _ _ q)]
theorem sem_eq : Sem2 K (fun x y H Q => rEq x y H Q ∨ rEqD K x y H Q) fEq := fun w x y d e res sb vx vy q Q k => by
  have gen : (if (SeqAt.shaped d && SeqAt.shaped e) = true then some (Res.d (.bool (PyData.eqv d e))) else none) = some res → rEq x y w.H Q ∨ rEqD K x y w.H Q := fun q => by
    split at q
    · rename_i h
      cases q
      obtain ⟨h1, h2⟩ := Bool.and_eq_true_iff.mp h
      exact .inr ⟨d, e, vx.dp sb, vy.dp sb, h1, h2, k.val sb (.bl _)⟩
    · cases q
  unfold fEq at q
  split at q
  · cases q
    rw [vd_int vx, vd_int vy]
    refine .inl ⟨rfl, ?_⟩
    rw [dec_V fun _ _ => V.int.inj]
    exact k.val sb (.bl _)
  · cases q
    rw [vd_str vx, vd_str vy]
    refine .inl ⟨rfl, ?_⟩
    rw [dec_V fun _ _ => V.str.inj]
    exact k.val sb (.bl _)
  · cases q
    rw [vd_bool vx, vd_bool vy]
    refine .inl ⟨rfl, ?_⟩
    rw [dec_V fun _ _ => V.bl.inj]
    exact k.val sb (.bl _)
  · exact gen q
theorem sem_ne : Sem2 K (fun x y H Q => rNe x y H Q ∨ rNeD K x y H Q) fNe := fun w x y d e res sb vx vy q Q k => by
  have gen : (if (SeqAt.shaped d && SeqAt.shaped e) = true then some (Res.d (.bool (!PyData.eqv d e))) else none) = some res → rNe x y w.H Q ∨ rNeD K x y w.H Q := fun q => by
    split at q
    · rename_i h
      cases q
      obtain ⟨h1, h2⟩ := Bool.and_eq_true_iff.mp h
      exact .inr ⟨d, e, vx.dp sb, vy.dp sb, h1, h2, k.val sb (.bl _)⟩
    · cases q
  unfold fNe at q
  split at q
  · cases q
    rw [vd_int vx, vd_int vy]
    refine .inl ⟨rfl, ?_⟩
    rw [dec_V fun _ _ => V.int.inj]
    exact k.val sb (.bl _)
  · cases q
    rw [vd_str vx, vd_str vy]
    refine .inl ⟨rfl, ?_⟩
    rw [dec_V fun _ _ => V.str.inj]
    exact k.val sb (.bl _)
  · cases q
    rw [vd_bool vx, vd_bool vy]
    refine .inl ⟨rfl, ?_⟩
    rw [dec_V fun _ _ => V.bl.inj]
    exact k.val sb (.bl _)
  · exact gen q
def isNoneD : D → Bool
  | .none => true
  | _ => false
theorem isNone_dp {F : Hp} {v : V} {d : D} (h : Dp K F v d) : decide (v = .non) = isNoneD d := by
  cases h <;> first | rfl | exact decide_eq_false (fun q => nomatch q) | exact decide_eq_true rfl
def fIsN : D → D → Option Res
  | d, .none => some (.d (.bool (isNoneD d)))
  | _, _ => none
def fNotN : D → D → Option Res
  | d, .none => some (.d (.bool (!isNoneD d)))
  | _, _ => none
theorem sem_isN : Sem2 K (fun x y H Q => y = .non ∧ Q (.bl (decide (x = .non))) H) fIsN := fun w x y d e res sb vx vy q Q k => by
  cases e with
  | none =>
    cases q
    refine ⟨vd_none vy, ?_⟩
    rw [isNone_dp (vx.dp sb)]
    exact k.val sb (.bl _)
  | _ => cases q
theorem sem_notN : Sem2 K (fun x y H Q => y = .non ∧ Q (.bl (!decide (x = .non))) H) fNotN := fun w x y d e res sb vx vy q Q k => by
  cases e with
  | none =>
    cases q
    refine ⟨vd_none vy, ?_⟩
    rw [isNone_dp (vx.dp sb)]
    exact k.val sb (.bl _)
  | _ => cases q
/-- in, over flat items -/
def flatD : D → Bool
  | .none => true
  | .bool _ => true
  | .int _ => true
  | .str _ => true
  | _ => false
theorem flat_dp {F : Hp} {v : V} {d : D} (h : Dp K F v d) (f : flatD d = true) : flatV v = true := by
  cases h <;> first | rfl | cases f
theorem flats_dp {F : Hp} : ∀ {vs : List V} {ds : List D}, DpAll K F vs ds → ds.all flatD = true → vs.all flatV = true
  | _, [], h, _ => by
    cases h
    rfl
  | _, d :: ds, h, f => by
    cases h with
    | cons h1 h2 =>
      rw [List.all_cons, Bool.and_eq_true_iff] at f
      rw [List.all_cons, flat_dp h1 f.1, flats_dp h2 f.2]
      rfl
theorem eqV_dp {F : Hp} {v u : V} {d e : D} (h : Dp K F v d) (g : Dp K F u e) (fd : flatD d = true) (fe : flatD e = true) : eqV v u = PyData.eqv d e := by
  cases h <;> first | (cases g <;> first | rfl | cases fe) | cases fd
theorem inV_dp {F : Hp} {u : V} {e : D} (g : Dp K F u e) (fe : flatD e = true) : ∀ {vs : List V} {ds : List D}, DpAll K F vs ds → ds.all flatD = true → inV u vs = ds.any fun d => PyData.eqv d e
  | _, [], h, _ => by
    cases h
    rfl
  | _, d :: ds, h, f => by
    cases h with
    | cons h1 h2 =>
      rw [List.all_cons, Bool.and_eq_true_iff] at f
      have ih := inV_dp g fe h2 f.2
      unfold inV at ih ⊢
      rw [List.any_cons, List.any_cons, ih, eqV_dp h1 g f.1 fe]
def seqD : D → Option (List D)
  | .list ds => some ds
  | .tuple ds => some ds
  | _ => none
def fIn (neg : Bool) (d e : D) : Option Res := (seqD e).bind fun ds => if (flatD d && ds.all flatD) = true then some (.d (.bool (if neg then !(ds.any fun z => PyData.eqv z d) else ds.any fun z => PyData.eqv z d))) else none
theorem sem_in {neg : Bool} : Sem2 K (rIn K neg) (fIn neg) := fun w x y d e res sb vx vy q Q k => by
  obtain ⟨ds, e1, q⟩ := bnd q
  split at q
  · rename_i h
    cases q
    obtain ⟨h1, h2⟩ := Bool.and_eq_true_iff.mp h
    have dx := vx.dp sb
    have fin : ∀ (p : Addr) (xs : List V), y = .ref p → (SqL K w.H p xs ∨ SqT K w.H p xs) → DpAll K w.F xs ds → rIn K neg x y w.H Q := fun p xs ey hs hd => by
      refine ⟨p, xs, ey, hs, flat_dp dx h1, flats_dp hd h2, ?_⟩
      rw [inV_dp dx h1 (dpAll_mono sb _ _ hd) h2]
      exact k.val sb (.bl _)
    cases e with
    | list es =>
      cases e1
      obtain ⟨a, xs, ey, h3, h4⟩ := vy
      exact fin a xs ey (.inl h3) h4
    | tuple es =>
      cases e1
      obtain ⟨a, xs, ey, h3, h4⟩ := vd_tup vy
      exact fin a xs ey (.inr (sqT_mono sb h3)) h4
    | _ => cases e1
  · cases q
/-- items -/
def fIx (d e : D) : Option Res := match e with
  | .int i => match d with
    | .list ds => (atI ds i).bind fun z => some (.d z)
    | .tuple ds => (atI ds i).bind fun z => some (.d z)
    | .str z => if z.length ≤ 100000 then (atI z.cps.toList i).bind fun ch => some (.d (.str ⟨#[ch]⟩)) else none
    | _ => none
  | _ => none
theorem at_dp {F : Hp} {vs : List V} {ds : List D} (h : DpAll K F vs ds) {i : Int} {d : D} (e : atI ds i = some d) : ∃ v, atI vs i = some v ∧ Dp K F v d := by
  unfold atI at e ⊢
  rw [dpa_len h]
  cases q : ixN ds.length i with
  | none =>
    rw [q] at e
    cases e
  | some j =>
    rw [q] at e
    exact dpa_get h e
def rIxA (K : PySem.W.Frag) : R2 := fun x y H Q => rIxL K x y H Q ∨ (rIxT K x y H Q ∨ rIxS x y H Q)
theorem sem_ix : Sem2 K (rIxA K) fIx := fun w x y d e res sb vx vy q Q k => by
  cases e with
  | int i =>
    have ey := vd_int vy
    cases d with
    | list ds =>
      obtain ⟨z, e1, q⟩ := bnd (x := atI ds i) q
      cases q
      obtain ⟨a, xs, ex, h1, h2⟩ := vx
      obtain ⟨v, h3, h4⟩ := at_dp h2 e1
      exact .inl ⟨a, xs, i, v, ex, ey, h1, h3, k.val sb h4⟩
    | tuple ds =>
      obtain ⟨z, e1, q⟩ := bnd (x := atI ds i) q
      cases q
      obtain ⟨a, xs, ex, h1, h2⟩ := vd_tup vx
      obtain ⟨v, h3, h4⟩ := at_dp h2 e1
      exact .inr (.inl ⟨a, xs, i, v, ex, ey, sqT_mono sb h1, h3, k.val sb h4⟩)
    | str z =>
      have q : (if z.length ≤ 100000 then (atI z.cps.toList i).bind fun ch => some (Res.d (.str ⟨#[ch]⟩)) else none) = some res := q
      split at q
      · rename_i hz
        obtain ⟨ch, e1, q⟩ := bnd q
        cases q
        exact .inr (.inr ⟨z, i, ch, vd_str vx, ey, Evl.sz_of hz, e1, k.val sb (.str _)⟩)
      · cases q
    | _ => cases q
  | _ => cases q
end
theorem ix_all {X : Cx} : IxR X (rIxA X.K) := IxR.or ix_list (IxR.or ix_tup ix_str)
theorem op_eqA {X : Cx} (hu : X.A.units + 64 < cLine) : OpR X (compareOp .Eq) (fun x y H Q => rEq x y H Q ∨ rEqD X.K x y H Q) := OpR.or op_eq (op_eqD hu)
theorem op_neA {X : Cx} (hu : X.A.units + 64 < cLine) : OpR X (compareOp .NotEq) (fun x y H Q => rNe x y H Q ∨ rNeD X.K x y H Q) := OpR.or op_ne (op_neD hu)

/-! ### built-ins -/
section
variable {K : PySem.W.Frag}
def f1 (f : D → Option Res) : List D → Option Res
  | [d] => f d
  | _ => none
theorem vds1 {w : W} {xs : List V} {d : D} (h : VDs K w xs [d]) : ∃ x, xs = [x] ∧ VD (K := K) w x d := by
  cases h with
  | cons h1 h2 =>
    cases h2
    exact ⟨_, rfl, h1⟩
theorem sem_1 {r : List V → Hp → VK → Prop} {f : D → Option Res} (h : ∀ (w : W) (x : V) (d : D) (res : Res), Sub w.F w.H → VD (K := K) w x d → f d = some res → ∀ Q : VK, Fin K w Q res → r [x] w.H Q) : SemC K r (f1 f) := fun w xs ds res sb vx q Q k => by
  match ds, q with
  | [d], q =>
    obtain ⟨x, rfl, hx⟩ := vds1 vx
    exact h w x d res sb hx q Q k
def fLen : D → Option Res
  | .list ds => some (.d (.int ds.length))
  | .tuple ds => some (.d (.int ds.length))
  | .str z => if z.length ≤ 100000 then some (.d (.int z.length)) else none
  | _ => none
def rLenA (K : PySem.W.Frag) : List V → Hp → VK → Prop := fun xs H Q => (∃ p ys, xs = [.ref p] ∧ (SqL K H p ys ∨ SqT K H p ys) ∧ Q (.int ys.length) H) ∨ ∃ z, xs = [.str z] ∧ z.length ≤ sizeLine ∧ Q (.int z.length) H
theorem sem_len : SemC K (rLenA K) (f1 fLen) := sem_1 fun w x d res sb vx q Q k => by
  cases d with
  | list ds =>
    cases q
    obtain ⟨a, xs, rfl, h1, h2⟩ := vx
    exact .inl ⟨a, xs, rfl, .inl h1, k.val sb (by rw [dpa_len h2]; exact .int _)⟩
  | tuple ds =>
    cases q
    obtain ⟨a, xs, rfl, h1, h2⟩ := vd_tup vx
    exact .inl ⟨a, xs, rfl, .inr (sqT_mono sb h1), k.val sb (by rw [dpa_len h2]; exact .int _)⟩
  | str z =>
    have q : (if z.length ≤ 100000 then some (Res.d (.int z.length)) else none) = some res := q
    split at q
    · rename_i hz
      cases q
      exact .inr ⟨z, by rw [vd_str vx], Evl.sz_of hz, k.val sb (.int _)⟩
    · cases q
  | _ => cases q
def fInt : D → Option Res
  | .int i => some (.d (.int i))
  | .bool b => some (.d (.int (if b then 1 else 0)))
  | _ => none
theorem sem_int : SemC K (fun xs H Q => (∃ i, xs = [.int i] ∧ Q (.int i) H) ∨ ∃ k, xs = [.bl k] ∧ Q (.int (if k then 1 else 0)) H) (f1 fInt) := sem_1 fun w x d res sb vx q Q k => by
  cases d with
  | int i =>
    cases q
    exact .inl ⟨i, by rw [vd_int vx], k.val sb (.int _)⟩
  | bool b =>
    cases q
    exact .inr ⟨b, by rw [vd_bool vx], k.val sb (.int _)⟩
  | _ => cases q
def fList : D → Option Res
  | .list ds => some (.nl ds)
  | .tuple ds => some (.nl ds)
  | _ => none
theorem sem_list : SemC K (fun xs H Q => ∃ p ys, xs = [.ref p] ∧ (SqL K H p ys ∨ SqT K H p ys) ∧ ∀ l, H l = none → Q (.ref l) (upd H l (.lst ys))) (f1 fList) := sem_1 fun w x d res sb vx q Q k => by
  cases d with
  | list ds =>
    cases q
    obtain ⟨a, xs, rfl, h1, h2⟩ := vx
    exact ⟨a, xs, rfl, .inl h1, fun l hl => k.lst sb h2 hl⟩
  | tuple ds =>
    cases q
    obtain ⟨a, xs, rfl, h1, h2⟩ := vd_tup vx
    exact ⟨a, xs, rfl, .inr (sqT_mono sb h1), fun l hl => k.lst sb h2 hl⟩
  | _ => cases q
def fTuple : D → Option Res
  | .list ds => some (.d (.tuple ds))
  | .tuple ds => some (.d (.tuple ds))
  | _ => none
theorem sem_tuple : SemC K (fun xs H Q => ∃ p ys, xs = [.ref p] ∧ ((SqL K H p ys ∧ ∀ l, H l = none → Q (.ref l) (upd H l (.tup ys))) ∨ (SqT K H p ys ∧ Q (.ref p) H))) (f1 fTuple) := sem_1 fun w x d res sb vx q Q k => by
  cases d with
  | list ds =>
    cases q
    obtain ⟨a, xs, rfl, h1, h2⟩ := vx
    exact ⟨a, xs, rfl, .inl ⟨h1, fun l hl => k.tup sb h2 hl⟩⟩
  | tuple ds =>
    cases q
    obtain ⟨a, xs, rfl, h1, h2⟩ := vd_tup vx
    exact ⟨a, xs, rfl, .inr ⟨sqT_mono sb h1, k.val sb (.tup h1 h2)⟩⟩
  | _ => cases q
def intsD : List D → Option (List Int)
  | [] => some []
  | .int i :: r => (intsD r).bind fun t => some (i :: t)
  | _ :: _ => none
theorem intsD_map : ∀ (ns : List Int), intsD (ns.map PyData.int) = some ns
  | [] => rfl
  | n :: ns => by
    show (intsD (ns.map PyData.int)).bind _ = _
    rw [intsD_map ns]
    rfl
theorem intsD_eq : ∀ {ds : List D} {ns : List Int}, intsD ds = some ns → ds = ns.map PyData.int
  | [], _, h => by
    cases h
    rfl
  | .int i :: r, _, h => by
    obtain ⟨t, e1, e⟩ := bnd (x := intsD r) h
    cases e
    rw [intsD_eq e1]
    rfl
  | .none :: _, _, h => by cases h
  | .bool _ :: _, _, h => by cases h
  | .str _ :: _, _, h => by cases h
  | .list _ :: _, _, h => by cases h
  | .tuple _ :: _, _, h => by cases h
  | .dict _ :: _, _, h => by cases h
def fInts (f : List Int → Option Res) : D → Option Res
  | .list ds => (intsD ds).bind f
  | _ => none
theorem sem_ints {r : List V → Hp → VK → Prop} {f : List Int → Option Res} (h : ∀ (w : W) (a : Addr) (ns : List Int) (res : Res), Sub w.F w.H → SqL K w.H a (ns.map V.int) → f ns = some res → ∀ Q : VK, Fin K w Q res → r [.ref a] w.H Q) : SemC K r (f1 (fInts f)) := sem_1 fun w x d res sb vx q Q k => by
  cases d with
  | list ds =>
    obtain ⟨ns, e1, e2⟩ := bnd (x := intsD ds) q
    obtain ⟨a, xs, rfl, h1, h2⟩ := vx
    rw [intsD_eq e1] at h2
    rw [dpAll_ints h2] at h1
    exact h w a ns res sb h1 e2 Q k
  | _ => cases q
def fSum := fInts fun ns => some (.d (.int ns.sum))
theorem sem_sum : SemC K (rSum K) (f1 fSum) := sem_ints fun w a ns res sb h q Q k => by
  cases q
  exact ⟨a, ns, rfl, h, k.val sb (.int _)⟩
def leastL : List Int → Option Int
  | [] => none
  | n :: ns => some (ns.foldl min n)
def mostL : List Int → Option Int
  | [] => none
  | n :: ns => some (ns.foldl max n)
theorem foldl_min_le : ∀ (ns : List Int) (n : Int), ns.foldl min n ≤ n ∧ (∀ x ∈ ns, ns.foldl min n ≤ x) ∧ (ns.foldl min n = n ∨ ns.foldl min n ∈ ns)
  | [], n => ⟨Int.le_refl _, (fun _ h => by cases h), Or.inl rfl⟩
  | y :: r, n => by
    obtain ⟨h1, h2, h3⟩ := foldl_min_le r (min n y)
    have e : (y :: r).foldl min n = r.foldl min (min n y) := rfl
    rw [e]
    refine ⟨by omega, fun x hx => ?_, ?_⟩
    · rcases List.mem_cons.mp hx with rfl | hx
      · omega
      · exact h2 x hx
    · rcases h3 with h3 | h3
      · by_cases h : n ≤ y
        · left; omega
        · right
          rw [h3, Int.min_eq_right (by omega)]
          exact List.mem_cons_self
      · right
        exact List.mem_cons_of_mem _ h3
theorem foldl_max_ge : ∀ (ns : List Int) (n : Int), n ≤ ns.foldl max n ∧ (∀ x ∈ ns, x ≤ ns.foldl max n) ∧ (ns.foldl max n = n ∨ ns.foldl max n ∈ ns)
  | [], n => ⟨Int.le_refl _, (fun _ h => by cases h), Or.inl rfl⟩
  | y :: r, n => by
    obtain ⟨h1, h2, h3⟩ := foldl_max_ge r (max n y)
    have e : (y :: r).foldl max n = r.foldl max (max n y) := rfl
    rw [e]
    refine ⟨by omega, fun x hx => ?_, ?_⟩
    · rcases List.mem_cons.mp hx with rfl | hx
      · omega
      · exact h2 x hx
    · rcases h3 with h3 | h3
      · by_cases h : y ≤ n
        · left; omega
        · right
          rw [h3, Int.max_eq_right (by omega)]
          exact List.mem_cons_self
      · right
        exact List.mem_cons_of_mem _ h3
def fMin := fInts fun ns => (leastL ns).bind fun m => some (.d (.int m))
def fMax := fInts fun ns => (mostL ns).bind fun m => some (.d (.int m))
def fSorted := fInts fun ns => some (.nl ((ns.mergeSort (· ≤ ·)).map PyData.int))
theorem least_uniq {ns : List Int} {m z : Int} (h : leastL ns = some m) (h1 : z ∈ ns) (h2 : ∀ x ∈ ns, z ≤ x) : z = m := by
  cases ns with
  | nil => cases h
  | cons n r =>
    cases h
    obtain ⟨q1, q2, q3⟩ := foldl_min_le r n
    have a : r.foldl min n ≤ z := by
      rcases List.mem_cons.mp h1 with rfl | h1
      · exact q1
      · exact q2 z h1
    have b : z ≤ r.foldl min n := by
      rcases q3 with q3 | q3
      · rw [q3]
        exact h2 n List.mem_cons_self
      · exact h2 _ (List.mem_cons_of_mem _ q3)
    omega
theorem most_uniq {ns : List Int} {m z : Int} (h : mostL ns = some m) (h1 : z ∈ ns) (h2 : ∀ x ∈ ns, x ≤ z) : z = m := by
  cases ns with
  | nil => cases h
  | cons n r =>
    cases h
    obtain ⟨q1, q2, q3⟩ := foldl_max_ge r n
    have a : z ≤ r.foldl max n := by
      rcases List.mem_cons.mp h1 with rfl | h1
      · exact q1
      · exact q2 z h1
    have b : r.foldl max n ≤ z := by
      rcases q3 with q3 | q3
      · rw [q3]
        exact h2 n List.mem_cons_self
      · exact h2 _ (List.mem_cons_of_mem _ q3)
    omega
theorem sem_min : SemC K (rMin K) (f1 fMin) := sem_ints fun w a ns res sb h q Q k => by
  obtain ⟨m, e1, e⟩ := bnd q
  cases e
  refine ⟨a, ns, rfl, h, ?_, fun z h1 h2 => ?_⟩
  · cases ns with
    | nil => cases e1
    | cons _ _ => exact Nat.succ_pos _
  · have e := least_uniq e1 h1 h2
    subst e
    exact k.val sb (.int _)
theorem sem_max : SemC K (rMax K) (f1 fMax) := sem_ints fun w a ns res sb h q Q k => by
  obtain ⟨m, e1, e⟩ := bnd q
  cases e
  refine ⟨a, ns, rfl, h, ?_, fun z h1 h2 => ?_⟩
  · cases ns with
    | nil => cases e1
    | cons _ _ => exact Nat.succ_pos _
  · have e := most_uniq e1 h1 h2
    subst e
    exact k.val sb (.int _)
theorem sort_uniq {ns ns' : List Int} (h1 : ns'.Perm ns) (h2 : ns'.Pairwise (· ≤ ·)) : ns' = ns.mergeSort (· ≤ ·) := by
  refine List.Perm.eq_of_pairwise (fun _ _ _ _ a b => Int.le_antisymm a b) h2 ?_ (h1.trans (List.mergeSort_perm ns _).symm)
  have z := List.pairwise_mergeSort (le := fun a b : Int => decide (a ≤ b)) (fun a b c h1 h2 => by
    have h1 := of_decide_eq_true h1
    have h2 := of_decide_eq_true h2
    exact decide_eq_true (Int.le_trans h1 h2)) (fun a b => by
    rcases Int.le_total a b with h | h
    · rw [decide_eq_true h]
      rfl
    · rw [decide_eq_true h, Bool.or_true]) ns
  exact z.imp fun h => of_decide_eq_true h
theorem sem_sorted : SemC K (rSortedI K) (f1 fSorted) := sem_ints fun w a ns res sb h q Q k => by
  cases q
  refine ⟨a, ns, rfl, h, fun ns' p h1 h2 hp => ?_⟩
  rw [sort_uniq h1 h2]
  exact k.lst sb (dpAll_of_ints _) hp
end
section
variable {X : Cx}
theorem call_lenA : CallR X (.builtin "len") (rLenA X.K) := by
  intro pins s σ H xs us Q I r h
  rcases h with h | h
  · exact call_len_seq pins s σ H xs us Q I r h
  · exact call_len_str pins s σ H xs us Q I r h
end
end Sh

set_option Elab.async false
set_option linter.all false
set_option maxRecDepth 100000
set_option maxHeartbeats 1000000
/-! Sh8: stores into objects of one's own, isinstance, and the like. -/
namespace Sh
open PySem L2
section
variable {K : PySem.W.Frag} {c : Cfg K} {w₀ w w' : W} {σ : St} {s s' : List Slot} {o : Op} {v : V} {d : D}
/-- the object of a slot's own changes -/
theorem Rel.mutS (R : Rel c w σ s) (l0 : Le w₀ w) {i : Nat} {p : Bool} {k k' : Cont} {a : Addr} {x : HO} (hs : s[i]? = some (.ow p k)) (ha : a ∈ w.φ i) (hk : ∀ v, σ[i]? = some (some v) → Own c w.F (upd w.H a x) v k' (w.φ i)) :
    ∃ w', w'.H = upd w.H a x ∧ w'.F = w.F ∧ w'.φ = w.φ ∧ Le w₀ w' ∧ Rel c w' σ (s.set i (.ow p k')) ∧ Keep s (s.set i (.ow p k')) := by
  obtain ⟨fa, o, oa⟩ := R.out i a ha
  have hil : i < s.length := (List.getElem?_eq_some_iff.mp hs).1
  have cases_a : w₀.H a = none ∨ a ∈ w₀.φ i := (l0.p i a ha).symm
  have other : ∀ j b, j ≠ i → b ∈ w.φ j → b ≠ a := fun j b hj hb z => hj (R.dis j i b hb (by rw [z]; exact ha))
  refine ⟨{ w with H := upd w.H a x }, rfl, rfl, rfl, ⟨l0.f, fun b u q n => ?_, l0.p, fun b u q => ?_⟩, ⟨by rw [List.length_set]; exact R.len, fun b u q => ?_, fun j b hb => ?_, fun j e hj => ?_, fun j p' k2 hj => ?_, R.dis, fun j hj => ?_⟩, fun j k2 hj => ?_⟩
  · obtain ⟨q1, q2⟩ := l0.h b u q n
    refine ⟨?_, q2⟩
    show upd w.H a x b = some u
    rw [upd_ne (fun z => ?_)]
    · exact q1
    · subst z
      rcases cases_a with z | z
      · rw [z] at q
        cases q
      · exact n i z
  · by_cases z : b = a
    · exact ⟨x, by subst z; exact upd_same⟩
    · obtain ⟨u', h⟩ := l0.t b u q
      exact ⟨u', by show upd w.H a x b = some u'; rw [upd_ne z]; exact h⟩
  · show upd w.H a x b = some u
    rw [upd_ne (ne_of_none q fa)]
    exact R.sub b u q
  · obtain ⟨q1, u, q2⟩ := R.out j b hb
    refine ⟨q1, ?_⟩
    by_cases z : b = a
    · exact ⟨x, by subst z; exact upd_same⟩
    · exact ⟨u, by show upd w.H a x b = some u; rw [upd_ne z]; exact q2⟩
  · by_cases z : j = i
    · subst z
      rw [List.getElem?_set_self hil] at hj
      cases hj
    · rw [List.getElem?_set_ne (Ne.symm z)] at hj
      exact R.fz j e hj
  · by_cases z : j = i
    · subst z
      rw [List.getElem?_set_self hil] at hj
      cases hj
      obtain ⟨v, q1, _⟩ := R.ow j p k hs
      exact ⟨v, q1, hk v q1⟩
    · rw [List.getElem?_set_ne (Ne.symm z)] at hj
      obtain ⟨v, q1, q2⟩ := R.ow j p' k2 hj
      refine ⟨v, q1, q2.mono (fun _ _ z => z) fun b hb u hu => ?_⟩
      show upd w.H a x b = some u
      rw [upd_ne (other j b z hb)]
      exact hu
  · by_cases z : j = i
    · subst z
      exact absurd (List.getElem?_set_self hil) (hj p k')
    · refine R.non j fun p2 k2 q => hj p2 k2 ?_
      rw [List.getElem?_set_ne (Ne.symm z)]
      exact q
  · by_cases z : j = i
    · subst z
      rw [List.getElem?_set_self hil] at hj
      cases hj
      exact ⟨k, hs⟩
    · rw [List.getElem?_set_ne (Ne.symm z)] at hj
      exact ⟨k2, hj⟩
theorem Rel.ow_list (R : Rel c w σ s) {i : Nat} {p : Bool} {ds : List D} (hs : s[i]? = some (.ow p (.lst ds))) : ∃ a xs, σ[i]? = some (some (.ref a)) ∧ w.φ i = [a] ∧ w.H a = some (.lst xs) ∧ DpAll K w.F xs ds := by
  obtain ⟨v, h1, a, xs, rfl, h2, h3, h4⟩ := R.ow i p _ hs
  exact ⟨a, xs, h1, h2, h3, h4⟩
/-- the list of a slot's own changes -/
theorem Rel.mutL (R : Rel c w σ s) (l0 : Le w₀ w) {i : Nat} {p : Bool} {ds ds' : List D} {a : Addr} {xs' : List V} (hs : s[i]? = some (.ow p (.lst ds))) (hv : σ[i]? = some (some (.ref a))) (hφ : w.φ i = [a]) (hd : DpAll K w.F xs' ds') :
    ∃ w', w'.H = upd w.H a (.lst xs') ∧ w'.F = w.F ∧ w'.φ = w.φ ∧ Le w₀ w' ∧ Rel c w' σ (s.set i (.ow p (.lst ds'))) ∧ Keep s (s.set i (.ow p (.lst ds'))) :=
  R.mutS l0 hs (by rw [hφ]; exact List.mem_cons_self) fun v hv' => by
    rw [hv] at hv'
    cases hv'
    exact ⟨a, xs', rfl, hφ, upd_same, hd⟩
end
/-- x.append(e) -/
def owL (s : List Slot) (i : Nat) : Option (Bool × List D) := match s[i]? with
  | some (.ow p (.lst ds)) => some (p, ds)
  | _ => none
theorem owL_get {s : List Slot} {i : Nat} {p : Bool} {ds : List D} (h : owL s i = some (p, ds)) : s[i]? = some (.ow p (.lst ds)) := by
  unfold owL at h
  split at h
  · rename_i q
    cases h
    exact q
  · cases h
def mApp (i : Nat) (me : M) : M := fun s => (owL s i).bind fun _ => (mFz me s).bind fun p => (vD p.1).bind fun d => (owL p.2 i).bind fun z => if z.2.length < 100000 then some (.v .none, p.2.set i (.ow z.1 (.lst (z.2 ++ [d])))) else none
/-- x.pop(e) -/
def mPopAt (i : Nat) (me : M) : M := fun s => (owL s i).bind fun _ => (me s).bind fun p => (cD p.2 p.1).bind fun d => (owL p.2 i).bind fun z => match d with
  | .int j => (ixN z.2.length j).bind fun k => (z.2[k]?).bind fun d' => if -(2 ^ 63) ≤ j ∧ j < 2 ^ 63 then some (.v d', p.2.set i (.ow z.1 (.lst (z.2.eraseIdx k)))) else none
  | _ => none
/-- x[j] = e -/
def mSetI (i : Nat) (mj me : M) : MS := fun s => (mFz me s).bind fun p => (vD p.1).bind fun d => (owL p.2 i).bind fun _ => (mj p.2).bind fun q => (cD q.2 q.1).bind fun dj => (owL q.2 i).bind fun z => match dj with
  | .int j => (ixN z.2.length j).bind fun k => some (.nx (q.2.set i (.ow z.1 (.lst (z.2.set k d)))))
  | _ => none
def mUnp (me : M) (t : Tgt) : MS := fun s => (mFz me s).bind fun p => (vD p.1).bind fun d => (t d p.2).bind fun s' => some (.nx s')
section
variable {K : PySem.W.Frag} {c : Cfg K}
theorem vd_op {B : Hp} {w : W} {σ : St} {o : Op} {d : D} {v : V} (h : RepO c B w σ o v) (e : vD o = some d) : Dp K w.F v d := by
  cases o with
  | v d' =>
    cases e
    exact h
  | _ => cases e
theorem lift_app {i : Nat} {me : M} {σ : St} {H : Hp} {Q : VK} (h : liftE c (mApp i me) σ H Q) : tBM K "list" rAppend (tVar i) (tCons (liftE c (mFz me)) tNil) σ H Q := by
  obtain ⟨w, s, rfl, R, o, s', e, k⟩ := h
  obtain ⟨⟨p0, ds0⟩, e0, e⟩ := bnd e
  obtain ⟨⟨o1, s1⟩, e1, e⟩ := bnd e
  obtain ⟨d, e2, e⟩ := bnd e
  obtain ⟨⟨p, ds⟩, e3, e⟩ := bnd e
  have e : (if ds.length < 100000 then some (Op.v .none, s1.set i (.ow p (.lst (ds ++ [d])))) else none) = some (o, s') := e
  split at e
  · rename_i hz
    cases e
    obtain ⟨a, xs0, hv, hφ, hH, hD⟩ := R.ow_list (owL_get e0)
    refine ⟨.ref a, hv, .inl ⟨rfl, xs0, SqL.of hH⟩, ?_⟩
    refine ⟨w, s, rfl, R, o1, s1, e1, fun v1 w1 l1 R1 k1 q1 => ?_⟩
    obtain ⟨a1, xs, hv1, hφ1, hH1, hD1⟩ := R1.ow_list (owL_get e3)
    rw [hv] at hv1
    cases hv1
    refine ⟨a, xs, v1, rfl, rfl, hH1, Evl.sz_lt (by rw [dpa_len hD1]; exact hz), ?_⟩
    obtain ⟨w2, hh, hF, _, l2, R2, k2⟩ := R1.mutL l1 (owL_get e3) hv hφ1 (dpa_app hD1 (dpa_one (vd_op q1 e2)))
    rw [← hh]
    exact k .non w2 l2 R2 (k1.trans k2) .non
  · cases e
theorem lift_popAt {i : Nat} {me : M} {σ : St} {H : Hp} {Q : VK} (h : liftE c (mPopAt i me) σ H Q) : tBM K "list" rPopAt (tVar i) (tCons (liftE c me) tNil) σ H Q := by
  obtain ⟨w, s, rfl, R, o, s', e, k⟩ := h
  obtain ⟨⟨p0, ds0⟩, e0, e⟩ := bnd e
  obtain ⟨⟨o1, s1⟩, e1, e⟩ := bnd e
  obtain ⟨d, e2, e⟩ := bnd e
  obtain ⟨⟨p, ds⟩, e3, e⟩ := bnd e
  cases d with
  | int j =>
    obtain ⟨n, e4, e⟩ := bnd (x := ixN ds.length j) e
    obtain ⟨d', e5, e⟩ := bnd e
    split at e
    · rename_i hj
      cases e
      obtain ⟨a, xs0, hv, hφ, hH, hD⟩ := R.ow_list (owL_get e0)
      refine ⟨.ref a, hv, .inl ⟨rfl, xs0, SqL.of hH⟩, ?_⟩
      refine ⟨w, s, rfl, R, o1, s1, e1, fun v1 w1 l1 R1 k1 q1 => ?_⟩
      obtain ⟨a1, xs, hv1, hφ1, hH1, hD1⟩ := R1.ow_list (owL_get e3)
      rw [hv] at hv1
      cases hv1
      have ev : v1 = .int j := vd_int (R1.view q1 e2)
      subst ev
      obtain ⟨y, y1, y2⟩ := dpa_get hD1 e5
      refine ⟨a, xs, j, n, y, rfl, rfl, hH1, hj.1, hj.2, ?_, y1, ?_⟩
      · rw [dpa_len hD1]
        exact (ixN_seq e4).1
      · obtain ⟨w2, hh, hF, _, l2, R2, k2⟩ := R1.mutL l1 (owL_get e3) hv hφ1 (dpa_erase n hD1)
        rw [← hh]
        refine k y w2 l2 R2 (k1.trans k2) ?_
        show Dp K w2.F y d'
        rw [hF]
        exact y2
    · cases e
  | _ => cases e
theorem lift_setI {i : Nat} {mj me : M} {D' : Ends} {σ : St} {H : Hp} (h : liftS c (mSetI i mj me) D' σ H) : tAsg (liftE c (mFz me)) (gSub (tVar i) (liftE c mj) rSetL) D' σ H := by
  obtain ⟨w, s, rfl, R, out, e, k⟩ := h
  obtain ⟨⟨o1, s1⟩, e1, e⟩ := bnd e
  obtain ⟨d, e2, e⟩ := bnd e
  obtain ⟨⟨p0, ds0⟩, e0, e⟩ := bnd e
  obtain ⟨⟨o2, s2⟩, e3, e⟩ := bnd e
  obtain ⟨dj, e4, e⟩ := bnd e
  obtain ⟨⟨p, ds⟩, e5, e⟩ := bnd e
  cases dj with
  | int j =>
    obtain ⟨n, e6, e⟩ := bnd (x := ixN ds.length j) e
    cases e
    refine ⟨w, s, rfl, R, o1, s1, e1, fun v1 w1 l1 R1 k1 q1 => ?_⟩
    obtain ⟨a, xs0, hv, hφ, hH, hD⟩ := R1.ow_list (owL_get e0)
    refine ⟨.ref a, hv, ?_⟩
    refine ⟨w1, s1, rfl, R1, o2, s2, e3, fun v2 w2 l2 R2 k2 q2 => ?_⟩
    obtain ⟨a1, xs, hv1, hφ1, hH1, hD1⟩ := R2.ow_list (owL_get e5)
    rw [hv] at hv1
    cases hv1
    have ev : v2 = .int j := vd_int (R2.view q2 e4)
    subst ev
    refine ⟨a, xs, j, n, rfl, rfl, hH1, ?_, ?_⟩
    · rw [dpa_len hD1]
      exact e6
    · obtain ⟨w3, hh, hF, _, l3, R3, k3⟩ := R2.mutL (l1.trans l2) (owL_get e5) hv hφ1 (dpa_set (dp_mono l2.f _ _ (vd_op q1 e2)) n hD1)
      rw [← hh]
      exact k σ w3 l3 R3 ((k1.trans k2).trans k3).kp
  | _ => cases e
theorem lift_unp {me : M} {t : Tgt} {g : TG} {D' : Ends} {σ : St} {H : Hp} (ht : TgtOk c g t) (h : liftS c (mUnp me t) D' σ H) : tAsg (liftE c (mFz me)) g D' σ H := by
  obtain ⟨w, s, rfl, R, out, e, k⟩ := h
  obtain ⟨⟨o1, s1⟩, e1, e⟩ := bnd e
  obtain ⟨d, e2, e⟩ := bnd e
  obtain ⟨s2, e3, e⟩ := bnd e
  cases e
  refine ⟨w, s, rfl, R, o1, s1, e1, fun v1 w1 l1 R1 k1 q1 => ?_⟩
  exact ht w w1 σ s1 s2 v1 d l1 R1 (vd_op q1 e2) e3 _ fun σ' w' _ l' R' k' => k σ' w' l' R' (k1.kp.trans k')
/-- isinstance(e, T), a built-in class -/
def tyD : D → String
  | .none => "NoneType"
  | .bool _ => "bool"
  | .int _ => "int"
  | .str _ => "str"
  | .list _ => "list"
  | .tuple _ => "tuple"
  | .dict _ => "dict"
def fIsi (T : String) (d : D) : Option Res := (kitB (tyD d) T).bind fun b => some (.d (.bool b))
theorem ty_dp {w : W} {v : V} {d : D} (sb : Sub w.F w.H) (h : VD (K := K) w v d) : TyX K w.H v (.type (tyD d)) := by
  have h := h.dp sb
  cases h with
  | non => exact .base .non
  | bl b => exact .base (.bl b)
  | int i => exact .base (.int i)
  | str x => exact .base (.str x)
  | lst h1 h2 =>
    rcases h1 with (h1 | ⟨o, h1⟩) | ⟨o, its, n, h1, h2, _⟩
    · exact .base (.lst h1)
    · exact .base (.frz h1)
    · exact .kList h1 h2
  | tup h1 h2 =>
    rcases h1 with (h1 | ⟨o, h1⟩) | ⟨o, its, n, h1, h2, _⟩
    · exact .base (.tup h1)
    · exact .fTuple h1
    · exact .kTuple h1 h2
theorem lift_isi {T : String} {m : M} {σ : St} {H : Hp} {Q : VK} (h : liftE c (mUn (fIsi T) m) σ H Q) : tCB (rIsi K) (tCons (liftE c m) (tCons (tC (.ty T)) tNil)) σ H Q := by
  obtain ⟨w, s, rfl, R, o, s', e, k⟩ := h
  obtain ⟨⟨o1, s1⟩, e1, e⟩ := bnd e
  obtain ⟨d, e2, e⟩ := bnd e
  obtain ⟨res, e3, e⟩ := bnd e
  obtain ⟨b, e4, e5⟩ := bnd e3
  cases e5
  cases e
  refine ⟨w, s, rfl, R, o1, s1, e1, fun v1 w1 l1 R1 k1 q1 => ?_⟩
  exact ⟨v1, .ty T, _, _, b, rfl, .ty T, ty_dp R1.sub (R1.view q1 e2), kit_ty e4, k _ w1 l1 R1 k1 (.bl b)⟩
/-- a list told by its own object -/
def cLn (s : List Slot) (o : Op) : Option (List D) := (cC s o).bind fun k => match k with
  | .lst ds => some ds
  | _ => none
theorem Rel.viewL {B : Hp} {w : W} {σ : St} {s : List Slot} {o : Op} {v : V} {ds : List D} (R : Rel c w σ s) (h : RepO c B w σ o v) (e : cLn s o = some ds) : ∃ a xs, v = .ref a ∧ w.H a = some (.lst xs) ∧ DpAll K w.F xs ds := by
  obtain ⟨k, e1, e2⟩ := bnd e
  obtain ⟨fp, h1⟩ := R.viewC h e1
  cases k with
  | lst ds' =>
    cases e2
    obtain ⟨a, xs, rfl, _, h2, h3⟩ := h1
    exact ⟨a, xs, rfl, h2, h3⟩
  | _ => cases e2
/-- xs * n -/
def mRep (ma mb : M) : M := fun s => (ma s).bind fun p => (mb p.2).bind fun q => (cLn q.2 p.1).bind fun ds => (cD q.2 q.1).bind fun e => match e with
  | .int n => if -(2 ^ 63) ≤ n ∧ n < 2 ^ 63 ∧ ds.length * n.toNat ≤ 100000 then some (.nw (.lst (List.replicate n.toNat ds).flatten), q.2) else none
  | _ => none
theorem dpa_rep {F : Hp} {xs : List V} {ds : List D} (h : DpAll K F xs ds) : ∀ n : Nat, DpAll K F (List.replicate n xs).flatten (List.replicate n ds).flatten
  | 0 => .nil
  | n + 1 => by
    rw [List.replicate_succ, List.replicate_succ, List.flatten_cons, List.flatten_cons]
    exact dpa_app h (dpa_rep h n)
theorem lift_rep {ma mb : M} {σ : St} {H : Hp} {Q : VK} (h : liftE c (mRep ma mb) σ H Q) : tOp rRep (liftE c ma) (liftE c mb) σ H Q := by
  obtain ⟨w, s, rfl, R, o, s', e, k⟩ := h
  obtain ⟨⟨o1, s1⟩, e1, e⟩ := bnd e
  obtain ⟨⟨o2, s2⟩, e2, e⟩ := bnd e
  obtain ⟨ds, e3, e⟩ := bnd e
  obtain ⟨d2, e4, e⟩ := bnd e
  cases d2 with
  | int n =>
    have e : (if -(2 ^ 63) ≤ n ∧ n < 2 ^ 63 ∧ ds.length * n.toNat ≤ 100000 then some (Op.nw (.lst (List.replicate n.toNat ds).flatten), s2) else none) = some (o, s') := e
    split at e
    · rename_i hn
      cases e
      refine ⟨w, s, rfl, R, o1, s1, e1, fun v1 w1 l1 R1 k1 q1 => ?_⟩
      refine ⟨w1, s1, rfl, R1, o2, _, e2, fun v2 w2 l2 R2 k2 q2 => ?_⟩
      obtain ⟨a, xs, rfl, h1, h2⟩ := R2.viewL (q1.go l2) e3
      have ev : v2 = .int n := vd_int (R2.view q2 e4)
      subst ev
      refine ⟨a, n, xs, rfl, rfl, h1, hn.1, hn.2.1, Evl.sz_of (by rw [dpa_len h2]; exact hn.2.2), fun p hp => ?_⟩
      exact Fin.lst R2.sub (Fin.go R2 (r := .nl _) fun v w' l' R' q => k v w' ((l1.trans l2).trans l') R' (k1.trans k2) (q.back (l1.trans l2))) (dpa_rep h2 n.toNat) hp
    · cases e
  | _ => cases e
/-- xs + ys -/
def mCat (ma mb : M) : M := fun s => (ma s).bind fun p => (mb p.2).bind fun q => (cLn q.2 p.1).bind fun ds => (cLn q.2 q.1).bind fun es => if ds.length + es.length ≤ 100000 then some (.nw (.lst (ds ++ es)), q.2) else none
theorem lift_cat {ma mb : M} {σ : St} {H : Hp} {Q : VK} (h : liftE c (mCat ma mb) σ H Q) : tOp rCat (liftE c ma) (liftE c mb) σ H Q := by
  obtain ⟨w, s, rfl, R, o, s', e, k⟩ := h
  obtain ⟨⟨o1, s1⟩, e1, e⟩ := bnd e
  obtain ⟨⟨o2, s2⟩, e2, e⟩ := bnd e
  obtain ⟨ds, e3, e⟩ := bnd e
  obtain ⟨es, e4, e⟩ := bnd e
  have e : (if ds.length + es.length ≤ 100000 then some (Op.nw (.lst (ds ++ es)), s2) else none) = some (o, s') := e
  split at e
  · rename_i hn
    cases e
    refine ⟨w, s, rfl, R, o1, s1, e1, fun v1 w1 l1 R1 k1 q1 => ?_⟩
    refine ⟨w1, s1, rfl, R1, o2, _, e2, fun v2 w2 l2 R2 k2 q2 => ?_⟩
    obtain ⟨a, xs, rfl, h1, h2⟩ := R2.viewL (q1.go l2) e3
    obtain ⟨b, ys, rfl, h3, h4⟩ := R2.viewL q2 e4
    refine ⟨a, b, xs, ys, rfl, rfl, h1, h3, Evl.sz_of (by rw [dpa_len h2, dpa_len h4]; exact hn), fun p hp => ?_⟩
    exact Fin.lst R2.sub (Fin.go R2 (r := .nl _) fun v w' l' R' q => k v w' ((l1.trans l2).trans l') R' (k1.trans k2) (q.back (l1.trans l2))) (dpa_app h2 h4) hp
  · cases e
/-- {k: n, ..}.get(e, f) with texts and numbers written -/
def kvK (kv : List (Str × Int)) : List (Key × V) := kv.map fun p => (Sum.inr p.1, V.int p.2)
def getS : List (Str × Int) → Str → Option Int
  | [], _ => none
  | p :: r, x => if p.1 = x then some p.2 else getS r x
theorem valV_kvK (x : Str) : ∀ kv : List (Str × Int), valV (kvK kv) (Sum.inr x) = (getS kv x).map V.int
  | [] => rfl
  | p :: r => by
    unfold getS
    by_cases h : p.1 = x
    · rw [if_pos h]
      show valV ((Sum.inr p.1, V.int p.2) :: kvK r) (Sum.inr x) = _
      rw [valV_pos (by rw [h])]
      rfl
    · rw [if_neg h]
      show valV ((Sum.inr p.1, V.int p.2) :: kvK r) (Sum.inr x) = _
      rw [valV_neg (fun z => h (Sum.inr.inj z))]
      exact valV_kvK x r
def iD : D → Option Int
  | .int n => some n
  | _ => none
def getD2 (kv : List (Str × Int)) (x : Str) (z : D) : Option Int := match getS kv x with
  | some n => some n
  | none => iD z
def mGetS (kv : List (Str × Int)) (me mf : M) : M := fun s => (me s).bind fun p => (mf p.2).bind fun q => (cD q.2 p.1).bind fun d => (cD q.2 q.1).bind fun z => match d with
  | .str x => (getD2 kv x z).bind fun n => some (.v (.int n), q.2)
  | _ => none
def trK (kv : List (Str × Int)) : List (TE × TE) := kv.map fun p => (tC (.str p.1), tC (.int p.2))
theorem pairs_k {σ : St} {H : Hp} : ∀ (kv : List (Str × Int)) {Q : List (V × V) → Hp → Prop}, Q (kv.map fun p => (V.str p.1, V.int p.2)) H → tPairs (trK kv) σ H Q
  | [], _, h => h
  | p :: r, Q, h => pairs_k r (Q := fun ps H3 => Q ((V.str p.1, V.int p.2) :: ps) H3) h
theorem lift_getS {kv : List (Str × Int)} {me mf : M} {σ : St} {H : Hp} {Q : VK} (hm : mergeK [] (kvK kv) = kvK kv) (h15 : kv.length ≤ 15) (h : liftE c (mGetS kv me mf) σ H Q) : tDGet2 (tDisp (trK kv)) (liftE c me) (liftE c mf) σ H Q := by
  obtain ⟨w, s, rfl, R, o, s', e, k⟩ := h
  obtain ⟨⟨o1, s1⟩, e1, e⟩ := bnd e
  obtain ⟨⟨o2, s2⟩, e2, e⟩ := bnd e
  obtain ⟨d, e3, e⟩ := bnd e
  obtain ⟨z, e4, e⟩ := bnd e
  refine fun p hp => pairs_k kv ⟨upd_same, kvK kv, ?_, ?_, ?_⟩
  · unfold kvK
    rw [List.map_map]
    rfl
  · unfold kvK
    rw [List.length_map]
    exact h15
  · rw [hm]
    have e0 : upd (upd w.H p (.dK [])) p (.dK (kvK kv)) = upd w.H p (.dK (kvK kv)) := upd_upd
    rw [e0]
    have g := gr_lay (x := .dK (kvK kv)) R.sub hp
    refine ⟨p, rfl, .inl ⟨_, .inl upd_same⟩, ?_⟩
    refine ⟨_, s, rfl, R.grow g, o1, s1, e1, fun v1 w1 l1 R1 k1 q1 => ?_⟩
    refine ⟨w1, s1, rfl, R1, o2, s2, e2, fun v2 w2 l2 R2 k2 q2 => ?_⟩
    have np : (∀ i, p ∉ w.φ i) := fun i zz => by
      obtain ⟨_, u, q⟩ := R.out i p zz
      rw [hp] at q
      cases q
    have hp2 : w2.H p = some (.dK (kvK kv)) := ((l1.trans l2).h p _ upd_same np).1
    cases d with
    | str x =>
      have ev : v1 = .str x := vd_str (R2.view (q1.go l2) e3)
      subst ev
      refine ⟨valV (kvK kv) (Sum.inr x), .inl ⟨kvK kv, Sum.inr x, .inl hp2, rfl, rfl⟩, ?_⟩
      rw [valV_kvK]
      obtain ⟨n, e5, e6⟩ := bnd (x := getD2 kv x z) e
      cases e6
      have lw : Le w w2 := (g.le.trans l1).trans l2
      have fin : ∀ u : V, u = .int n → Q u w2.H := fun u hu => by
        subst hu
        exact k _ w2 lw R2 (k1.trans k2) (.int n)
      unfold getD2 at e5
      cases hg : getS kv x with
      | some m =>
        rw [hg] at e5
        cases e5
        exact fin _ rfl
      | none =>
        rw [hg] at e5
        cases z with
        | int m =>
          cases e5
          exact fin _ (vd_int (R2.view q2 e4))
        | _ => cases e5
    | _ => cases e
end
section
variable {X : Cx} {c : Cfg X.K} {pos apos cpos p px : Pos} {x : Str} {e a b f : Expr} {me ma mb mf mj : M} {i : Nat}
theorem she_app (hx : PE X (.Name x px) (tVar i)) (he : PE X e (liftE c me)) (h : PE X (.Call (.Attribute (.Name x px) "append" apos) [e] [] cpos) (tBM X.K "list" rAppend (tVar i) (tCons (liftE c (mFz me)) tNil))) : PE X (.Call (.Attribute (.Name x px) "append" apos) [e] [] cpos) (liftE c (mApp i me)) := h.imp fun _ _ _ q => lift_app q
theorem she_rep (ha : PE X a (liftE c ma)) (hb : PE X b (liftE c mb)) : PE X (.BinOp a .Mult b pos) (liftE c (mRep ma mb)) := (pe_op op_rep ha hb).imp fun _ _ _ h => lift_rep h
theorem she_cat (ha : PE X a (liftE c ma)) (hb : PE X b (liftE c mb)) : PE X (.BinOp a .Add b pos) (liftE c (mCat ma mb)) := (pe_op op_cat ha hb).imp fun _ _ _ h => lift_cat h
theorem shs_setI (ho : PE X a (tVar i)) (hj : PE X b (liftE c mj)) (he : PE X e (liftE c me)) (h : PS X (.Assign [.Subscript a b p] e pos) (tAsg (liftE c (mFz me)) (gSub (tVar i) (liftE c mj) rSetL))) : PS X (.Assign [.Subscript a b p] e pos) (liftS c (mSetI i mj me)) := h.imp fun _ _ _ q => lift_setI q
end
end Sh

set_option Elab.async false
set_option linter.all false
set_option maxRecDepth 100000
set_option maxHeartbeats 1000000
/-! Sh9: sums of any kind, what is walked of any kind, the ends. -/
namespace Sh
open PySem L2
section
variable {K : PySem.W.Frag} {c : Cfg K}
/-- ints, texts, tuples -/
def fAdd (d e : D) : Option Res := match d, e with
  | .int i, .int j => some (.d (.int (i + j)))
  | .str x, .str y => if x.length + y.length ≤ 100000 then some (.d (.str (x ++ y))) else none
  | .tuple xs, .tuple ys => if xs.length + ys.length ≤ 100000 then some (.d (.tuple (xs ++ ys))) else none
  | _, _ => none
def rAddU (K : PySem.W.Frag) : R2 := fun x y H Q => (∃ i j, x = .int i ∧ y = .int j ∧ Q (.int (i + j)) H) ∨ ((∃ i j, x = .str i ∧ y = .str j ∧ i.length + j.length ≤ sizeLine ∧ Q (.str (i ++ j)) H) ∨ rCatA K x y H Q)
theorem op_addU {X : Cx} : OpR X (binaryOp .Add) (rAddU X.K) := OpR.or op_add (OpR.or op_add_str op_catA)
theorem sem_add : Sem2 K (rAddU K) fAdd := fun w x y d e res sb vx vy q Q k => by
  unfold fAdd at q
  split at q
  · cases q
    exact .inl ⟨_, _, vd_int vx, vd_int vy, k.val sb (.int _)⟩
  · split at q
    · rename_i hz
      cases q
      exact .inr (.inl ⟨_, _, vd_str vx, vd_str vy, Evl.sz_of hz, k.val sb (.str _)⟩)
    · cases q
  · split at q
    · rename_i hz
      cases q
      obtain ⟨a, xs, rfl, h1, h2⟩ := vd_tup vx
      obtain ⟨b, ys, rfl, h3, h4⟩ := vd_tup vy
      have hd := dpa_app h2 h4
      refine .inr (.inr ⟨a, b, xs, ys, rfl, rfl, sqT_mono sb h1, sqT_mono sb h3, Evl.sz_of (by rw [dpa_len h2, dpa_len h4]; exact hz), fun e1 => ?_, fun _ e1 => ?_, fun _ _ p hp => k.tup sb hd hp⟩)
      · subst e1
        exact k.val sb (.tup h3 hd)
      · subst e1
        rw [List.append_nil] at hd
        exact k.val sb (.tup h1 hd)
    · cases q
  · cases q
/-! ### walks of a list or a tuple -/
def iSeq (K : PySem.W.Frag) (tl : TE) : TI := fun σ H R => iList K tl σ H R ∨ iTup K tl σ H R
theorem pi_seq {X : Cx} {tg l : Expr} {tl : TE} (hl : PE X l tl) : PI X tg l (iSeq X.K tl) := ⟨fun pins s σ H R I h => by
  rcases h with h | h
  · exact (pi_list hl).run pins s σ H R I h
  · exact (pi_tup hl).run pins s σ H R I h⟩
theorem lift_forS {ml : M} {g : TG} {t : Tgt} {mb : MS} {D' : Ends} {σ : St} {H : Hp} (hg : TgtOk c g t) (h : liftS c (mFor seqD ml t mb) D' σ H) : tFor (iSeq K (liftE c (mFz ml))) g (liftS c mb) D' σ H := by
  obtain ⟨w, s, rfl, R, out, e, k⟩ := h
  obtain ⟨⟨o1, s1⟩, e1, e⟩ := bnd e
  obtain ⟨d, e2, e⟩ := bnd e
  obtain ⟨ds, e3, e⟩ := bnd e
  have back : ∀ sel : D → Option (List D), sel d = some ds → liftS c (mFor sel ml t mb) D' σ w.H := fun sel hs => ⟨w, s, rfl, R, out, by
    show ((mFz ml s).bind fun p => (cD p.2 p.1).bind fun d => (sel d).bind fun ds => loopF t mb ds p.2) = some out
    rw [e1]
    show ((cD s1 o1).bind fun d => (sel d).bind fun ds => loopF t mb ds s1) = some out
    rw [show cD s1 o1 = some d from e2]
    show ((sel d).bind fun ds => loopF t mb ds s1) = some out
    rw [hs]
    exact e, k⟩
  cases d with
  | list _ =>
    cases e3
    exact .inl (lift_forL hg (back selL rfl))
  | tuple _ =>
    cases e3
    exact .inr (lift_forT hg (back selT rfl))
  | _ => cases e3
theorem lift_lcS {ml : M} {g : TG} {t : Tgt} {ts vs : List Nat} {mt : MT} {me : M} {σ : St} {H : Hp} {Q : VK} (hg : TgtC c g t ts) (hts : ∀ i ∈ ts, i ∈ vs) (h : liftE c (mLc seqD ml t mt me vs) σ H Q) : tLc (iSeq K (liftE c (mFz ml))) g (liftT c mt) (liftE c (mFz me)) vs σ H Q := by
  obtain ⟨w, s, rfl, R, o, s', e, k⟩ := h
  obtain ⟨⟨o1, s1⟩, e1, e⟩ := bnd e
  obtain ⟨d, e2, e⟩ := bnd e
  obtain ⟨ds, e3, e⟩ := bnd e
  have back : ∀ sel : D → Option (List D), sel d = some ds → liftE c (mLc sel ml t mt me vs) σ w.H Q := fun sel hs => ⟨w, s, rfl, R, o, s', by
    show ((mFz ml s).bind fun p => (cD p.2 p.1).bind fun d => (sel d).bind fun ds => (unw vs p.2).bind fun s2 => (loopC t mt me vs ds s2).bind fun z => endC vs p.2 z) = some (o, s')
    rw [e1]
    show ((cD s1 o1).bind fun d => (sel d).bind fun ds => (unw vs s1).bind fun s2 => (loopC t mt me vs ds s2).bind fun z => endC vs s1 z) = some (o, s')
    rw [show cD s1 o1 = some d from e2]
    show ((sel d).bind fun ds => (unw vs s1).bind fun s2 => (loopC t mt me vs ds s2).bind fun z => endC vs s1 z) = some (o, s')
    rw [hs]
    exact e, k⟩
  cases d with
  | list _ =>
    cases e3
    exact .inl (lift_lcL hg hts (back selL rfl))
  | tuple _ =>
    cases e3
    exact .inr (lift_lcT hg hts (back selT rfl))
  | _ => cases e3
/-- a law's own def, at its script -/
def spLaw (K : PySem.W.Frag) : Sp := fun vs H Q _ => ∃ (a : Addr) (ns : List Int), vs = [.ref a] ∧ SqL K H a (ns.map V.int) ∧ ns.length ≤ 63 ∧ ∀ H', Q (.bl true) H'
theorem law_end {f : SemF} (h : ∀ ns : List Int, ns.length ≤ 63 → ∃ ss', f [.fz (.list (ns.map PyData.int))] = some (.v (.bool true), ss')) : ∀ vs H Q E, spLaw K vs H Q E → spF c 1 f vs H Q E := fun vs H Q E q => by
  obtain ⟨a, ns, rfl, hS, hl, q⟩ := q
  obtain ⟨ss', e⟩ := h ns hl
  refine ⟨rfl, ⟨H, H, fun _ => []⟩, [.fz (.list (ns.map PyData.int))], rfl, ⟨rfl, fun _ _ h => h, (fun _ _ h => nomatch h), fun i d hi => ?_, fun i p k hi => ?_, (fun _ _ _ h => nomatch h), fun _ _ => rfl⟩, _, ss', e, (fun i z => nomatch z), fun v w' l R' ho => ?_⟩
  · cases i with
    | zero =>
      cases hi
      exact ⟨.ref a, rfl, .lst hS (dpAll_of_ints ns)⟩
    | succ i => cases hi
  · cases i with
    | zero => cases hi
    | succ i => cases hi
  · have z : Dp K w'.F v (.bool true) := ho
    cases z
    exact q _
def noCfg (K : PySem.W.Frag) : Cfg K := ⟨fun _ _ _ _ _ => False, fun h _ _ => h.elim⟩
end
end Sh

set_option Elab.async false
set_option linter.all false
set_option maxRecDepth 100000
/-! Sh10: the built-ins' names. -/
namespace Sh
open PySem L2
theorem bb_len : bootBuiltins "len" = some (.builtin "len") := by decide +kernel
theorem bb_isinstance : bootBuiltins "isinstance" = some (.builtin "isinstance") := by decide +kernel
theorem bb_sum : bootBuiltins "sum" = some (.builtin "sum") := by decide +kernel
theorem bb_min : bootBuiltins "min" = some (.builtin "min") := by decide +kernel
theorem bb_max : bootBuiltins "max" = some (.builtin "max") := by decide +kernel
theorem bb_sorted : bootBuiltins "sorted" = some (.builtin "sorted") := by decide +kernel
theorem bb_int : bootBuiltins "int" = some (.type "int") := by decide +kernel
theorem bb_bool : bootBuiltins "bool" = some (.type "bool") := by decide +kernel
theorem bb_list : bootBuiltins "list" = some (.type "list") := by decide +kernel
theorem bb_tuple : bootBuiltins "tuple" = some (.type "tuple") := by decide +kernel
theorem bb_str : bootBuiltins "str" = some (.type "str") := by decide +kernel
theorem bb_dict : bootBuiltins "dict" = some (.type "dict") := by decide +kernel
section
variable {X : Cx} {c : Cfg X.K} {pos : Pos} {a b : Expr} {ma mb : M}
theorem sht_cmp {op : CmpOp} {r : R2} {f : D → D → Option Res} (ho : OpR X (compareOp op) r) (hs : Sem2 X.K r f) (ha : PE X a (liftE c ma)) (hb : PE X b (liftE c mb)) (hm : behindInMarks op b = false) : PT X (.Compare a [op] [b] pos) (liftT c (mTst (mBin f ma mb))) :=
  (pt_cmpR ho ha hb hm).imp fun _ _ _ q => lift_bin hs (lift_tst q)
end
end Sh

set_option Elab.async false
set_option linter.all false
set_option maxRecDepth 100000
set_option maxHeartbeats 1000000
/-! Sh11: a local name that holds one of several defs. -/
namespace Sh
open PySem L2
section
variable {K : PySem.W.Frag} {c : Cfg K} {w w' : W} {σ : St} {s s' : List Slot}
/-- what a slot without a word holds does not matter -/
theorem Rel.setU (R : Rel c w σ s) {i : Nat} {x : Option V} (h : s[i]? = some .un) : Rel c w (σ.set i x) s := by
  have ne : ∀ (j : Nat) (y : Slot), s[j]? = some y → y ≠ .un → i ≠ j := fun j y hj hy z => by
    subst z
    rw [h] at hj
    cases hj
    exact hy rfl
  refine ⟨by rw [List.length_set]; exact R.len, R.sub, R.out, fun j d hj => ?_, fun j p k hj => ?_, R.dis, R.non⟩
  · obtain ⟨v, h1, h2⟩ := R.fz j d hj
    exact ⟨v, by rw [List.getElem?_set_ne (ne j _ hj fun z => nomatch z)]; exact h1, h2⟩
  · obtain ⟨v, h1, h2⟩ := R.ow j p k hj
    exact ⟨v, by rw [List.getElem?_set_ne (ne j _ hj fun z => nomatch z)]; exact h1, h2⟩
end
/-- a def under a word of a written table -/
structure Wk (P : Program) (w : World) (K : PySem.W.Frag) (mg : Str → Option Value) (base : Heap) (c : Cfg K) (k : Nat) (WK : Addr) (x : Str) (f : SemF) : Prop where
  ex : ∃ (fa : Addr), Held P w K mg base k fa (spF c 1 f) ∧ KDct K w WK x (.ref fa)
def tCallR (i : Nat) (S : Addr → Sp → Prop) (t : TA) : TE := fun σ H Q => ∃ f sp, σ[i]? = some (some (.ref f)) ∧ S f sp ∧ t σ H fun vs H1 => sp (vs ++ []) H1 Q fun _ _ _ => False
section
variable {X : Cx} {c : Cfg X.K} {k i : Nat} {x : Str} {p pos : Pos} {e : Expr} {t : TA}
theorem pe_callR {S : Addr → Sp → Prop} (A : ∀ f sp, S f sp → Held X.prog X.w X.K X.mg X.base k f sp) (hr : Room k X.A) (hN : X.N[i]? = some x) (hv : Vis X.env.scope x) (ha : PA X [e] t)
    (hdb : (x == ("__debug__" : Str)) = false := by decide) (hcd : (x == ("__classdict__" : Str)) = false := by decide) (he : starEach [e] X.env = (false, eval e X.env) :: starEach [] X.env := by rfl) (hpl : (backTo pos (starEach [] X.env)).any (·.1) = false := by rfl) :
    PE X (.Call (.Name x p) [e] [] pos) (tCallR i S t) := ⟨fun pins s σ H Q I h => by
  obtain ⟨f, sp, h1, h2, h3⟩ := h
  obtain ⟨fd, ps, F, hk, hb⟩ := (A f sp h2).ex
  exact (pe_callL F hr hN hv hk hb .nil pass0 ha hdb hcd he hpl).run pins s σ H Q I ⟨h1, h3⟩⟩
def isUn : Option Slot → Bool
  | some .un => true
  | _ => false
/-- work = TABLE[e]; return work(x) -/
def mWork (j i : Nat) (fw : Str → Option SemF) (me : M) : MS := fun s => (me s).bind fun p => (cD p.2 p.1).bind fun d => match d with
  | .str x => (fw x).bind fun f => if isUn p.2[j]? = true then (mCallF f (mACons (mVar i) mANil) p.2).bind fun r => some (.rt r.1 r.2) else none
  | _ => none
theorem lift_work {K : PySem.W.Frag} {c : Cfg K} {P : Program} {w0 : World} {mg : Str → Option Value} {base : Heap} {WK : Addr} {j i : Nat} {fw : Str → Option SemF} {me : M} {D' : Ends} {σ : St} {H : Hp} (hw : ∀ x f, fw x = some f → Wk P w0 K mg base c k WK x f)
    (h : liftS c (mWork j i fw me) D' σ H) : tSeq (tAsg (tOp (rIxD K w0) (tC (.ref WK)) (liftE c me)) (gName j)) (tRet (tCallR j (fun f sp => Held P w0 K mg base k f sp) (liftA c (mACons (mVar i) mANil)))) D' σ H := by
  obtain ⟨w, s, rfl, R, out, e, kk⟩ := h
  obtain ⟨⟨o1, s1⟩, e1, e⟩ := bnd e
  obtain ⟨d, e2, e⟩ := bnd e
  cases d with
  | str x =>
    obtain ⟨f, e3, e⟩ := bnd (x := fw x) e
    split at e
    · rename_i hu
      obtain ⟨⟨o, s2⟩, e4, e⟩ := bnd e
      cases e
      refine ⟨w, s, rfl, R, o1, s1, e1, fun v1 w1 l1 R1 k1 q1 => ?_⟩
      have ev : v1 = .str x := vd_str (R1.view q1 e2)
      obtain ⟨fa, hH, hD⟩ := (hw x f e3).ex
      refine ⟨WK, x, .ref fa, rfl, ev, hD, ?_⟩
      have hun : s1[j]? = some .un := by
        unfold isUn at hu
        split at hu
        · assumption
        · cases hu
      have hl : j < σ.length := by
        rw [R1.len]
        exact (List.getElem?_eq_some_iff.mp hun).1
      have R1' : Rel c w1 (σ.set j (some (.ref fa))) s1 := R1.setU hun
      refine ⟨fa, spF c 1 f, List.getElem?_set_self hl, hH, ?_⟩
      refine lift_callF (f := f) (ma := mACons (mVar i) mANil) (len_cons len_nil) ⟨w1, s1, rfl, R1', o, s2, e4, fun v w2 l2 R2 k2 q2 => ?_⟩
      refine kk v _ w2 (l1.trans l2) R2 (fun n kc hn => ?_) (q2.back l1)
      obtain ⟨kc', h2⟩ := k2 n kc hn
      obtain ⟨kc2, h3⟩ := k1 n kc' h2
      refine ⟨?_, kc2, h3⟩
      refine List.getElem?_set_ne fun z => ?_
      subst z
      rw [hun] at h2
      cases h2
    · cases e
  | _ => cases e
end
end Sh

set_option Elab.async false
set_option linter.all false
set_option maxRecDepth 100000
set_option maxHeartbeats 4000000
namespace K01
open PySem L2 Sh
def topS (i : Nat) : Stmt := PySem.Challenge.pw_readyfire_k01_rules.main.body.getD i (.Pass ⟨0, 0, 0, 0⟩)
theorem hint_fLe : ∀ d e r, fLe d e = some r → ∃ i j, d = PyData.int i ∧ e = PyData.int j := fun d e r h => by
  cases d <;> cases e <;> first | exact ⟨_, _, rfl, rfl⟩ | cases h
/-- what a slot holds -/
def sL : Slot → Option (List D)
  | .fz (.list ds) => some ds
  | _ => none
def sInts (x : Slot) : Option (List Int) := (sL x).bind intsD
def vInt (i : Int) : Op := .v (.int i)
def vBool (b : Bool) : Op := .v (.bool b)
theorem sL_eq {x : Slot} {ds : List D} (h : sL x = some ds) : x = .fz (.list ds) := by
  unfold sL at h
  split at h
  · cases h
    rfl
  · cases h
theorem sInts_eq {x : Slot} {ns : List Int} (h : sInts x = some ns) : x = .fz (.list (ns.map PyData.int)) := by
  obtain ⟨ds, e1, e2⟩ := bnd h
  rw [intsD_eq e2] at e1
  exact sL_eq e1
def timesL (ns : List Int) : Int := ns.foldl (fun p v => p * v % 1000000) 1
def wayV (ds : List D) : Option (List D) := (ds[0]?).bind fun a => (ds[1]?).bind fun b => match b with
  | .int j => some (if j = 0 then [a, .none] else [.none, a])
  | _ => none
def choV (ds : List D) : Option D := (ds[0]?).bind fun a => match a with
  | .int j => if j = 0 then ds[1]? else ds[2]?
  | _ => none
/-- the value of a rule that gives all places the same -/
def ruleV (rule ds : List D) : Option D := match rule with
  | [.str w, d] => if w = "fixed" then some d else none
  | [.str w] => if w = "sum" then (intsD ds).bind fun ns => some (.int (ns.sum % 1000000)) else if w = "times" then (intsD ds).bind fun ns => some (.int (timesL ns)) else
      if w = "least" then (intsD ds).bind fun ns => (leastL ns).bind fun m => some (.int m) else if w = "most" then (intsD ds).bind fun ns => (mostL ns).bind fun m => some (.int m) else
      if w = "later" then ds[0]? else if w = "choose" then choV ds else none
  | _ => none
def isWay : List D → Bool
  | [.str w] => decide (w = "way")
  | _ => false
def outV (rule ds : List D) (many : Int) : Option (List D) := if isWay rule = true then wayV ds else (ruleV rule ds).bind fun d => if 0 ≤ many ∧ many ≤ 1000 then some (List.replicate many.toNat d) else none
abbrev s_is_whole : Stmt := topS 2
theorem sc_is_whole : FnScope ["thing"] ["thing"] (defScope s_is_whole) := ⟨rfl, rfl, rfl, by decide +kernel, rfl, by decide +kernel, by decide +kernel⟩
def m_is_whole : MS :=
  (mRet (mAndV (mUn (fIsi "int") (mVar 0)) (mNotV (mUn (fIsi "bool") (mVar 0)))))

def isWh : D → Bool
  | .int _ => true
  | _ => false
def f_is_whole : SemF := fun ss => match ss with
  | [.fz d] => some (vBool (isWh d), ss)
  | _ => none
theorem e_is_whole : ∀ ss r, f_is_whole ss = some r → bodyF 1 m_is_whole ss = some r := fun ss r h => by
  unfold f_is_whole at h
  split at h
  · rename_i d
    cases h
    cases d <;> rfl
  · cases h
abbrev s_is_value : Stmt := topS 3
theorem sc_is_value : FnScope ["thing"] ["thing"] (defScope s_is_value) := ⟨rfl, rfl, rfl, by decide +kernel, rfl, by decide +kernel, by decide +kernel⟩
def m_is_value : MS :=
  (mRet (mAndV (mCallF f_is_whole (mACons (mFz (mVar 0)) mANil)) (mChain fLe fLt (mC (.int 0)) (mVar 0) (mC (.int 1000000)))))

def isVal : D → Bool
  | .int i => decide (0 ≤ i) && decide (i < 1000000)
  | _ => false
def f_is_value : SemF := fun ss => match ss with
  | [.fz d] => some (vBool (isVal d), ss)
  | _ => none
theorem e_is_value : ∀ ss r, f_is_value ss = some r → bodyF 1 m_is_value ss = some r := fun ss r h => by
  unfold f_is_value at h
  split at h
  · rename_i d
    cases h
    cases d with
    | int i =>
      by_cases h : 0 ≤ i
      · simp [bodyF, m_is_value, mRet, mAndV, mCallF, mACons, mANil, mFz, mVar, cD, frz1, pass, dst, f_is_whole, isWh, shp, Op.isSl, vBool, bD, wb, mChain, mC, fLe, fLt, fI0, h, isVal, conv, outs, Res.op]
      · simp [bodyF, m_is_value, mRet, mAndV, mCallF, mACons, mANil, mFz, mVar, cD, frz1, pass, dst, f_is_whole, isWh, shp, Op.isSl, vBool, bD, wb, mChain, mC, fLe, fLt, fI0, h, isVal, conv, outs, Res.op]
    | _ => rfl
  · cases h
abbrev s_last_figures : Stmt := topS 4
theorem sc_last_figures : FnScope ["number"] ["number"] (defScope s_last_figures) := ⟨rfl, rfl, rfl, by decide +kernel, rfl, by decide +kernel, by decide +kernel⟩
def m_last_figures : MS :=
  (mRet (mBin fMod (mVar 0) (mC (.int 1000000))))

def f_last_figures : SemF := fun ss => match ss with
  | [.fz (.int i)] => some (vInt (i % 1000000), ss)
  | _ => none
theorem e_last_figures : ∀ ss r, f_last_figures ss = some r → bodyF 1 m_last_figures ss = some r := fun ss r h => by
  unfold f_last_figures at h
  split at h
  · cases h
    rfl
  · cases h
abbrev s_sum_of : Stmt := topS 5
theorem sc_sum_of : FnScope ["values"] ["values"] (defScope s_sum_of) := ⟨rfl, rfl, rfl, by decide +kernel, rfl, by decide +kernel, by decide +kernel⟩
def m_sum_of : MS :=
  (mRet (mCallF f_last_figures (mACons (mFz (mCall (f1 fSum) (mACons (mVar 0) mANil))) mANil)))

def f_sum_of : SemF := fun ss => match ss with
  | [x] => (sInts x).bind fun ns => some (vInt (ns.sum % 1000000), ss)
  | _ => none
theorem e_sum_of : ∀ ss r, f_sum_of ss = some r → bodyF 1 m_sum_of ss = some r := fun ss r h => by
  unfold f_sum_of at h
  split at h
  · obtain ⟨ns, e1, e⟩ := bnd h
    cases e
    rw [sInts_eq e1]
    simp [bodyF, m_sum_of, mRet, mCallF, mACons, mANil, mFz, mCall, mVar, cDs, cD, f1, fSum, fInts, intsD_map, Res.op, frz1, pass, dst, f_last_figures, shp, Op.isSl, vInt, conv, outs, wb, jOf, wb1]
  · cases h
abbrev s_product_of : Stmt := topS 6
theorem sc_product_of : FnScope ["values", "product", "value"] ["values"] (defScope s_product_of) := ⟨rfl, rfl, rfl, by decide +kernel, rfl, by decide +kernel, by decide +kernel⟩
def m_product_of : MS :=
  (mSeq (mAsg (mC (.int 1)) 1)
  (mSeq (mFor seqD (mVar 0) (tName 2) (mAsg (mCallF f_last_figures (mACons (mFz (mBin fMulI (mVar 1) (mVar 2))) mANil)) 1))
  (mRet (mVar 1))))

def f_product_of : SemF := fun ss => match ss with
  | [x] => (sInts x).bind fun ns => some (vInt (timesL ns), ss)
  | _ => none
theorem loopF_cons {t : Tgt} {m : MS} {d : D} {r : List D} {s s1 s2 : List Slot} (h1 : t d s = some s1) (h2 : m s1 = some (.nx s2)) : loopF t m (d :: r) s = loopF t m r s2 := by
  show (t d s).bind _ = _
  rw [h1]
  show (m s1).bind _ = _
  rw [h2]
  rfl
theorem times_loop (x : D) : ∀ (ns : List Int) (p : Int) (v : Slot), 0 ≤ p → p < 1000000 → (v = .un ∨ ∃ d, v = .fz d) → ∃ v', loopF (tName 2) (mAsg (mCallF f_last_figures (mACons (mFz (mBin fMulI (mVar 1) (mVar 2))) mANil)) 1) (ns.map PyData.int) [.fz x, .fz (.int p), v] = some (.nx [.fz x, .fz (.int (ns.foldl (fun p v => p * v % 1000000) p)), v'])
  | [], p, v, _, _, _ => ⟨v, rfl⟩
  | n :: ns, p, v, h0, h1, hv => by
    have hm : CMul p n := .inl ⟨by omega, by omega⟩
    obtain ⟨v', ih⟩ := times_loop x ns (p * n % 1000000) (.fz (.int n)) (Int.emod_nonneg _ (by decide)) (Int.emod_lt_of_pos _ (by decide)) (.inr ⟨_, rfl⟩)
    refine ⟨v', ?_⟩
    rw [List.map_cons, List.foldl_cons]
    refine (loopF_cons (s1 := [.fz x, .fz (.int p), .fz (.int n)]) (s2 := [.fz x, .fz (.int (p * n % 1000000)), .fz (.int n)]) ?_ ?_).trans ih
    · rcases hv with rfl | ⟨d, rfl⟩ <;> rfl
    · simp [put, put1, mAsg, mCallF, mACons, mANil, mFz, mBin, mVar, cD, fMulI, fI, hm, Res.op, frz1, pass, dst, f_last_figures, shp, Op.isSl, vInt, wb, can]
theorem e_product_of : ∀ ss r, f_product_of ss = some r → bodyF 3 m_product_of ss = some r := fun ss r h => by
  unfold f_product_of at h
  split at h
  · obtain ⟨ns, e1, e⟩ := bnd h
    cases e
    rw [sInts_eq e1]
    obtain ⟨v', hl⟩ := times_loop (.list (ns.map PyData.int)) ns 1 .un (by decide) (by decide) (.inl rfl)
    simp [bodyF, m_product_of, mSeq, mAsg, mC, put, can, put1, List.replicate, mFor, mFz, mVar, frz1, cD, seqD, hl, mRet, conv, outs, vInt, timesL]
  · cases h
abbrev s_least_of : Stmt := topS 7
theorem sc_least_of : FnScope ["values"] ["values"] (defScope s_least_of) := ⟨rfl, rfl, rfl, by decide +kernel, rfl, by decide +kernel, by decide +kernel⟩
def m_least_of : MS :=
  (mRet (mCall (f1 fMin) (mACons (mVar 0) mANil)))

def f_least_of : SemF := fun ss => match ss with
  | [x] => (sInts x).bind fun ns => (leastL ns).bind fun m => some (vInt m, ss)
  | _ => none
theorem e_least_of : ∀ ss r, f_least_of ss = some r → bodyF 1 m_least_of ss = some r := fun ss r h => by
  unfold f_least_of at h
  split at h
  · obtain ⟨ns, e1, e⟩ := bnd h
    obtain ⟨m, e2, e⟩ := bnd e
    cases e
    rw [sInts_eq e1]
    simp [bodyF, m_least_of, mRet, mCall, mACons, mANil, mVar, cDs, cD, f1, fMin, fInts, intsD_map, e2, Res.op, conv, outs, vInt]
  · cases h
abbrev s_most_of : Stmt := topS 8
theorem sc_most_of : FnScope ["values"] ["values"] (defScope s_most_of) := ⟨rfl, rfl, rfl, by decide +kernel, rfl, by decide +kernel, by decide +kernel⟩
def m_most_of : MS :=
  (mRet (mCall (f1 fMax) (mACons (mVar 0) mANil)))

def f_most_of : SemF := fun ss => match ss with
  | [x] => (sInts x).bind fun ns => (mostL ns).bind fun m => some (vInt m, ss)
  | _ => none
theorem e_most_of : ∀ ss r, f_most_of ss = some r → bodyF 1 m_most_of ss = some r := fun ss r h => by
  unfold f_most_of at h
  split at h
  · obtain ⟨ns, e1, e⟩ := bnd h
    obtain ⟨m, e2, e⟩ := bnd e
    cases e
    rw [sInts_eq e1]
    simp [bodyF, m_most_of, mRet, mCall, mACons, mANil, mVar, cDs, cD, f1, fMax, fInts, intsD_map, e2, Res.op, conv, outs, vInt]
  · cases h
abbrev s_first_of : Stmt := topS 9
theorem sc_first_of : FnScope ["values"] ["values"] (defScope s_first_of) := ⟨rfl, rfl, rfl, by decide +kernel, rfl, by decide +kernel, by decide +kernel⟩
def m_first_of : MS :=
  (mRet (mBin fIx (mVar 0) (mC (.int 0))))

def f_first_of : SemF := fun ss => match ss with
  | [x] => (sL x).bind fun ds => (ds[0]?).bind fun d => some (.v d, ss)
  | _ => none
theorem at0 {α : Type} {ds : List α} {d : α} (h : ds[0]? = some d) : atI ds 0 = some d := atI_nat (j := 0) h
theorem at1 {α : Type} {ds : List α} {d : α} (h : ds[1]? = some d) : atI ds 1 = some d := atI_nat (j := 1) h
theorem at2 {α : Type} {ds : List α} {d : α} (h : ds[2]? = some d) : atI ds 2 = some d := atI_nat (j := 2) h
theorem e_first_of : ∀ ss r, f_first_of ss = some r → bodyF 1 m_first_of ss = some r := fun ss r h => by
  unfold f_first_of at h
  split at h
  · obtain ⟨ds, e1, e⟩ := bnd h
    obtain ⟨d, e2, e⟩ := bnd e
    cases e
    rw [sL_eq e1]
    simp [bodyF, m_first_of, mRet, mBin, mVar, mC, cD, fIx, at0 e2, Res.op, conv, outs]
  · cases h
abbrev s_chosen_at : Stmt := topS 10
theorem sc_chosen_at : FnScope ["first"] ["first"] (defScope s_chosen_at) := ⟨rfl, rfl, rfl, by decide +kernel, rfl, by decide +kernel, by decide +kernel⟩
def m_chosen_at : MS :=
  (mRet (mIfE (mTst (mBin fEq (mVar 0) (mC (.int 0)))) (mC (.int 1)) (mC (.int 2))))

def f_chosen_at : SemF := fun ss => match ss with
  | [.fz (.int j)] => some (vInt (if j = 0 then 1 else 2), ss)
  | _ => none
theorem e_chosen_at : ∀ ss r, f_chosen_at ss = some r → bodyF 1 m_chosen_at ss = some r := fun ss r h => by
  unfold f_chosen_at at h
  split at h
  · rename_i j
    cases h
    by_cases hj : j = 0
    · subst hj
      rfl
    · simp [bodyF, m_chosen_at, mRet, mIfE, mTst, mBin, mVar, mC, cD, fEq, hj, Res.op, conv, outs, vInt]
  · cases h
abbrev s_chosen_of : Stmt := topS 11
theorem sc_chosen_of : FnScope ["values"] ["values"] (defScope s_chosen_of) := ⟨rfl, rfl, rfl, by decide +kernel, rfl, by decide +kernel, by decide +kernel⟩
def m_chosen_of : MS :=
  (mRet (mBin fIx (mVar 0) (mCallF f_chosen_at (mACons (mFz (mBin fIx (mVar 0) (mC (.int 0)))) mANil))))

def f_chosen_of : SemF := fun ss => match ss with
  | [x] => (sL x).bind fun ds => (choV ds).bind fun d => some (.v d, ss)
  | _ => none
theorem e_chosen_of : ∀ ss r, f_chosen_of ss = some r → bodyF 1 m_chosen_of ss = some r := fun ss r h => by
  unfold f_chosen_of at h
  split at h
  · obtain ⟨ds, e1, e⟩ := bnd h
    obtain ⟨d, e2, e⟩ := bnd e
    cases e
    rw [sL_eq e1]
    obtain ⟨a, e3, e4⟩ := bnd e2
    cases a with
    | int j =>
      have e4 : (if j = 0 then ds[1]? else ds[2]?) = some d := e4
      by_cases hj : j = 0
      · rw [if_pos hj] at e4
        simp [bodyF, m_chosen_of, mRet, mBin, mCallF, mACons, mANil, mFz, mVar, mC, cD, frz1, pass, dst, shp, Op.isSl, wb, f_chosen_at, fIx, at0 e3, at1 e4, hj, Res.op, conv, outs, vInt]
      · rw [if_neg hj] at e4
        simp [bodyF, m_chosen_of, mRet, mBin, mCallF, mACons, mANil, mFz, mVar, mC, cD, frz1, pass, dst, shp, Op.isSl, wb, f_chosen_at, fIx, at0 e3, at2 e4, hj, Res.op, conv, outs, vInt]
    | _ => cases e4
  · cases h
abbrev s_way_of : Stmt := topS 14
theorem sc_way_of : FnScope ["values"] ["values"] (defScope s_way_of) := ⟨rfl, rfl, rfl, by decide +kernel, rfl, by decide +kernel, by decide +kernel⟩
def m_way_of : MS :=
  (mSeq (mIf (mTst (mBin fEq (mBin fIx (mVar 0) (mC (.int 1))) (mC (.int 0)))) (mRet (mLst (mACons (mFz (mBin fIx (mVar 0) (mC (.int 0)))) (mACons (mFz (mC .none)) mANil)))) mNext)
  (mRet (mLst (mACons (mFz (mC .none)) (mACons (mFz (mBin fIx (mVar 0) (mC (.int 0)))) mANil)))))

def f_way_of : SemF := fun ss => match ss with
  | [x] => (sL x).bind fun ds => (wayV ds).bind fun es => some (.nw (.lst es), ss)
  | _ => none
theorem e_way_of : ∀ ss r, f_way_of ss = some r → bodyF 1 m_way_of ss = some r := fun ss r h => by
  unfold f_way_of at h
  split at h
  · obtain ⟨ds, e1, e⟩ := bnd h
    obtain ⟨es, e2, e⟩ := bnd e
    cases e
    rw [sL_eq e1]
    obtain ⟨a, e3, e4⟩ := bnd e2
    obtain ⟨b, e5, e6⟩ := bnd e4
    cases b with
    | int j =>
      have e6 : some (if j = 0 then [a, PyData.none] else [.none, a]) = some es := e6
      cases e6
      by_cases hj : j = 0
      · simp [bodyF, m_way_of, mSeq, mIf, mTst, mNext, mRet, mBin, mVar, mC, cD, fIx, at0 e3, at1 e5, fEq, hj, Res.op, conv, outs, mLst, mACons, mANil, mFz, frz1, opsD]
      · simp [bodyF, m_way_of, mSeq, mIf, mTst, mNext, mRet, mBin, mVar, mC, cD, fIx, at0 e3, at1 e5, fEq, hj, Res.op, conv, outs, mLst, mACons, mANil, mFz, frz1, opsD]
    | _ => cases e6
  · cases h
def f_same_for_all : SemF := fun ss => match ss with
  | [.fz (.tuple rule), x] => (sL x).bind fun ds => (ruleV rule ds).bind fun d => some (.v d, ss)
  | _ => none
def fWork (x : Str) : Option SemF := if x = "sum" then some f_sum_of else if x = "times" then some f_product_of else if x = "least" then some f_least_of else if x = "most" then some f_most_of else
  if x = "later" then some f_first_of else if x = "choose" then some f_chosen_of else none
def m_same_for_all : MS :=
  mSeq (mIf (mTst (mBin fEq (mBin fIx (mVar 0) (mC (.int 0))) (mC (.str "fixed")))) (mRet (mBin fIx (mVar 0) (mC (.int 1)))) mNext)
    (mWork 2 1 fWork (mBin fIx (mVar 0) (mC (.int 0))))
theorem e_same_for_all : ∀ ss r, f_same_for_all ss = some r → bodyF 3 m_same_for_all ss = some r := fun ss r h => by
  unfold f_same_for_all at h
  split at h
  · rename_i rule x
    obtain ⟨ds, e1, e⟩ := bnd h
    obtain ⟨d, e2, e⟩ := bnd e
    cases e
    rw [sL_eq e1]
    have hs : sL (.fz (.list ds)) = some ds := rfl
    have hi : ∀ ns, intsD ds = some ns → sInts (.fz (.list ds)) = some ns := fun ns q => q
    have go : ∀ (w : Str) (f : SemF), w ≠ "fixed" → fWork w = some f → f [.fz (.list ds)] = some (.v d, [.fz (.list ds)]) → bodyF 3 m_same_for_all [.fz (.tuple [.str w]), .fz (.list ds)] = some (.v d, [.fz (.tuple [.str w]), .fz (.list ds)]) := fun w f hw hf he => by
      simp [bodyF, m_same_for_all, mSeq, mIf, mTst, mNext, mRet, mBin, mVar, mC, cD, fIx, at0 (ds := [PyData.str w]) rfl, fEq, hw, Res.op, conv, outs, mWork, hf, isUn, mCallF, mACons, mANil, pass, dst, isOw, he, shp, Op.isSl, wb, List.replicate]
    unfold ruleV at e2
    split at e2
    · rename_i w d'
      split at e2
      · rename_i hw
        cases e2
        subst hw
        simp [bodyF, m_same_for_all, mSeq, mIf, mTst, mNext, mRet, mBin, mVar, mC, cD, fIx, at0 (ds := [PyData.str "fixed", d]) rfl, at1 (ds := [PyData.str "fixed", d]) rfl, fEq, Res.op, conv, outs, List.replicate]
      · cases e2
    · rename_i w
      split at e2
      · rename_i hw
        obtain ⟨ns, e3, e4⟩ := bnd e2
        cases e4
        subst hw
        exact go _ f_sum_of (by decide +kernel) (by rfl) (by unfold f_sum_of; simp [hi ns e3, vInt])
      split at e2
      · rename_i hw
        obtain ⟨ns, e3, e4⟩ := bnd e2
        cases e4
        subst hw
        exact go _ f_product_of (by decide +kernel) (by rfl) (by unfold f_product_of; simp [hi ns e3, vInt])
      split at e2
      · rename_i hw
        obtain ⟨ns, e3, e4⟩ := bnd e2
        obtain ⟨m, e5, e6⟩ := bnd e4
        cases e6
        subst hw
        exact go _ f_least_of (by decide +kernel) (by rfl) (by unfold f_least_of; simp [hi ns e3, e5, vInt])
      split at e2
      · rename_i hw
        obtain ⟨ns, e3, e4⟩ := bnd e2
        obtain ⟨m, e5, e6⟩ := bnd e4
        cases e6
        subst hw
        exact go _ f_most_of (by decide +kernel) (by rfl) (by unfold f_most_of; simp [hi ns e3, e5, vInt])
      split at e2
      · rename_i hw
        subst hw
        exact go _ f_first_of (by decide +kernel) (by rfl) (by unfold f_first_of; simp [hs, e2])
      split at e2
      · rename_i hw
        subst hw
        exact go _ f_chosen_of (by decide +kernel) (by rfl) (by unfold f_chosen_of; simp [hs, e2])
      · cases e2
    · cases e2
  · cases h
abbrev s_outcome : Stmt := topS 15
theorem sc_outcome : FnScope ["rule", "values", "many"] ["rule", "values", "many"] (defScope s_outcome) := ⟨rfl, rfl, rfl, by decide +kernel, rfl, by decide +kernel, by decide +kernel⟩
def m_outcome : MS :=
  (mSeq (mIf (mTst (mBin fEq (mBin fIx (mVar 0) (mC (.int 0))) (mC (.str "way")))) (mRet (mCallF f_way_of (mACons (mFz (mVar 1)) mANil))) mNext)
  (mRet (mRep (mLst (mACons (mFz (mCallF f_same_for_all (mACons (mFz (mVar 0)) (mACons (mFz (mVar 1)) mANil)))) mANil)) (mVar 2))))

def f_outcome : SemF := fun ss => match ss with
  | [.fz (.tuple rule), x, .fz (.int many)] => (sL x).bind fun ds => (outV rule ds many).bind fun es => some (.nw (.lst es), ss)
  | _ => none
theorem e_outcome : ∀ ss r, f_outcome ss = some r → bodyF 3 m_outcome ss = some r := fun ss r h => by
  unfold f_outcome at h
  split at h
  · rename_i rule x many
    obtain ⟨ds, e1, e⟩ := bnd h
    obtain ⟨es, e2, e⟩ := bnd e
    cases e
    rw [sL_eq e1]
    have hs : sL (.fz (.list ds)) = some ds := rfl
    unfold outV at e2
    split at e2
    · rename_i hw
      unfold isWay at hw
      split at hw
      · rename_i w
        have hw : w = "way" := of_decide_eq_true hw
        subst hw
        simp [bodyF, m_outcome, mSeq, mIf, mTst, mNext, mRet, mBin, mVar, mC, cD, fIx, at0 (ds := [PyData.str "way"]) rfl, fEq, Res.op, conv, outs, mCallF, mACons, mANil, mFz, frz1, pass, dst, f_way_of, hs, e2, shp, Op.isSl, wb]
      · cases hw
    · rename_i hw
      obtain ⟨d, e3, e4⟩ := bnd e2
      split at e4
      · rename_i hm
        cases e4
        have h0 : ∃ w r, rule = .str w :: r ∧ w ≠ "way" := by
          unfold ruleV at e3
          split at e3
          · rename_i w d'
            split at e3
            · rename_i q
              exact ⟨w, _, rfl, by rw [q]; decide +kernel⟩
            · cases e3
          · rename_i w
            refine ⟨w, _, rfl, fun q => hw ?_⟩
            rw [q]
            decide +kernel
          · cases e3
        obtain ⟨w, rr, rfl, hw'⟩ := h0
        have hb1 : -(2 ^ 63 : Int) ≤ many ∧ many < 2 ^ 63 ∧ 1 * many.toNat ≤ 100000 := ⟨by omega, by omega, by omega⟩
        have hfl : (List.replicate many.toNat [d]).flatten = List.replicate many.toNat d := by
          generalize many.toNat = n
          induction n with
          | zero => rfl
          | succ n ih => rw [List.replicate_succ, List.flatten_cons, ih]; rfl
        have hb3 : many ≤ 100000 := by omega
        have hb2 : -9223372036854775808 ≤ many ∧ many < 9223372036854775808 ∧ many.toNat ≤ 100000 := ⟨by omega, by omega, by omega⟩
        simp [bodyF, m_outcome, mSeq, mIf, mTst, mNext, mRet, mBin, mVar, mC, cD, fIx, at0 (ds := PyData.str w :: rr) rfl, fEq, hw', Res.op, conv, outs, mRep, mLst, opsD, mCallF, mACons, mANil, mFz, frz1, pass, dst, f_same_for_all, hs, e3, shp, Op.isSl, wb, cLn, cC, hb2, hb3, hfl]
      · cases e4
  · cases h
abbrev s_law_cell_at : Stmt := topS 17
theorem sc_law_cell_at : FnScope ["_law_script", "_law_k"] ["_law_script", "_law_k"] (defScope s_law_cell_at) := ⟨rfl, rfl, rfl, by decide +kernel, rfl, by decide +kernel, by decide +kernel⟩
def m_law_cell_at : MS :=
  (mSeq (mIf (mTst (mBin fLt (mVar 1) (mCall (f1 fLen) (mACons (mVar 0) mANil)))) (mRet (mBin fIx (mVar 0) (mVar 1))) mNext)
  (mRet (mC (.int 0))))

def lcell (ns : List Int) (k : Int) : Int := if k < ns.length then ns.getD k.toNat 0 else 0
def f_law_cell_at : SemF := fun ss => match ss with
  | [.fz (.list ds), .fz (.int k)] => (intsD ds).bind fun ns => if 0 ≤ k then some (vInt (lcell ns k), ss) else none
  | _ => none
theorem e_law_cell_at : ∀ ss r, f_law_cell_at ss = some r → bodyF 2 m_law_cell_at ss = some r := fun ss r h => by
  unfold f_law_cell_at at h
  split at h
  · rename_i ds k
    obtain ⟨ns, e1, e⟩ := bnd h
    split at e
    · rename_i hk
      cases e
      rw [intsD_eq e1]
      unfold lcell
      by_cases hl : k < ns.length
      · rw [if_pos hl]
        have ha : atI (ns.map PyData.int) k = some (.int (ns.getD k.toNat 0)) := by
          have h1 : k.toNat < ns.length := by omega
          have h2 : k = (k.toNat : Int) := by omega
          rw [h2]
          refine atI_nat ?_
          rw [List.getElem?_map, List.getElem?_eq_getElem h1, List.getD_eq_getElem?_getD, Int.toNat_natCast, List.getElem?_eq_getElem h1]
          rfl
        simp [bodyF, m_law_cell_at, mSeq, mIf, mTst, mNext, mRet, mBin, mCall, mACons, mANil, cDs, f1, fLen, mVar, mC, cD, fLt, fI0, hl, fIx, ha, Res.op, conv, outs, vInt]
      · rw [if_neg hl]
        simp [bodyF, m_law_cell_at, mSeq, mIf, mTst, mNext, mRet, mBin, mCall, mACons, mANil, cDs, f1, fLen, mVar, mC, cD, fLt, fI0, hl, fIx, Res.op, conv, outs, vInt]
    · cases e
  · cases h
abbrev s_law_value : Stmt := topS 19
theorem sc_law_value : FnScope ["_law_pick"] ["_law_pick"] (defScope s_law_value) := ⟨rfl, rfl, rfl, by decide +kernel, rfl, by decide +kernel, by decide +kernel⟩
def m_law_value : MS :=
  (mSeq (mIf (mTst (mBin fEq (mBin fMod (mVar 0) (mC (.int 4))) (mC (.int 0)))) (mRet (mBin fIx (mLst (mACons (mFz (mC (.int 0))) (mACons (mFz (mC (.int 0))) (mACons (mFz (mC (.int 1))) (mACons (mFz (mC (.int 999999))) mANil))))) (mBin fMod (mBin fDiv (mVar 0) (mC (.int 4))) (mC (.int 4))))) mNext)
  (mSeq (mIf (mTst (mBin fEq (mBin fMod (mVar 0) (mC (.int 4))) (mC (.int 1)))) (mRet (mBin fMod (mBin fDiv (mVar 0) (mC (.int 4))) (mBin fPow (mC (.int 10)) (mC (.int 6))))) mNext)
  (mRet (mBin fMod (mBin fDiv (mVar 0) (mC (.int 4))) (mC (.int 5))))))

def lval (p : Int) : Int := if p % 4 = 0 then [0, 0, 1, 999999].getD (p / 4 % 4).toNat 0 else if p % 4 = 1 then p / 4 % 1000000 else p / 4 % 5
def f_law_value : SemF := fun ss => match ss with
  | [.fz (.int p)] => some (vInt (lval p), ss)
  | _ => none
theorem e_law_value : ∀ ss r, f_law_value ss = some r → bodyF 1 m_law_value ss = some r := fun ss r h => by
  unfold f_law_value at h
  split at h
  · rename_i p
    cases h
    unfold lval
    by_cases h0 : p % 4 = 0
    · have hj : p / 4 % 4 = 0 ∨ p / 4 % 4 = 1 ∨ p / 4 % 4 = 2 ∨ p / 4 % 4 = 3 := by omega
      rcases hj with hj | hj | hj | hj <;> simp [bodyF, m_law_value, mSeq, mIf, mTst, mNext, mRet, mBin, mVar, mC, cD, fMod, fDiv, fI, fEq, h0, hj, Res.op, conv, outs, vInt, mLst, mACons, mANil, mFz, frz1, opsD, fIx, atI, ixN]
    · by_cases h1 : p % 4 = 1
      · simp [bodyF, m_law_value, mSeq, mIf, mTst, mNext, mRet, mBin, mVar, mC, cD, fMod, fDiv, fPow, fI, fEq, h1, Res.op, conv, outs, vInt]
      · simp [bodyF, m_law_value, mSeq, mIf, mTst, mNext, mRet, mBin, mVar, mC, cD, fMod, fDiv, fPow, fI, fEq, h0, h1, Res.op, conv, outs, vInt]
  · cases h

end K01

set_option Elab.async false
set_option linter.all false
set_option maxRecDepth 100000
set_option maxHeartbeats 4000000
namespace K01
open PySem L2 Sh
abbrev s_law_given : Stmt := topS 20
theorem sc_law_given : FnScope ["_law_rule", "_law_values", "_law_many", "_law_found", "_law_value_here", "_law_k"] ["_law_rule", "_law_values", "_law_many"] (defScope s_law_given) := ⟨rfl, rfl, rfl, by decide +kernel, rfl, by decide +kernel, by decide +kernel⟩
def m_law_given : MS :=
  (mSeq (mIf (mTst (mBin fEq (mBin fIx (mVar 0) (mC (.int 0))) (mC (.str "way")))) (mRet (mBin fIx (mLst (mACons (mFz (mLst (mACons (mFz (mBin fIx (mVar 1) (mC (.int 0)))) (mACons (mFz (mC .none)) mANil)))) (mACons (mFz (mLst (mACons (mFz (mC .none)) (mACons (mFz (mBin fIx (mVar 1) (mC (.int 0)))) mANil)))) mANil))) (mCall (f1 fInt) (mACons (mBin fNe (mBin fIx (mVar 1) (mC (.int 1))) (mC (.int 0))) mANil)))) mNext)
  (mSeq (mAsg (mBin fIx (mVar 1) (mC (.int 0))) 3)
  (mSeq (mIf (mTst (mBin fEq (mBin fIx (mVar 0) (mC (.int 0))) (mC (.str "sum")))) (mAsg (mBin fMod (mCall (f1 fSum) (mACons (mVar 1) mANil)) (mBin fPow (mC (.int 10)) (mC (.int 6)))) 3) mNext)
  (mSeq (mIf (mTst (mBin fEq (mBin fIx (mVar 0) (mC (.int 0))) (mC (.str "times")))) (mSeq (mAsg (mC (.int 1)) 3)
  (mFor seqD (mVar 1) (tName 4) (mAsg (mBin fMod (mBin fMulI (mVar 3) (mVar 4)) (mBin fPow (mC (.int 10)) (mC (.int 6)))) 3))) mNext)
  (mSeq (mIf (mTst (mBin (fIn false) (mBin fIx (mVar 0) (mC (.int 0))) (mTup (mACons (mFz (mC (.str "least"))) (mACons (mFz (mC (.str "most"))) mANil))))) (mAsg (mBin fIx (mCall (f1 fSorted) (mACons (mVar 1) mANil)) (mBin fIx (mLst (mACons (mFz (mC (.int 0))) (mACons (mFz (mUn fNeg (mC (.int 1)))) mANil))) (mCall (f1 fInt) (mACons (mBin fEq (mBin fIx (mVar 0) (mC (.int 0))) (mC (.str "most"))) mANil)))) 3) mNext)
  (mSeq (mIf (mTst (mBin fEq (mBin fIx (mVar 0) (mC (.int 0))) (mC (.str "fixed")))) (mAsg (mBin fIx (mVar 0) (mC (.int 1))) 3) mNext)
  (mSeq (mIf (mTst (mBin fEq (mBin fIx (mVar 0) (mC (.int 0))) (mC (.str "choose")))) (mAsg (mBin fIx (mVar 1) (mBin fAdd (mC (.int 1)) (mCall (f1 fInt) (mACons (mBin fNe (mBin fIx (mVar 1) (mC (.int 0))) (mC (.int 0))) mANil)))) 3) mNext)
  (mRet (mLcR1 (mVar 2) (tName 5) mYes (mVar 3) [5])))))))))

def f_law_given : SemF := fun ss => match ss with
  | [.fz (.tuple rule), x, .fz (.int many)] => (sL x).bind fun ds => (ds[0]?).bind fun _ => (outV rule ds many).bind fun es => some (if isWay rule = true then .v (.list es) else .nw (.lst es), ss)
  | _ => none
theorem loopC_cons {t : Tgt} {mt : MT} {me : M} {vs : List Nat} {d d' : D} {r : List D} {s s1 s2 s3 : List Slot} (h1 : t d s = some s1) (h2 : mt s1 = some (true, s1)) (h3 : mFz me s1 = some (.v d', s2)) (h4 : unw vs s2 = some s3) :
    loopC t mt me vs (d :: r) s = (loopC t mt me vs r s3).bind fun z => some (d' :: z.1, z.2) := by
  show (t d s).bind _ = _
  rw [h1]
  show (mt s1).bind _ = _
  rw [h2]
  show (mFz me s1).bind _ = _
  rw [h3]
  show (unw vs s2).bind _ = _
  rw [h4]
  rfl
theorem loopC_skip {t : Tgt} {mt : MT} {me : M} {vs : List Nat} {d : D} {r : List D} {s s1 s2 s3 : List Slot} (h1 : t d s = some s1) (h2 : mt s1 = some (false, s2)) (h4 : unw vs s2 = some s3) :
    loopC t mt me vs (d :: r) s = loopC t mt me vs r s3 := by
  show (t d s).bind _ = _
  rw [h1]
  show (mt s1).bind _ = _
  rw [h2]
  show (unw vs s2).bind _ = _
  rw [h4]
  rfl
theorem loopC_map {t : Tgt} {me : M} {vs : List Nat} {s : List Slot} {g : D → D} : ∀ {ds : List D}, (∀ d ∈ ds, ∃ s1 s2, t d s = some s1 ∧ mFz me s1 = some (.v (g d), s2) ∧ unw vs s2 = some s) → loopC t mYes me vs ds s = some (ds.map g, s)
  | [], _ => rfl
  | d :: r, h => by
    obtain ⟨s1, s2, h1, h2, h3⟩ := h d List.mem_cons_self
    rw [loopC_cons h1 rfl h2 h3, loopC_map fun x hx => h x (List.mem_cons_of_mem _ hx)]
    rfl
theorem least_sorted {ns : List Int} {m : Int} (h : leastL ns = some m) : atI ((ns.mergeSort (· ≤ ·)).map PyData.int) 0 = some (.int m) := by
  have hp := List.mergeSort_perm ns (fun a b => decide (a ≤ b))
  have z := List.pairwise_mergeSort (le := fun a b : Int => decide (a ≤ b)) (fun a b c h1 h2 => decide_eq_true (Int.le_trans (of_decide_eq_true h1) (of_decide_eq_true h2))) (fun a b => by
    rcases Int.le_total a b with h | h
    · rw [decide_eq_true h]; rfl
    · rw [decide_eq_true h, Bool.or_true]) ns
  refine at0 ?_
  generalize ns.mergeSort (fun a b => decide (a ≤ b)) = l at hp z
  cases l with
  | nil =>
    have := hp.length_eq
    cases ns with
    | nil => cases h
    | cons a r => simp at this
  | cons a r =>
    have ha : a = m := least_uniq h (hp.mem_iff.mp List.mem_cons_self) fun x hx => by
      rcases List.mem_cons.mp (hp.mem_iff.mpr hx) with rfl | hx
      · exact Int.le_refl _
      · exact of_decide_eq_true ((List.pairwise_cons.mp z).1 x hx)
    rw [ha]
    rfl
theorem most_sorted {ns : List Int} {m : Int} (h : mostL ns = some m) : atI ((ns.mergeSort (· ≤ ·)).map PyData.int) (-1) = some (.int m) := by
  have hp := List.mergeSort_perm ns (fun a b => decide (a ≤ b))
  have z := List.pairwise_mergeSort (le := fun a b : Int => decide (a ≤ b)) (fun a b c h1 h2 => decide_eq_true (Int.le_trans (of_decide_eq_true h1) (of_decide_eq_true h2))) (fun a b => by
    rcases Int.le_total a b with h | h
    · rw [decide_eq_true h]; rfl
    · rw [decide_eq_true h, Bool.or_true]) ns
  generalize ns.mergeSort (fun a b => decide (a ≤ b)) = l at hp z
  rcases List.eq_nil_or_concat l with e | ⟨r, a, e⟩
  · subst e
    have := hp.length_eq
    cases ns with
    | nil => cases h
    | cons a r => simp at this
  · subst e
    rw [List.concat_eq_append] at hp z ⊢
    have ha : a = m := most_uniq h (hp.mem_iff.mp (by simp)) fun x hx => by
      rcases List.mem_append.mp (hp.mem_iff.mpr hx) with hx | hx
      · exact of_decide_eq_true ((List.pairwise_append.mp z).2.2 x hx a (by simp))
      · rw [List.mem_singleton.mp hx]
        exact Int.le_refl _
    rw [List.map_append, ha]
    exact atI_last _ _
def st6 (rule : List D) (ds : List D) (many : Int) (f v : Slot) : List Slot := [.fz (.tuple rule), .fz (.list ds), .fz (.int many), f, v, .un]
theorem given_loop (rule ds : List D) (many : Int) : ∀ (ns : List Int) (p : Int) (v : Slot), 0 ≤ p → p < 1000000 → (v = .un ∨ ∃ d, v = .fz d) → ∃ v', (v' = .un ∨ ∃ d, v' = .fz d) ∧
    loopF (tName 4) (mAsg (mBin fMod (mBin fMulI (mVar 3) (mVar 4)) (mBin fPow (mC (.int 10)) (mC (.int 6)))) 3) (ns.map PyData.int) (st6 rule ds many (.fz (.int p)) v) = some (.nx (st6 rule ds many (.fz (.int (ns.foldl (fun p v => p * v % 1000000) p))) v'))
  | [], p, v, _, _, hv => ⟨v, hv, rfl⟩
  | n :: ns, p, v, h0, h1, hv => by
    have hm : CMul p n := .inl ⟨by omega, by omega⟩
    obtain ⟨v', hv', ih⟩ := given_loop rule ds many ns (p * n % 1000000) (.fz (.int n)) (Int.emod_nonneg _ (by decide)) (Int.emod_lt_of_pos _ (by decide)) (.inr ⟨_, rfl⟩)
    refine ⟨v', hv', ?_⟩
    rw [List.map_cons, List.foldl_cons]
    refine (loopF_cons (s1 := st6 rule ds many (.fz (.int p)) (.fz (.int n))) (s2 := st6 rule ds many (.fz (.int (p * n % 1000000))) (.fz (.int n))) ?_ ?_).trans ih
    · rcases hv with rfl | ⟨d, rfl⟩ <;> rfl
    · simp [st6, put, put1, mAsg, mBin, mVar, mC, cD, fMulI, fMod, fPow, fI, hm, Res.op, can]
theorem given_ret (rule ds : List D) (many : Int) (d : D) (v : Slot) (hv : v = .un ∨ ∃ d, v = .fz d) (hm : 0 ≤ many ∧ many ≤ 1000) : mRet (mLcR1 (mVar 2) (tName 5) mYes (mVar 3) [5]) (st6 rule ds many (.fz d) v) = some (.rt (.nw (.lst (List.replicate many.toNat d))) (st6 rule ds many (.fz d) v)) := by
  have hl : loopC (tName 5) mYes (mVar 3) [5] (rngD 0 many.toNat) (st6 rule ds many (.fz d) v) = some ((rngD 0 many.toNat).map fun _ => d, st6 rule ds many (.fz d) v) := loopC_map fun x _ => by
    refine ⟨[.fz (.tuple rule), .fz (.list ds), .fz (.int many), .fz d, v, .fz x], _, rfl, rfl, rfl⟩
  have hr : (rngD 0 many.toNat).map (fun _ => d) = List.replicate many.toNat d := by
    rw [List.map_const', rngD_len]
  rw [hr] at hl
  have hb : -4611686018427387904 ≤ many ∧ many < 4611686018427387904 := ⟨by omega, by omega⟩
  have hb2 : many ≤ 100000 := by omega
  have hu : unw [5] (st6 rule ds many (.fz d) v) = some (st6 rule ds many (.fz d) v) := rfl
  have hr2 : rst [5] (st6 rule ds many (.fz d) v) (st6 rule ds many (.fz d) v) = st6 rule ds many (.fz d) v := rfl
  have h2 : mVar 2 (st6 rule ds many (.fz d) v) = some (.v (.int many), st6 rule ds many (.fz d) v) := rfl
  simp [mRet, mLcR1, h2, cD, hb, hu, hl, endC, hb2, hr2]
theorem seq_nx {a b : MS} {s s' : List Slot} (h : a s = some (.nx s')) : mSeq a b s = b s' := by
  show (a s).bind _ = _
  rw [h]
  rfl
theorem seq_rt {a b : MS} {s s' : List Slot} {o : Op} (h : a s = some (.rt o s')) : mSeq a b s = some (.rt o s') := by
  show (a s).bind _ = _
  rw [h]
  rfl
theorem if_b {mt : MT} {a : MS} {s s' : List Slot} {b : Bool} (h : mt s = some (b, s')) : mIf mt a mNext s = if b = true then a s' else some (.nx s') := by
  show (mt s).bind _ = _
  rw [h]
  rfl
theorem tw {rr ds : List D} {many : Int} {f v : Slot} {w x : Str} : mTst (mBin fEq (mBin fIx (mVar 0) (mC (.int 0))) (mC (.str x))) (st6 (.str w :: rr) ds many f v) = some (decide (w = x), st6 (.str w :: rr) ds many f v) := by
  simp [st6, mTst, mBin, mVar, mC, cD, fIx, at0 (ds := PyData.str w :: rr) rfl, fEq, Res.op]
theorem eqv_str (a w : Str) : PyData.eqv (.str a) (.str w) = decide (w = a) := by
  have e : PyData.eqv (.str a) (.str w) = (a == w) := by rw [PyData.eqv]
  rw [e]
  by_cases h : w = a
  · subst h
    rw [decide_eq_true rfl]
    exact beq_self_eq_true w
  · rw [decide_eq_false h]
    exact beq_eq_false_iff_ne.mpr fun z => h z.symm
theorem fin2 (w a b : Str) : fIn false (.str w) (.tuple [.str a, .str b]) = some (.d (.bool (decide (w = a) || decide (w = b)))) := by
  have e : fIn false (.str w) (.tuple [.str a, .str b]) = some (.d (.bool (PyData.eqv (.str a) (.str w) || (PyData.eqv (.str b) (.str w) || false)))) := rfl
  rw [e, eqv_str, eqv_str, Bool.or_false]
theorem tw2 {rr ds : List D} {many : Int} {f v : Slot} {w : Str} : mTst (mBin (fIn false) (mBin fIx (mVar 0) (mC (.int 0))) (mTup (mACons (mFz (mC (.str "least"))) (mACons (mFz (mC (.str "most"))) mANil)))) (st6 (.str w :: rr) ds many f v) = some (decide (w = "least") || decide (w = "most"), st6 (.str w :: rr) ds many f v) := by
  simp [st6, mTst, mBin, mVar, mC, cD, fIx, at0 (ds := PyData.str w :: rr) rfl, Res.op, mTup, mACons, mFz, mANil, frz1, opsD, fin2]
theorem isWay_eq {rule : List D} (h : isWay rule = true) : rule = [.str "way"] := by
  unfold isWay at h
  split at h
  · rw [of_decide_eq_true h]
  · cases h
theorem e_law_given : ∀ ss r, f_law_given ss = some r → bodyF 6 m_law_given ss = some r := fun ss r h => by
  unfold f_law_given at h
  split at h
  · rename_i rule x many
    obtain ⟨ds, e1, e⟩ := bnd h
    obtain ⟨d0, e0, e⟩ := bnd e
    obtain ⟨es, e2, e⟩ := bnd e
    cases e
    rw [sL_eq e1]
    have start : bodyF 6 m_law_given [.fz (.tuple rule), .fz (.list ds), .fz (.int many)] = (m_law_given (st6 rule ds many .un .un)).bind fun out => match out with
      | .nx s' => (outs [.fz (.tuple rule), .fz (.list ds), .fz (.int many)] s').bind fun ss' => some (.v .none, ss')
      | .rt o s' => (conv [.fz (.tuple rule), .fz (.list ds), .fz (.int many)] s' o).bind fun o' => (outs [.fz (.tuple rule), .fz (.list ds), .fz (.int many)] s').bind fun ss' => some (o', ss')
      | _ => none := rfl
    rw [start]
    unfold outV at e2
    split at e2
    · rename_i hw
      rw [if_pos hw]
      have hw2 := isWay_eq hw
      subst hw2
      obtain ⟨a, e3, e4⟩ := bnd e2
      obtain ⟨b, e5, e6⟩ := bnd e4
      cases b with
      | int j =>
        have e6 : some (if j = 0 then [a, PyData.none] else [.none, a]) = some es := e6
        cases e6
        unfold m_law_given
        have h1 : ∀ b : MS, mSeq (mIf (mTst (mBin fEq (mBin fIx (mVar 0) (mC (.int 0))) (mC (.str "way")))) (mRet (mBin fIx (mLst (mACons (mFz (mLst (mACons (mFz (mBin fIx (mVar 1) (mC (.int 0)))) (mACons (mFz (mC .none)) mANil)))) (mACons (mFz (mLst (mACons (mFz (mC .none)) (mACons (mFz (mBin fIx (mVar 1) (mC (.int 0)))) mANil)))) mANil))) (mCall (f1 fInt) (mACons (mBin fNe (mBin fIx (mVar 1) (mC (.int 1))) (mC (.int 0))) mANil)))) mNext) b (st6 [.str "way"] ds many .un .un) = some (.rt (.v (.list (if j = 0 then [a, PyData.none] else [.none, a]))) (st6 [.str "way"] ds many .un .un)) := fun b => by
          refine seq_rt ((if_b tw).trans ?_)
          rw [decide_eq_true rfl, if_pos rfl]
          by_cases hj : j = 0
          · simp [mRet, mBin, mLst, mACons, mANil, mFz, mVar, mC, st6, cD, fIx, at0 e3, at1 e5, frz1, opsD, mCall, cDs, f1, fInt, fNe, hj, Res.op, at0 (ds := [PyData.list [a, .none], PyData.list [.none, a]]) rfl, at1 (ds := [PyData.list [a, .none], PyData.list [.none, a]]) rfl]
          · simp [mRet, mBin, mLst, mACons, mANil, mFz, mVar, mC, st6, cD, fIx, at0 e3, at1 e5, frz1, opsD, mCall, cDs, f1, fInt, fNe, hj, Res.op, at0 (ds := [PyData.list [a, .none], PyData.list [.none, a]]) rfl, at1 (ds := [PyData.list [a, .none], PyData.list [.none, a]]) rfl]
        rw [h1]
        rfl
      | _ => cases e6
    · rename_i hw
      rw [if_neg hw]
      obtain ⟨d, e3, e4⟩ := bnd e2
      split at e4
      · rename_i hm
        cases e4
        have fin : ∀ v : Slot, (v = .un ∨ ∃ d, v = .fz d) → ((some (Out.rt (.nw (.lst (List.replicate many.toNat d))) (st6 rule ds many (.fz d) v)) : Option Out).bind fun out => match out with
            | .nx s' => (outs [.fz (.tuple rule), .fz (.list ds), .fz (.int many)] s').bind fun ss' => some (.v .none, ss')
            | .rt o s' => (conv [.fz (.tuple rule), .fz (.list ds), .fz (.int many)] s' o).bind fun o' => (outs [.fz (.tuple rule), .fz (.list ds), .fz (.int many)] s').bind fun ss' => some (o', ss')
            | _ => none) = some (.nw (.lst (List.replicate many.toNat d)), [.fz (.tuple rule), .fz (.list ds), .fz (.int many)]) := fun v hv => rfl
        have main : ∃ v : Slot, (v = .un ∨ ∃ d, v = .fz d) ∧ m_law_given (st6 rule ds many .un .un) = some (.rt (.nw (.lst (List.replicate many.toNat d))) (st6 rule ds many (.fz d) v)) := by
          have ha : ∀ (w : Str) (rr : List D) (b : MS), w ≠ "way" → ∀ A : MS, mSeq (mIf (mTst (mBin fEq (mBin fIx (mVar 0) (mC (.int 0))) (mC (.str "way")))) A mNext) (mSeq (mAsg (mBin fIx (mVar 1) (mC (.int 0))) 3) b) (st6 (.str w :: rr) ds many .un .un) = b (st6 (.str w :: rr) ds many (.fz d0) .un) := fun w rr b hw A => by
            rw [seq_nx (if_b tw |>.trans (by rw [decide_eq_false hw]; rfl))]
            exact seq_nx (by simp [mAsg, mBin, mVar, mC, st6, cD, fIx, at0 e0, Res.op, put, can, put1])
          have no : ∀ (w x : Str) (rr : List D) (f v : Slot) (A b : MS), w ≠ x → mSeq (mIf (mTst (mBin fEq (mBin fIx (mVar 0) (mC (.int 0))) (mC (.str x)))) A mNext) b (st6 (.str w :: rr) ds many f v) = b (st6 (.str w :: rr) ds many f v) := fun w x rr f v A b h =>
            seq_nx (if_b tw |>.trans (by rw [decide_eq_false h]; rfl))
          have yes : ∀ (w x : Str) (rr : List D) (f v : Slot) (A b : MS) (s' : List Slot), w = x → A (st6 (.str w :: rr) ds many f v) = some (.nx s') → mSeq (mIf (mTst (mBin fEq (mBin fIx (mVar 0) (mC (.int 0))) (mC (.str x)))) A mNext) b (st6 (.str w :: rr) ds many f v) = b s' := fun w x rr f v A b s' h hA =>
            seq_nx (if_b tw |>.trans (by rw [decide_eq_true h]; exact hA))
          have no2 : ∀ (w : Str) (rr : List D) (f v : Slot) (A b : MS), w ≠ "least" → w ≠ "most" → mSeq (mIf (mTst (mBin (fIn false) (mBin fIx (mVar 0) (mC (.int 0))) (mTup (mACons (mFz (mC (.str "least"))) (mACons (mFz (mC (.str "most"))) mANil))))) A mNext) b (st6 (.str w :: rr) ds many f v) = b (st6 (.str w :: rr) ds many f v) := fun w rr f v A b h1 h2 =>
            seq_nx (if_b tw2 |>.trans (by rw [decide_eq_false h1, decide_eq_false h2]; rfl))
          have yes2 : ∀ (w : Str) (rr : List D) (f v : Slot) (A b : MS) (s' : List Slot), (w = "least" ∨ w = "most") → A (st6 (.str w :: rr) ds many f v) = some (.nx s') → mSeq (mIf (mTst (mBin (fIn false) (mBin fIx (mVar 0) (mC (.int 0))) (mTup (mACons (mFz (mC (.str "least"))) (mACons (mFz (mC (.str "most"))) mANil))))) A mNext) b (st6 (.str w :: rr) ds many f v) = b s' := fun w rr f v A b s' h hA =>
            seq_nx (if_b tw2 |>.trans (by
              rcases h with h | h
              · rw [decide_eq_true h]; exact hA
              · rw [decide_eq_true h, Bool.or_true]; exact hA))
          unfold m_law_given
          unfold ruleV at e3
          split at e3
          · rename_i w d'
            split at e3
            · rename_i hw'
              cases e3
              refine ⟨.un, .inl rfl, ?_⟩
              subst hw'
              rw [ha _ _ _ (by decide +kernel), no _ _ _ _ _ _ _ (by decide +kernel), no _ _ _ _ _ _ _ (by decide +kernel), no2 _ _ _ _ _ _ (by decide +kernel) (by decide +kernel),
                yes _ _ _ _ _ _ _ (st6 [.str "fixed", d] ds many (.fz d) .un) rfl (by simp [mAsg, mBin, mVar, mC, st6, cD, fIx, at1 (ds := [PyData.str "fixed", d]) rfl, Res.op, put, can, put1]), no _ _ _ _ _ _ _ (by decide +kernel)]
              exact given_ret _ _ _ _ _ (.inl rfl) hm
            · cases e3
          · rename_i w
            split at e3
            · rename_i hw'
              obtain ⟨ns, e5, e6⟩ := bnd e3
              cases e6
              refine ⟨.un, .inl rfl, ?_⟩
              subst hw'
              rw [ha _ _ _ (by decide +kernel), yes _ _ _ _ _ _ _ (st6 [.str "sum"] ds many (.fz (.int (ns.sum % 1000000))) .un) rfl (by rw [intsD_eq e5]; simp [mAsg, mBin, mVar, mC, st6, mCall, mACons, mANil, cDs, cD, f1, fSum, fInts, intsD_map, fMod, fPow, fI, Res.op, put, can, put1]),
                no _ _ _ _ _ _ _ (by decide +kernel), no2 _ _ _ _ _ _ (by decide +kernel) (by decide +kernel), no _ _ _ _ _ _ _ (by decide +kernel), no _ _ _ _ _ _ _ (by decide +kernel)]
              exact given_ret _ _ _ _ _ (.inl rfl) hm
            split at e3
            · rename_i hw'
              obtain ⟨ns, e5, e6⟩ := bnd e3
              cases e6
              subst hw'
              obtain ⟨v', hv', hl⟩ := given_loop [.str "times"] ds many ns 1 .un (by decide) (by decide) (.inl rfl)
              refine ⟨v', hv', ?_⟩
              rw [ha _ _ _ (by decide +kernel), no _ _ _ _ _ _ _ (by decide +kernel), yes _ _ _ _ _ _ _ (st6 [.str "times"] ds many (.fz (.int (timesL ns))) v') rfl ?_,
                no2 _ _ _ _ _ _ (by decide +kernel) (by decide +kernel), no _ _ _ _ _ _ _ (by decide +kernel), no _ _ _ _ _ _ _ (by decide +kernel)]
              · exact given_ret _ _ _ _ _ hv' hm
              · rw [seq_nx (s' := st6 [.str "times"] ds many (.fz (.int 1)) .un) rfl]
                have h1 : mFz (mVar 1) (st6 [.str "times"] ds many (.fz (.int 1)) .un) = some (.v (.list ds), st6 [.str "times"] ds many (.fz (.int 1)) .un) := rfl
                show (mFz (mVar 1) (st6 [.str "times"] ds many (.fz (.int 1)) .un)).bind _ = _
                rw [h1]
                show loopF _ _ ds (st6 [.str "times"] ds many (.fz (.int 1)) .un) = _
                rw [← intsD_eq e5] at hl
                exact hl
            split at e3
            · rename_i hw'
              obtain ⟨ns, e5, e6⟩ := bnd e3
              obtain ⟨m, e7, e8⟩ := bnd e6
              cases e8
              refine ⟨.un, .inl rfl, ?_⟩
              subst hw'
              rw [ha _ _ _ (by decide +kernel), no _ _ _ _ _ _ _ (by decide +kernel), no _ _ _ _ _ _ _ (by decide +kernel), yes2 _ _ _ _ _ _ (st6 [.str "least"] ds many (.fz (.int m)) .un) (.inl rfl) ?_, no _ _ _ _ _ _ _ (by decide +kernel), no _ _ _ _ _ _ _ (by decide +kernel)]
              · exact given_ret _ _ _ _ _ (.inl rfl) hm
              · have h1 : ¬ (("least" : Str) = "most") := by decide +kernel
                have h2 := least_sorted e7
                rw [intsD_eq e5]
                simp [mAsg, mBin, mVar, mC, st6, mCall, mACons, mANil, cDs, cD, f1, fSorted, fInts, intsD_map, Res.op, put, can, put1, fIx, h2, mLst, mFz, frz1, opsD, mUn, fNeg, fInt, fEq, at0 (ds := [PyData.str "least"]) rfl, h1, at0 (ds := [PyData.int 0, PyData.int (-1)]) rfl]
            split at e3
            · rename_i hw'
              obtain ⟨ns, e5, e6⟩ := bnd e3
              obtain ⟨m, e7, e8⟩ := bnd e6
              cases e8
              refine ⟨.un, .inl rfl, ?_⟩
              subst hw'
              rw [ha _ _ _ (by decide +kernel), no _ _ _ _ _ _ _ (by decide +kernel), no _ _ _ _ _ _ _ (by decide +kernel), yes2 _ _ _ _ _ _ (st6 [.str "most"] ds many (.fz (.int m)) .un) (.inr rfl) ?_, no _ _ _ _ _ _ _ (by decide +kernel), no _ _ _ _ _ _ _ (by decide +kernel)]
              · exact given_ret _ _ _ _ _ (.inl rfl) hm
              · have h2 := most_sorted e7
                rw [intsD_eq e5]
                simp [mAsg, mBin, mVar, mC, st6, mCall, mACons, mANil, cDs, cD, f1, fSorted, fInts, intsD_map, Res.op, put, can, put1, fIx, h2, mLst, mFz, frz1, opsD, mUn, fNeg, fInt, fEq, at0 (ds := [PyData.str "most"]) rfl, at1 (ds := [PyData.int 0, PyData.int (-1)]) rfl]
            split at e3
            · rename_i hw'
              refine ⟨.un, .inl rfl, ?_⟩
              subst hw'
              rw [ha _ _ _ (by decide +kernel), no _ _ _ _ _ _ _ (by decide +kernel), no _ _ _ _ _ _ _ (by decide +kernel), no2 _ _ _ _ _ _ (by decide +kernel) (by decide +kernel), no _ _ _ _ _ _ _ (by decide +kernel), no _ _ _ _ _ _ _ (by decide +kernel)]
              have ed : d0 = d := Option.some.inj (e0.symm.trans e3)
              rw [ed]
              exact given_ret _ _ _ _ _ (.inl rfl) hm
            split at e3
            · rename_i hw'
              refine ⟨.un, .inl rfl, ?_⟩
              subst hw'
              rw [ha _ _ _ (by decide +kernel), no _ _ _ _ _ _ _ (by decide +kernel), no _ _ _ _ _ _ _ (by decide +kernel), no2 _ _ _ _ _ _ (by decide +kernel) (by decide +kernel), no _ _ _ _ _ _ _ (by decide +kernel), yes _ _ _ _ _ _ _ (st6 [.str "choose"] ds many (.fz d) .un) rfl ?_]
              · exact given_ret _ _ _ _ _ (.inl rfl) hm
              · obtain ⟨a, e5, e6⟩ := bnd e3
                cases a with
                | int j =>
                  have e6 : (if j = 0 then ds[1]? else ds[2]?) = some d := e6
                  by_cases hj : j = 0
                  · rw [if_pos hj] at e6
                    simp [mAsg, mBin, mVar, mC, st6, mCall, mACons, mANil, cDs, cD, f1, fInt, fNe, fAdd, hj, fIx, at0 e5, at1 e6, Res.op, put, can, put1]
                  · rw [if_neg hj] at e6
                    simp [mAsg, mBin, mVar, mC, st6, mCall, mACons, mANil, cDs, cD, f1, fInt, fNe, fAdd, hj, fIx, at0 e5, at2 e6, Res.op, put, can, put1]
                | _ => cases e6
            · cases e3
          · cases e3
        obtain ⟨v, hv, hmain⟩ := main
        rw [hmain]
        exact fin v hv
      · cases e4
  · cases h
abbrev s_law_same : Stmt := topS 21
theorem sc_law_same : FnScope ["_law_found", "_law_due", "_law_one"] ["_law_found", "_law_due"] (defScope s_law_same) := ⟨rfl, rfl, rfl, by decide +kernel, rfl, by decide +kernel, by decide +kernel⟩
def m_law_same : MS :=
  (mSeq (mIf (mOrT (mNotT (mTst (mUn (fIsi "list") (mVar 0)))) (mTst (mBin fNe (mVar 0) (mVar 1)))) (mRet (mC (.bool false))) mNext)
  (mRet (mBin fEq (mCall (f1 fLen) (mACons (mLc seqD (mVar 0) (tName 2) (mTst (mUn (fIsi "bool") (mVar 2))) (mVar 2) [2]) mANil)) (mC (.int 0)))))

def optD : D → Option (Option Int)
  | .int i => some (some i)
  | .none => some none
  | _ => none
def optsD : List D → Option (List (Option Int))
  | [] => some []
  | d :: r => (optD d).bind fun x => (optsD r).bind fun t => some (x :: t)
def encO : Option Int → D
  | some i => .int i
  | none => .none
theorem optsD_eq : ∀ {ds : List D} {xs : List (Option Int)}, optsD ds = some xs → ds = xs.map encO
  | [], _, h => by
    cases h
    rfl
  | d :: r, _, h => by
    obtain ⟨x, e1, e⟩ := bnd h
    obtain ⟨t, e2, e⟩ := bnd e
    cases e
    rw [optsD_eq e2, List.map_cons]
    congr 1
    cases d with
    | int i => cases e1; rfl
    | none => cases e1; rfl
    | _ => cases e1
theorem optsD_map : ∀ (xs : List (Option Int)), optsD (xs.map encO) = some xs
  | [] => rfl
  | x :: xs => by
    show (optD (encO x)).bind (fun y => (optsD (xs.map encO)).bind _) = _
    rw [optsD_map xs]
    cases x <;> rfl
theorem lay_opts : ∀ (xs : List (Option Int)), PyData.canLayAll0 (xs.map encO) = true
  | [] => by rw [List.map_nil, PyData.canLayAll0]
  | x :: xs => by
    rw [List.map_cons, PyData.canLayAll0, lay_opts xs]
    cases x <;> simp [encO, PyData.canLay0]
theorem depth_opts : ∀ (xs : List (Option Int)), PyData.depthAll (xs.map encO) = 0
  | [] => by rw [List.map_nil, PyData.depthAll]
  | x :: xs => by
    rw [List.map_cons, PyData.depthAll, depth_opts xs]
    cases x <;> simp [encO, PyData.depth]
theorem shaped_opts (xs : List (Option Int)) : SeqAt.shaped (.list (xs.map encO)) = true := by
  unfold SeqAt.shaped
  rw [PyData.canLay0, lay_opts, PyData.depth, depth_opts]
  rfl
theorem eqv_opts (xs : List (Option Int)) : PyData.eqv (.list (xs.map encO)) (.list (xs.map encO)) = true := SeqAt.eqv_refl _ (by rw [PyData.canLay0]; exact lay_opts xs)
theorem fNe_opts (xs : List (Option Int)) : fNe (.list (xs.map encO)) (.list (xs.map encO)) = some (.d (.bool false)) := by
  show (if (SeqAt.shaped (.list (xs.map encO)) && SeqAt.shaped (.list (xs.map encO))) = true then some (Res.d (.bool (!PyData.eqv (.list (xs.map encO)) (.list (xs.map encO))))) else none) = _
  rw [shaped_opts, eqv_opts]
  rfl
theorem fEq_opts (xs : List (Option Int)) : fEq (.list (xs.map encO)) (.list (xs.map encO)) = some (.d (.bool true)) := by
  show (if (SeqAt.shaped (.list (xs.map encO)) && SeqAt.shaped (.list (xs.map encO))) = true then some (Res.d (.bool (PyData.eqv (.list (xs.map encO)) (.list (xs.map encO))))) else none) = _
  rw [shaped_opts, eqv_opts]
  rfl
def f_law_same : SemF := fun ss => match ss with
  | [x, y] => (sL x).bind fun ds => (sL y).bind fun es => (optsD ds).bind fun xs => (optsD es).bind fun ys => if xs = ys then some (vBool true, ss) else none
  | _ => none
theorem loopC_none {t : Tgt} {mt : MT} {me : M} {vs : List Nat} {s : List Slot} : ∀ {ds : List D}, (∀ d ∈ ds, ∃ s1 s2, t d s = some s1 ∧ mt s1 = some (false, s2) ∧ unw vs s2 = some s) → loopC t mt me vs ds s = some ([], s)
  | [], _ => rfl
  | d :: r, h => by
    obtain ⟨s1, s2, h1, h2, h3⟩ := h d List.mem_cons_self
    rw [loopC_skip h1 h2 h3, loopC_none fun x hx => h x (List.mem_cons_of_mem _ hx)]
theorem kb_int : kitB "int" "bool" = some false := by decide +kernel
theorem kb_none : kitB "NoneType" "bool" = some false := by decide +kernel
theorem kb_ll : kitB "list" "list" = some true := by decide +kernel
theorem e_law_same : ∀ ss r, f_law_same ss = some r → bodyF 3 m_law_same ss = some r := fun ss r h => by
  unfold f_law_same at h
  split at h
  · obtain ⟨ds, e1, e⟩ := bnd h
    obtain ⟨es, e2, e⟩ := bnd e
    obtain ⟨xs, e3, e⟩ := bnd e
    obtain ⟨ys, e4, e⟩ := bnd e
    split at e
    · rename_i hxy
      cases e
      subst hxy
      rw [sL_eq e1, sL_eq e2, optsD_eq e3, optsD_eq e4]
      have hl : loopC (tName 2) (mTst (mUn (fIsi "bool") (mVar 2))) (mVar 2) [2] (xs.map encO) [.fz (.list (xs.map encO)), .fz (.list (xs.map encO)), .un] = some ([], [.fz (.list (xs.map encO)), .fz (.list (xs.map encO)), .un]) := loopC_none fun d hd => by
        obtain ⟨x, _, rfl⟩ := List.mem_map.mp hd
        refine ⟨[.fz (.list (xs.map encO)), .fz (.list (xs.map encO)), .fz (encO x)], [.fz (.list (xs.map encO)), .fz (.list (xs.map encO)), .fz (encO x)], rfl, ?_, rfl⟩
        cases x with
        | some i => simp [mTst, mUn, mVar, cD, fIsi, tyD, encO, kb_int, Res.op]
        | none => simp [mTst, mUn, mVar, cD, fIsi, tyD, encO, kb_none, Res.op]
      have hu : unw [2] [.fz (.list (xs.map encO)), .fz (.list (xs.map encO)), .un] = some [.fz (.list (xs.map encO)), .fz (.list (xs.map encO)), .un] := rfl
      have hr : rst [2] [.fz (.list (xs.map encO)), .fz (.list (xs.map encO)), .un] [.fz (.list (xs.map encO)), .fz (.list (xs.map encO)), .un] = [.fz (.list (xs.map encO)), .fz (.list (xs.map encO)), .un] := rfl
      simp [bodyF, m_law_same, mSeq, mIf, mOrT, mNotT, mTst, mUn, mVar, cD, fIsi, tyD, kb_ll, Res.op, mBin, fNe_opts, mNext, mRet, mCall, mACons, mANil, cDs, f1, mLc, mFz, frz1, seqD, hu, hl, endC, hr, fLen, mC, fEq, conv, outs, vBool, List.replicate]
    · cases e
  · cases h

end K01

set_option Elab.async false
set_option linter.all false
set_option maxRecDepth 100000
set_option maxHeartbeats 4000000
namespace K01
open PySem L2 Sh
abbrev s_law : Stmt := topS 22
theorem sc_law : FnScope ["_law_script", "_law_word", "_law_rule", "_law_many", "_law_gives", "_law_values", "_law_due", "_law_thing", "_law_number", "_law_held", "_law_turn", "_law_handed", "_law_told", "_law_k"] ["_law_script"] (defScope s_law) := ⟨rfl, rfl, rfl, by decide +kernel, rfl, by decide +kernel, by decide +kernel⟩
def m_law : MS :=
  (mSeq (mAsg (mBin fIx (mLst (mACons (mFz (mC (.str "sum"))) (mACons (mFz (mC (.str "times"))) (mACons (mFz (mC (.str "least"))) (mACons (mFz (mC (.str "most"))) (mACons (mFz (mC (.str "fixed"))) (mACons (mFz (mC (.str "later"))) (mACons (mFz (mC (.str "way"))) (mACons (mFz (mC (.str "choose"))) mANil))))))))) (mBin fMod (mCallF f_law_cell_at (mACons (mFz (mVar 0)) (mACons (mFz (mC (.int 0))) mANil))) (mC (.int 8)))) 1)
  (mSeq (mAsg (mTup (mACons (mFz (mVar 1)) mANil)) 2)
  (mSeq (mIf (mTst (mBin fEq (mVar 1) (mC (.str "fixed")))) (mAsg (mTup (mACons (mFz (mC (.str "fixed"))) (mACons (mFz (mCallF f_law_value (mACons (mFz (mCallF f_law_cell_at (mACons (mFz (mVar 0)) (mACons (mFz (mC (.int 1))) mANil)))) mANil))) mANil))) 2) mNext)
  (mSeq (mAsg (mGetS [("later", 1), ("way", 2), ("choose", 3)] (mVar 1) (mBin fAdd (mC (.int 1)) (mBin fMod (mBin fDiv (mCallF f_law_cell_at (mACons (mFz (mVar 0)) (mACons (mFz (mC (.int 0))) mANil))) (mC (.int 8))) (mC (.int 4))))) 3)
  (mSeq (mAsg (mGetS [("way", 2)] (mVar 1) (mBin fAdd (mC (.int 1)) (mBin fMod (mBin fDiv (mCallF f_law_cell_at (mACons (mFz (mVar 0)) (mACons (mFz (mC (.int 0))) mANil))) (mC (.int 32))) (mC (.int 3))))) 4)
  (mSeq (mAsg (mLcR1 (mVar 3) (tName 13) mYes (mCallF f_law_value (mACons (mFz (mCallF f_law_cell_at (mACons (mFz (mVar 0)) (mACons (mFz (mBin fAdd (mC (.int 2)) (mVar 13))) mANil)))) mANil)) [13]) 5)
  (mSeq (mIf (mAndT (mTst (mBin fEq (mVar 1) (mC (.str "choose")))) (mTst (mBin fEq (mBin fMod (mCallF f_law_cell_at (mACons (mFz (mVar 0)) (mACons (mFz (mC (.int 1))) mANil))) (mC (.int 2))) (mC (.int 1))))) (mSetI 5 (mBin fAdd (mC (.int 1)) (mCall (f1 fInt) (mACons (mBin fEq (mBin fIx (mVar 5) (mC (.int 0))) (mC (.int 0))) mANil))) (mC .none)) mNext)
  (mSeq (mAsg (mCallF f_law_given (mACons (mFz (mVar 2)) (mACons (mFz (mVar 5)) (mACons (mFz (mVar 4)) mANil)))) 6)
  (mSeq (mAsg (mBin fIx (mLst (mACons (mFz (mC (.int 0))) (mACons (mFz (mC (.int 999999))) (mACons (mFz (mC (.int 1000000))) (mACons (mFz (mUn fNeg (mC (.int 1)))) (mACons (mFz (mC (.bool true))) (mACons (mFz (mC (.bool false))) (mACons (mFz (mC .none)) (mACons (mFz (mC (.str "7"))) (mACons (mFz (mBin fPow (mC (.int 10)) (mC (.int 30)))) (mACons (mFz (mC (.int 5))) mANil))))))))))) (mBin fMod (mCallF f_law_cell_at (mACons (mFz (mVar 0)) (mACons (mFz (mC (.int 6))) mANil))) (mC (.int 10)))) 7)
  (mSeq (mIf (mTst (mBin fEq (mBin fMod (mBin fDiv (mCallF f_law_cell_at (mACons (mFz (mVar 0)) (mACons (mFz (mC (.int 6))) mANil))) (mC (.int 10))) (mC (.int 2))) (mC (.int 1)))) (mAsg (mCallF f_law_cell_at (mACons (mFz (mVar 0)) (mACons (mFz (mC (.int 6))) mANil))) 7) mNext)
  (mSeq (mAsg (mAndV (mUn (fIsi "int") (mVar 7)) (mAndV (mNotV (mUn (fIsi "bool") (mVar 7))) (mAndV (mBin fLe (mC (.int 0)) (mVar 7)) (mBin fLt (mVar 7) (mBin fPow (mC (.int 10)) (mC (.int 6))))))) 8)
  (mSeq (mAsg (mLst mANil) 9)
  (mSeq (mForR1 (mC (.int 2)) (tName 10) (mSeq (mAsg (mCall (f1 fList) (mACons (mVar 5) mANil)) 11)
  (mSeq (mAsg (mCallF f_outcome (mACons (mFz (mVar 2)) (mACons (mFz (mVar 11)) (mACons (mFz (mVar 4)) mANil)))) 12)
  (mSeq (mIf (mOrT (mNotT (mTst (mCallF f_law_same (mACons (mFz (mVar 12)) (mACons (mFz (mVar 6)) mANil))))) (mTst (mBin fNe (mVar 11) (mVar 5)))) (mRet (mC (.bool false))) mNext)
  (mSeq (mDrop (mApp 9 (mTup (mACons (mFz (mVar 12)) (mACons (mFz (mCall (f1 fList) (mACons (mVar 12) mANil))) mANil)))))
  (mSeq (mAsg (mCallF f_is_value (mACons (mFz (mVar 7)) mANil)) 12)
  (mIf (mOrT (mNotT (mTst (mUn (fIsi "bool") (mVar 12)))) (mOrT (mTst (mBin fNe (mVar 12) (mVar 8))) (mTst (mBin fNe (mCallF f_outcome (mACons (mFz (mTup (mACons (mFz (mC (.str "fixed"))) (mACons (mFz (mC (.int 3))) mANil)))) (mACons (mFz (mLst (mACons (mFz (mC (.int 1))) mANil))) (mACons (mFz (mC (.int 2))) mANil)))) (mLst (mACons (mFz (mC (.int 3))) (mACons (mFz (mC (.int 3))) mANil))))))) (mRet (mC (.bool false))) mNext)))))))
  (mRet (mAndV (mBin fEq (mBin fIx (mBin fIx (mVar 9) (mC (.int 0))) (mC (.int 0))) (mBin fIx (mBin fIx (mVar 9) (mC (.int 0))) (mC (.int 1)))) (mBin fEq (mBin fIx (mBin fIx (mVar 9) (mC (.int 1))) (mC (.int 0))) (mBin fIx (mBin fIx (mVar 9) (mC (.int 1))) (mC (.int 1)))))))))))))))))))

theorem jOf_v : ∀ (ds : List D) (i : Nat), jOf (ds.map Op.v) i = none
  | [], _ => rfl
  | d :: r, i => by
    show (jOf (r.map Op.v) i).map _ = none
    rw [jOf_v r i]
    rfl
theorem pass_v (s : List Slot) : ∀ (ds : List D), pass s (ds.map Op.v) = some (ds.map Slot.fz)
  | [] => rfl
  | d :: r => by
    show (pass s (r.map Op.v)).bind _ = _
    rw [pass_v s r]
    rfl
theorem dst_v (s : List Slot) : ∀ (ds : List D), dst s (ds.map Op.v) = true
  | [] => rfl
  | d :: r => dst_v s r
theorem shp_v : ∀ (ds : List D), shp (ds.map Slot.fz) (ds.map Slot.fz) = true
  | [] => rfl
  | d :: r => shp_v r
theorem wb_v (s : List Slot) (ds : List D) (ss' : List Slot) : s.mapIdx (wb (ds.map Op.v) ss') = s := by
  apply List.ext_getElem?
  intro i
  rw [List.getElem?_mapIdx]
  cases q : s[i]? with
  | none => rfl
  | some x =>
    show some (wb (ds.map Op.v) ss' i x) = some x
    cases x with
    | un => rfl
    | fz d => rfl
    | ow p k =>
      show some (wb1 p k ss' (jOf (ds.map Op.v) i)) = _
      rw [jOf_v]
      rfl
/-- a call whose arguments are data -/
theorem callF_v {f : SemF} {ma : MA} {s s1 : List Slot} {ds : List D} {o : Op} (h1 : ma s = some (ds.map Op.v, s1)) (h2 : f (ds.map Slot.fz) = some (o, ds.map Slot.fz)) (h3 : o.isSl = false) : mCallF f ma s = some (o, s1) := by
  show (ma s).bind _ = _
  rw [h1]
  show (pass s1 (ds.map Op.v)).bind _ = _
  rw [pass_v]
  show (if dst s1 (ds.map Op.v) = true then _ else _) = _
  rw [if_pos (dst_v s1 ds)]
  show (f (ds.map Slot.fz)).bind _ = _
  rw [h2]
  show (if (shp (ds.map Slot.fz) (ds.map Slot.fz) && !o.isSl) = true then _ else _) = _
  rw [shp_v, h3]
  show some (o, s1.mapIdx (wb (ds.map Op.v) (ds.map Slot.fz))) = _
  rw [wb_v]
theorem acons {m : M} {n : MA} {s s1 s2 : List Slot} {d : D} {ds : List D} (h1 : mFz m s = some (.v d, s1)) (h2 : n s1 = some (ds.map Op.v, s2)) : mACons (mFz m) n s = some ((d :: ds).map Op.v, s2) := by
  show (mFz m s).bind _ = _
  rw [h1]
  show (n s1).bind _ = _
  rw [h2]
  rfl
theorem anil {s : List Slot} : mANil s = some (([] : List D).map Op.v, s) := rfl
theorem fz_v {m : M} {s s1 : List Slot} {d : D} (h : m s = some (.v d, s1)) : mFz m s = some (.v d, s1) := by
  show (m s).bind _ = _
  rw [h]
  rfl
theorem fz_var {s : List Slot} {i : Nat} {d : D} (h : s[i]? = some (.fz d)) : mFz (mVar i) s = some (.v d, s) := fz_v (by
  show (match s[i]? with | some (.fz d) => some (Op.v d, s) | some (.ow _ _) => some (.sl i, s) | _ => none) = _
  rw [h])
theorem bin_v {f : D → D → Option Res} {ma mb : M} {s s1 s2 : List Slot} {d e z : D} (h1 : ma s = some (.v d, s1)) (h2 : mb s1 = some (.v e, s2)) (h3 : f d e = some (.d z)) : mBin f ma mb s = some (.v z, s2) := by
  show (ma s).bind _ = _
  rw [h1]
  show (mb s1).bind _ = _
  rw [h2]
  show (f d e).bind _ = _
  rw [h3]
  rfl
theorem cell_v {ns : List Int} {s : List Slot} {m : M} {k : Int} (h0 : s[0]? = some (.fz (.list (ns.map PyData.int)))) (hm : m s = some (.v (.int k), s)) (hk : 0 ≤ k) : mCallF f_law_cell_at (mACons (mFz (mVar 0)) (mACons (mFz m) mANil)) s = some (.v (.int (lcell ns k)), s) :=
  callF_v (ds := [.list (ns.map PyData.int), .int k]) (acons (fz_var h0) (acons (fz_v hm) anil)) (by
    show f_law_cell_at [.fz (.list (ns.map PyData.int)), .fz (.int k)] = some (_, [.fz (.list (ns.map PyData.int)), .fz (.int k)])
    unfold f_law_cell_at
    simp [intsD_map, hk, vInt]) rfl
theorem val_v {s : List Slot} {m : M} {p : Int} (hm : m s = some (.v (.int p), s)) : mCallF f_law_value (mACons (mFz m) mANil) s = some (.v (.int (lval p)), s) :=
  callF_v (ds := [.int p]) (acons (fz_v hm) anil) rfl rfl
theorem asg_v {m : M} {i : Nat} {s s1 s2 : List Slot} {o : Op} (h : m s = some (o, s1)) (h2 : put s1 i o = some s2) : mAsg m i s = some (.nx s2) := by
  show (m s).bind _ = _
  rw [h]
  show (put s1 i o).bind _ = _
  rw [h2]
  rfl
def WORDS : List Str := ["sum", "times", "least", "most", "fixed", "later", "way", "choose"]
abbrev C (ns : List Int) (k : Int) : Int := lcell ns k
abbrev L0 (ns : List Int) : Slot := .fz (.list (ns.map PyData.int))
/-- the word -/
theorem law_word (ns : List Int) (a : List Slot) : ∃ w : Str, (w = "sum" ∨ w = "times" ∨ w = "least" ∨ w = "most" ∨ w = "fixed" ∨ w = "later" ∨ w = "way" ∨ w = "choose") ∧
    (mBin fIx (mLst (mACons (mFz (mC (.str "sum"))) (mACons (mFz (mC (.str "times"))) (mACons (mFz (mC (.str "least"))) (mACons (mFz (mC (.str "most"))) (mACons (mFz (mC (.str "fixed"))) (mACons (mFz (mC (.str "later"))) (mACons (mFz (mC (.str "way"))) (mACons (mFz (mC (.str "choose"))) mANil))))))))) (mBin fMod (mCallF f_law_cell_at (mACons (mFz (mVar 0)) (mACons (mFz (mC (.int 0))) mANil))) (mC (.int 8)))) (L0 ns :: a) = some (.v (.str w), L0 ns :: a) := by
  have hm : mBin fMod (mCallF f_law_cell_at (mACons (mFz (mVar 0)) (mACons (mFz (mC (.int 0))) mANil))) (mC (.int 8)) (L0 ns :: a) = some (.v (.int (C ns 0 % 8)), L0 ns :: a) :=
    bin_v (cell_v rfl rfl (by decide)) rfl rfl
  have go : ∀ w : Str, fIx (.list [.str "sum", .str "times", .str "least", .str "most", .str "fixed", .str "later", .str "way", .str "choose"]) (.int (C ns 0 % 8)) = some (.d (.str w)) →
      (mBin fIx (mLst (mACons (mFz (mC (.str "sum"))) (mACons (mFz (mC (.str "times"))) (mACons (mFz (mC (.str "least"))) (mACons (mFz (mC (.str "most"))) (mACons (mFz (mC (.str "fixed"))) (mACons (mFz (mC (.str "later"))) (mACons (mFz (mC (.str "way"))) (mACons (mFz (mC (.str "choose"))) mANil))))))))) (mBin fMod (mCallF f_law_cell_at (mACons (mFz (mVar 0)) (mACons (mFz (mC (.int 0))) mANil))) (mC (.int 8)))) (L0 ns :: a) = some (.v (.str w), L0 ns :: a) := fun w h => by
    show (some (Op.nw (.lst [.str "sum", .str "times", .str "least", .str "most", .str "fixed", .str "later", .str "way", .str "choose"]), L0 ns :: a)).bind _ = _
    show (mBin fMod (mCallF f_law_cell_at (mACons (mFz (mVar 0)) (mACons (mFz (mC (.int 0))) mANil))) (mC (.int 8)) (L0 ns :: a)).bind _ = _
    rw [hm]
    show (fIx (.list [.str "sum", .str "times", .str "least", .str "most", .str "fixed", .str "later", .str "way", .str "choose"]) (.int (C ns 0 % 8))).bind _ = _
    rw [h]
    rfl
  have hj : C ns 0 % 8 = 0 ∨ C ns 0 % 8 = 1 ∨ C ns 0 % 8 = 2 ∨ C ns 0 % 8 = 3 ∨ C ns 0 % 8 = 4 ∨ C ns 0 % 8 = 5 ∨ C ns 0 % 8 = 6 ∨ C ns 0 % 8 = 7 := by omega
  rcases hj with hj | hj | hj | hj | hj | hj | hj | hj
  · exact ⟨"sum", by simp, go _ (by rw [hj]; rfl)⟩
  · exact ⟨"times", by simp, go _ (by rw [hj]; rfl)⟩
  · exact ⟨"least", by simp, go _ (by rw [hj]; rfl)⟩
  · exact ⟨"most", by simp, go _ (by rw [hj]; rfl)⟩
  · exact ⟨"fixed", by simp, go _ (by rw [hj]; rfl)⟩
  · exact ⟨"later", by simp, go _ (by rw [hj]; rfl)⟩
  · exact ⟨"way", by simp, go _ (by rw [hj]; rfl)⟩
  · exact ⟨"choose", by simp, go _ (by rw [hj]; rfl)⟩
theorem getS_v {kv : List (Str × Int)} {me mf : M} {s : List Slot} {w : Str} {n m : Int} (h1 : me s = some (.v (.str w), s)) (h2 : mf s = some (.v (.int n), s)) (h3 : getD2 kv w (.int n) = some m) : mGetS kv me mf s = some (.v (.int m), s) := by
  show (me s).bind _ = _
  rw [h1]
  show (mf s).bind _ = _
  rw [h2]
  show (getD2 kv w (.int n)).bind _ = _
  rw [h3]
  rfl
theorem law_many (w : Str) (n : Int) (hn : 1 ≤ n ∧ n ≤ 4) : ∃ m, getD2 [("later", 1), ("way", 2), ("choose", 3)] w (.int n) = some m ∧ 1 ≤ m ∧ m ≤ 4 ∧ (w = "way" → m = 2) ∧ (w = "choose" → m = 3) := by
  unfold getD2 getS getS getS getS
  by_cases h1 : ("later" : Str) = w
  · subst h1
    exact ⟨1, by simp, by decide, by decide, fun h => absurd h (by decide +kernel), fun h => absurd h (by decide +kernel)⟩
  · by_cases h2 : ("way" : Str) = w
    · subst h2
      exact ⟨2, by simp [h1], by decide, by decide, fun _ => rfl, fun h => absurd h (by decide +kernel)⟩
    · by_cases h3 : ("choose" : Str) = w
      · subst h3
        exact ⟨3, by simp [h1, h2], by decide, by decide, fun h => absurd h (by decide +kernel), fun _ => rfl⟩
      · exact ⟨n, by simp [h1, h2, h3, iD], hn.1, hn.2, fun h => absurd h.symm h2, fun h => absurd h.symm h3⟩
theorem law_gives (w : Str) (n : Int) (hn : 1 ≤ n ∧ n ≤ 3) : ∃ m, getD2 [("way", 2)] w (.int n) = some m ∧ 1 ≤ m ∧ m ≤ 3 := by
  unfold getD2 getS getS
  by_cases h2 : ("way" : Str) = w
  · exact ⟨2, by simp [h2], by decide, by decide⟩
  · exact ⟨n, by simp [h2, iD], hn.1, hn.2⟩
/-- what the law's values come to -/
def ruleOf (w : Str) (v : Int) : List D := if w = "fixed" then [.str "fixed", .int v] else [.str w]
theorem law_out (w : Str) (v : Int) (hw : w = "sum" ∨ w = "times" ∨ w = "least" ∨ w = "most" ∨ w = "fixed" ∨ w = "later" ∨ w = "way") (ns : List Int) (g : Int) (hg : 1 ≤ g ∧ g ≤ 3) (hne : 1 ≤ ns.length) (h2 : w = "way" → ns.length = 2) :
    ∃ ys : List (Option Int), outV (ruleOf w v) (ns.map PyData.int) g = some (ys.map encO) := by
  obtain ⟨n0, nr, rfl⟩ : ∃ a r, ns = a :: r := by
    cases ns with
    | nil => simp at hne
    | cons a r => exact ⟨a, r, rfl⟩
  have rep : ∀ i : Int, List.replicate g.toNat (PyData.int i) = (List.replicate g.toNat (some i)).map encO := fun i => by rw [List.map_replicate]; rfl
  have hg' : 0 ≤ g ∧ g ≤ 1000 := ⟨by omega, by omega⟩
  have e1 : ∀ (rule : List D) (i : Int), isWay rule = false → ruleV rule ((n0 :: nr).map PyData.int) = some (.int i) → ∃ ys : List (Option Int), outV rule ((n0 :: nr).map PyData.int) g = some (ys.map encO) := fun rule i h1 h2 => by
    refine ⟨List.replicate g.toNat (some i), ?_⟩
    unfold outV
    rw [h1, if_neg (by decide), h2, ← rep]
    show (if 0 ≤ g ∧ g ≤ 1000 then some (List.replicate g.toNat (PyData.int i)) else none) = _
    rw [if_pos hg']
  have hi : intsD ((n0 :: nr).map PyData.int) = some (n0 :: nr) := intsD_map _
  rcases hw with rfl | rfl | rfl | rfl | rfl | rfl | rfl
  · refine e1 [.str "sum"] ((n0 :: nr).sum % 1000000) (by decide +kernel) ?_
    unfold ruleV
    rw [hi]
    rfl
  · refine e1 [.str "times"] (timesL (n0 :: nr)) (by decide +kernel) ?_
    unfold ruleV
    rw [hi]
    rfl
  · refine e1 [.str "least"] (nr.foldl min n0) (by decide +kernel) ?_
    unfold ruleV
    rw [hi]
    rfl
  · refine e1 [.str "most"] (nr.foldl max n0) (by decide +kernel) ?_
    unfold ruleV
    rw [hi]
    rfl
  · exact e1 [.str "fixed", .int v] v rfl rfl
  · exact e1 [.str "later"] n0 (by decide +kernel) rfl
  · have h3 := h2 rfl
    cases nr with
    | nil => simp at h3
    | cons n1 nr =>
      cases nr with
      | cons _ _ => simp at h3
      | nil =>
        refine ⟨if n1 = 0 then [some n0, none] else [none, some n0], ?_⟩
        have e2 : outV (ruleOf "way" v) ([n0, n1].map PyData.int) g = some (if n1 = 0 then [PyData.int n0, .none] else [.none, .int n0]) := rfl
        rw [e2]
        by_cases h : n1 = 0
        · rw [if_pos h, if_pos h]; rfl
        · rw [if_neg h, if_neg h]; rfl

theorem e_choose (a b c : Int) (v g : Int) (hg : 1 ≤ g ∧ g ≤ 3) (ds : List D) (h : ds = [.int a, .int b, .int c] ∨ (a = 0 ∧ ds = [.int a, .int b, .none]) ∨ (a ≠ 0 ∧ ds = [.int a, .none, .int c])) : ∃ (xs ys : List (Option Int)), ds = xs.map encO ∧ outV (ruleOf "choose" v) ds g = some (ys.map encO) := by
  have hg' : 0 ≤ g ∧ g ≤ 1000 := ⟨by omega, by omega⟩
  have rep : ∀ i : Int, List.replicate g.toNat (PyData.int i) = (List.replicate g.toNat (some i)).map encO := fun i => by rw [List.map_replicate]; rfl
  have e1 : ∀ (ds : List D) (i : Int), ruleV [.str "choose"] ds = some (.int i) → outV (ruleOf "choose" v) ds g = some ((List.replicate g.toNat (some i)).map encO) := fun ds i h2 => by
    have e0 : outV (ruleOf "choose" v) ds g = (ruleV [.str "choose"] ds).bind fun d => if 0 ≤ g ∧ g ≤ 1000 then some (List.replicate g.toNat d) else none := rfl
    rw [e0, h2, ← rep]
    show (if 0 ≤ g ∧ g ≤ 1000 then some (List.replicate g.toNat (PyData.int i)) else none) = _
    rw [if_pos hg']
  have e2 : ∀ ds, ruleV [.str "choose"] ds = choV ds := fun ds => rfl
  rcases h with rfl | ⟨h0, rfl⟩ | ⟨h0, rfl⟩
  · by_cases h : a = 0
    · exact ⟨[some a, some b, some c], _, rfl, e1 _ b (by rw [e2, h]; rfl)⟩
    · refine ⟨[some a, some b, some c], _, rfl, e1 _ c ?_⟩
      rw [e2]
      show (if a = 0 then some (PyData.int b) else some (.int c)) = _
      rw [if_neg h]
  · exact ⟨[some a, some b, none], _, rfl, e1 _ b (by rw [e2, h0]; rfl)⟩
  · refine ⟨[some a, none, some c], _, rfl, e1 _ c ?_⟩
    rw [e2]
    show (if a = 0 then some PyData.none else some (.int c)) = _
    rw [if_neg h0]
/-- a thing that is asked about -/
theorem law_thing (ns : List Int) (a : List Slot) : ∃ d : D, flatD d = true ∧
    mBin fIx (mLst (mACons (mFz (mC (.int 0))) (mACons (mFz (mC (.int 999999))) (mACons (mFz (mC (.int 1000000))) (mACons (mFz (mUn fNeg (mC (.int 1)))) (mACons (mFz (mC (.bool true))) (mACons (mFz (mC (.bool false))) (mACons (mFz (mC .none)) (mACons (mFz (mC (.str "7"))) (mACons (mFz (mBin fPow (mC (.int 10)) (mC (.int 30)))) (mACons (mFz (mC (.int 5))) mANil))))))))))) (mBin fMod (mCallF f_law_cell_at (mACons (mFz (mVar 0)) (mACons (mFz (mC (.int 6))) mANil))) (mC (.int 10))) (L0 ns :: a) = some (.v d, L0 ns :: a) := by
  have hm : mBin fMod (mCallF f_law_cell_at (mACons (mFz (mVar 0)) (mACons (mFz (mC (.int 6))) mANil))) (mC (.int 10)) (L0 ns :: a) = some (.v (.int (C ns 6 % 10)), L0 ns :: a) :=
    bin_v (cell_v rfl rfl (by decide)) rfl rfl
  have go : ∀ d : D, fIx (.list [.int 0, .int 999999, .int 1000000, .int (-1), .bool true, .bool false, .none, .str "7", .int (10 ^ 30), .int 5]) (.int (C ns 6 % 10)) = some (.d d) → flatD d = true → ∃ d : D, flatD d = true ∧
    mBin fIx (mLst (mACons (mFz (mC (.int 0))) (mACons (mFz (mC (.int 999999))) (mACons (mFz (mC (.int 1000000))) (mACons (mFz (mUn fNeg (mC (.int 1)))) (mACons (mFz (mC (.bool true))) (mACons (mFz (mC (.bool false))) (mACons (mFz (mC .none)) (mACons (mFz (mC (.str "7"))) (mACons (mFz (mBin fPow (mC (.int 10)) (mC (.int 30)))) (mACons (mFz (mC (.int 5))) mANil))))))))))) (mBin fMod (mCallF f_law_cell_at (mACons (mFz (mVar 0)) (mACons (mFz (mC (.int 6))) mANil))) (mC (.int 10))) (L0 ns :: a) = some (.v d, L0 ns :: a) := fun d h hf => by
    refine ⟨d, hf, ?_⟩
    show (some (Op.nw (.lst [.int 0, .int 999999, .int 1000000, .int (-1), .bool true, .bool false, .none, .str "7", .int (10 ^ 30), .int 5]), L0 ns :: a)).bind _ = _
    show (mBin fMod (mCallF f_law_cell_at (mACons (mFz (mVar 0)) (mACons (mFz (mC (.int 6))) mANil))) (mC (.int 10)) (L0 ns :: a)).bind _ = _
    rw [hm]
    show (fIx (.list [.int 0, .int 999999, .int 1000000, .int (-1), .bool true, .bool false, .none, .str "7", .int (10 ^ 30), .int 5]) (.int (C ns 6 % 10))).bind _ = _
    rw [h]
    rfl
  have hj : C ns 6 % 10 = 0 ∨ C ns 6 % 10 = 1 ∨ C ns 6 % 10 = 2 ∨ C ns 6 % 10 = 3 ∨ C ns 6 % 10 = 4 ∨ C ns 6 % 10 = 5 ∨ C ns 6 % 10 = 6 ∨ C ns 6 % 10 = 7 ∨ C ns 6 % 10 = 8 ∨ C ns 6 % 10 = 9 := by omega
  rcases hj with hj | hj | hj | hj | hj | hj | hj | hj | hj | hj <;> exact go _ (by rw [hj]; rfl) rfl
theorem ki_int : kitB "int" "int" = some true := by decide +kernel
theorem ki_none : kitB "NoneType" "int" = some false := by decide +kernel
theorem ki_str : kitB "str" "int" = some false := by decide +kernel
theorem ki_bool : kitB "bool" "int" = some true := by decide +kernel
theorem kb_bool : kitB "bool" "bool" = some true := by decide +kernel
theorem law_number {d : D} (hf : flatD d = true) {s : List Slot} (h : s[7]? = some (.fz d)) : mAndV (mUn (fIsi "int") (mVar 7)) (mAndV (mNotV (mUn (fIsi "bool") (mVar 7))) (mAndV (mBin fLe (mC (.int 0)) (mVar 7)) (mBin fLt (mVar 7) (mBin fPow (mC (.int 10)) (mC (.int 6)))))) s = some (.v (.bool (isVal d)), s) := by
  cases d with
  | none => simp [mAndV, mUn, mVar, h, cD, fIsi, tyD, ki_none, Res.op, bD, isVal]
  | bool b => simp [mAndV, mUn, mVar, h, cD, fIsi, tyD, ki_bool, Res.op, bD, mNotV, kb_bool, isVal]
  | int i =>
    by_cases hi : 0 ≤ i
    · simp [mAndV, mUn, mVar, h, cD, fIsi, tyD, ki_int, kb_int, Res.op, bD, mNotV, mBin, mC, fLe, fLt, fI0, fPow, fI, hi, isVal]
    · simp [mAndV, mUn, mVar, h, cD, fIsi, tyD, ki_int, kb_int, Res.op, bD, mNotV, mBin, mC, fLe, fLt, fI0, fPow, fI, hi, isVal]
  | str x => simp [mAndV, mUn, mVar, h, cD, fIsi, tyD, ki_str, Res.op, bD, isVal]
  | _ => cases hf

end K01

set_option Elab.async false
set_option linter.all false
set_option maxRecDepth 100000
set_option maxHeartbeats 4000000
namespace K01
open PySem L2 Sh
structure Txt (K : PySem.W.Frag) (mg : Str → Option Value) : Prop where
  b_bool : mg "bool" = none
  b_int : mg "int" = none
  b_isinstance : mg "isinstance" = none
  b_len : mg "len" = none
  b_list : mg "list" = none
  b_max : mg "max" = none
  b_min : mg "min" = none
  b_range : mg "range" = none
  b_sorted : mg "sorted" = none
  b_sum : mg "sum" = none
  c_MILLION : ∃ t, mg "MILLION" = some (.int 1000000 t)
section
variable {P : Program} {w : World} {K : PySem.W.Frag} {mg : Str → Option Value} {base : Heap} {c : Cfg K}
theorem ok_is_whole {f : Addr} {fd : FuncData} (F : Fun K "is_whole" "is_whole" s_is_whole f fd) (Z : Txt K mg) : FnOk P w K mg base CX0 1 f fd ["thing"] (spF c 1 (bodyF 1 m_is_whole)) :=
  fn_sem (m := m_is_whole) F sc_is_whole rfl rfl (fun cdv A outer s H E hr =>
    (shs_one (shs_ret (she_and (L2.PE.imp (pe_callB call_isi (by rfl) Z.b_isinstance bb_isinstance (pa_cons (she_var 0 (pv 0)) (pa_cons (pe_bltn (v := .ty "int") (by rfl) Z.b_int bb_int rfl) pa_nil))) (fun _ _ _ h => lift_isi h)) (she_one (she_not (L2.PE.imp (pe_callB call_isi (by rfl) Z.b_isinstance bb_isinstance (pa_cons (she_var 0 (pv 0)) (pa_cons (pe_bltn (v := .ty "bool") (by rfl) Z.b_bool bb_bool rfl) pa_nil))) (fun _ _ _ h => lift_isi h))))))))
theorem ok_is_value {f : Addr} {fd : FuncData} (F : Fun K "is_value" "is_value" s_is_value f fd) (Z : Txt K mg) (G_is_whole : Fn P w K mg base c 1 "is_whole" 1 f_is_whole) : FnOk P w K mg base CX0 2 f fd ["thing"] (spF c 1 (bodyF 1 m_is_value)) :=
  fn_sem (m := m_is_value) F sc_is_value rfl rfl (fun cdv A outer s H E hr =>
    (shs_one (shs_ret (she_and (she_call (G_is_whole.mono (by decide)) hr (by rfl) (sha_cons (she_fz (she_var 0 (pv 0))) sha_nil) (len_cons len_nil)) (she_one (she_chain op_le op_lt sem_le sem_lt hint_fLe she_int (she_var 0 (pv 0)) (she_c (d := .int 1000000) (pe_glob (v := V.int 1000000) rfl Z.c_MILLION.choose_spec ⟨_, rfl⟩) (fun _ => .int _)) (nomark _) (nomark _) (pe_chain op_le op_lt she_int (she_var 0 (pv 0)) (she_c (d := .int 1000000) (pe_glob (v := V.int 1000000) rfl Z.c_MILLION.choose_spec ⟨_, rfl⟩) (fun _ => .int _)))))))))
theorem ok_last_figures {f : Addr} {fd : FuncData} (F : Fun K "last_figures" "last_figures" s_last_figures f fd) (Z : Txt K mg) : FnOk P w K mg base CX0 1 f fd ["number"] (spF c 1 (bodyF 1 m_last_figures)) :=
  fn_sem (m := m_last_figures) F sc_last_figures rfl rfl (fun cdv A outer s H E hr =>
    (shs_one (shs_ret (she_op op_mod sem_mod (she_var 0 (pv 0)) (she_c (d := .int 1000000) (pe_glob (v := V.int 1000000) rfl Z.c_MILLION.choose_spec ⟨_, rfl⟩) (fun _ => .int _))))))
theorem ok_sum_of {f : Addr} {fd : FuncData} (F : Fun K "sum_of" "sum_of" s_sum_of f fd) (Z : Txt K mg) (G_last_figures : Fn P w K mg base c 1 "last_figures" 1 f_last_figures) : FnOk P w K mg base CX0 2 f fd ["values"] (spF c 1 (bodyF 1 m_sum_of)) :=
  fn_sem (m := m_sum_of) F sc_sum_of rfl rfl (fun cdv A outer s H E hr =>
    (shs_one (shs_ret (she_call (G_last_figures.mono (by decide)) hr (by rfl) (sha_cons (she_fz (L2.PE.imp (pe_callB (cr_sum rfl) (by rfl) Z.b_sum bb_sum (sha_cons (she_var 0 (pv 0)) sha_nil)) (fun _ _ _ h => lift_call sem_sum h))) sha_nil) (len_cons len_nil)))))
theorem ok_product_of {f : Addr} {fd : FuncData} (F : Fun K "product_of" "product_of" s_product_of f fd) (Z : Txt K mg) (G_last_figures : Fn P w K mg base c 1 "last_figures" 1 f_last_figures) : FnOk P w K mg base CX0 2 f fd ["values"] (spF c 1 (bodyF 3 m_product_of)) :=
  fn_sem (m := m_product_of) F sc_product_of rfl rfl (fun cdv A outer s H E hr =>
    (shs_cons (shs_set (i := 1) sc_product_of.nd rfl (Or.inl rfl) she_int)
    (shs_cons (L2.PS.imp (ps_for PassesOwn.never rfl (pi_seq (she_fz (she_var 0 (pv 0)))) (pg_name (i := 2) sc_product_of.nd rfl (Or.inl rfl)) (shs_one (shs_set (i := 1) sc_product_of.nd rfl (Or.inl rfl) (she_call (G_last_figures.mono (by decide)) hr (by rfl) (sha_cons (she_fz (she_op op_mul sem_mulI (she_var 1 (pv 1)) (she_var 2 (pv 2)))) sha_nil) (len_cons len_nil))))) (fun _ _ _ h => lift_forS (tgt_name 2) h))
    (shs_one (shs_ret (she_var 1 (pv 1)))))))
theorem ok_least_of {f : Addr} {fd : FuncData} (F : Fun K "least_of" "least_of" s_least_of f fd) (Z : Txt K mg) : FnOk P w K mg base CX0 1 f fd ["values"] (spF c 1 (bodyF 1 m_least_of)) :=
  fn_sem (m := m_least_of) F sc_least_of rfl rfl (fun cdv A outer s H E hr =>
    (shs_one (shs_ret (L2.PE.imp (pe_callB (cr_min rfl) (by rfl) Z.b_min bb_min (sha_cons (she_var 0 (pv 0)) sha_nil)) (fun _ _ _ h => lift_call sem_min h)))))
theorem ok_most_of {f : Addr} {fd : FuncData} (F : Fun K "most_of" "most_of" s_most_of f fd) (Z : Txt K mg) : FnOk P w K mg base CX0 1 f fd ["values"] (spF c 1 (bodyF 1 m_most_of)) :=
  fn_sem (m := m_most_of) F sc_most_of rfl rfl (fun cdv A outer s H E hr =>
    (shs_one (shs_ret (L2.PE.imp (pe_callB (cr_max rfl) (by rfl) Z.b_max bb_max (sha_cons (she_var 0 (pv 0)) sha_nil)) (fun _ _ _ h => lift_call sem_max h)))))
theorem ok_first_of {f : Addr} {fd : FuncData} (F : Fun K "first_of" "first_of" s_first_of f fd) (Z : Txt K mg) : FnOk P w K mg base CX0 1 f fd ["values"] (spF c 1 (bodyF 1 m_first_of)) :=
  fn_sem (m := m_first_of) F sc_first_of rfl rfl (fun cdv A outer s H E hr =>
    (shs_one (shs_ret (she_ix ix_all sem_ix (she_var 0 (pv 0)) she_int (fun _ _ => rfl)))))
theorem ok_chosen_at {f : Addr} {fd : FuncData} (F : Fun K "chosen_at" "chosen_at" s_chosen_at f fd) (Z : Txt K mg) : FnOk P w K mg base CX0 1 f fd ["first"] (spF c 1 (bodyF 1 m_chosen_at)) :=
  fn_sem (m := m_chosen_at) F sc_chosen_at rfl rfl (fun cdv A outer s H E hr =>
    (shs_one (shs_ret (she_ifExp (sht_cmp (op_eqA hr.units) sem_eq (she_var 0 (pv 0)) she_int (nomark _)) she_int she_int))))
theorem ok_chosen_of {f : Addr} {fd : FuncData} (F : Fun K "chosen_of" "chosen_of" s_chosen_of f fd) (Z : Txt K mg) (G_chosen_at : Fn P w K mg base c 1 "chosen_at" 1 f_chosen_at) : FnOk P w K mg base CX0 2 f fd ["values"] (spF c 1 (bodyF 1 m_chosen_of)) :=
  fn_sem (m := m_chosen_of) F sc_chosen_of rfl rfl (fun cdv A outer s H E hr =>
    (shs_one (shs_ret (she_ix ix_all sem_ix (she_var 0 (pv 0)) (she_call (G_chosen_at.mono (by decide)) hr (by rfl) (sha_cons (she_fz (she_ix ix_all sem_ix (she_var 0 (pv 0)) she_int (fun _ _ => rfl))) sha_nil) (len_cons len_nil)) (fun _ _ => rfl)))))
theorem ok_way_of {f : Addr} {fd : FuncData} (F : Fun K "way_of" "way_of" s_way_of f fd) (Z : Txt K mg) : FnOk P w K mg base CX0 1 f fd ["values"] (spF c 1 (bodyF 1 m_way_of)) :=
  fn_sem (m := m_way_of) F sc_way_of rfl rfl (fun cdv A outer s H E hr =>
    (shs_cons (shs_if (sht_cmp (op_eqA hr.units) sem_eq (she_ix ix_all sem_ix (she_var 0 (pv 0)) she_int (fun _ _ => rfl)) she_int (nomark _)) (shs_one (shs_ret (she_lst (sha_cons (she_fz (she_ix ix_all sem_ix (she_var 0 (pv 0)) she_int (fun _ _ => rfl))) (sha_cons (she_fz she_non) sha_nil))))) shs_nil)
    (shs_one (shs_ret (she_lst (sha_cons (she_fz she_non) (sha_cons (she_fz (she_ix ix_all sem_ix (she_var 0 (pv 0)) she_int (fun _ _ => rfl))) sha_nil)))))))
theorem ok_outcome {f : Addr} {fd : FuncData} (F : Fun K "outcome" "outcome" s_outcome f fd) (Z : Txt K mg) (G_same_for_all : Fn P w K mg base c 3 "same_for_all" 2 f_same_for_all) (G_way_of : Fn P w K mg base c 1 "way_of" 1 f_way_of) : FnOk P w K mg base CX0 4 f fd ["rule", "values", "many"] (spF c 3 (bodyF 3 m_outcome)) :=
  fn_sem (m := m_outcome) F sc_outcome rfl rfl (fun cdv A outer s H E hr =>
    (shs_cons (shs_if (sht_cmp (op_eqA hr.units) sem_eq (she_ix ix_all sem_ix (she_var 0 (pv 0)) she_int (fun _ _ => rfl)) she_str (nomark _)) (shs_one (shs_ret (she_call (G_way_of.mono (by decide)) hr (by rfl) (sha_cons (she_fz (she_var 1 (pv 1))) sha_nil) (len_cons len_nil)))) shs_nil)
    (shs_one (shs_ret (she_rep (she_lst (sha_cons (she_fz (she_call (G_same_for_all.mono (by decide)) hr (by rfl) (sha_cons (she_fz (she_var 0 (pv 0))) (sha_cons (she_fz (she_var 1 (pv 1))) sha_nil)) (len_cons (len_cons len_nil)))) sha_nil)) (she_var 2 (pv 2)))))))
theorem ok_law_cell_at {f : Addr} {fd : FuncData} (F : Fun K "_law_cell_at" "_law_cell_at" s_law_cell_at f fd) (Z : Txt K mg) : FnOk P w K mg base CX0 1 f fd ["_law_script", "_law_k"] (spF c 2 (bodyF 2 m_law_cell_at)) :=
  fn_sem (m := m_law_cell_at) F sc_law_cell_at rfl rfl (fun cdv A outer s H E hr =>
    (shs_cons (shs_if (sht_cmp op_lt sem_lt (she_var 1 (pv 1)) (L2.PE.imp (pe_callB call_lenA (by rfl) Z.b_len bb_len (sha_cons (she_var 0 (pv 0)) sha_nil)) (fun _ _ _ h => lift_call sem_len h)) (nomark _)) (shs_one (shs_ret (she_ix ix_all sem_ix (she_var 0 (pv 0)) (she_var 1 (pv 1)) (fun _ _ => rfl)))) shs_nil)
    (shs_one (shs_ret she_int))))
theorem ok_law_value {f : Addr} {fd : FuncData} (F : Fun K "_law_value" "_law_value" s_law_value f fd) (Z : Txt K mg) : FnOk P w K mg base CX0 1 f fd ["_law_pick"] (spF c 1 (bodyF 1 m_law_value)) :=
  fn_sem (m := m_law_value) F sc_law_value rfl rfl (fun cdv A outer s H E hr =>
    (shs_cons (shs_if (sht_cmp (op_eqA hr.units) sem_eq (she_op op_mod sem_mod (she_var 0 (pv 0)) she_int) she_int (nomark _)) (shs_one (shs_ret (she_ix ix_all sem_ix (she_lst (sha_cons (she_fz she_int) (sha_cons (she_fz she_int) (sha_cons (she_fz she_int) (sha_cons (she_fz she_int) sha_nil))))) (she_op op_mod sem_mod (she_op op_fdiv sem_div (she_var 0 (pv 0)) she_int) she_int) (fun _ _ => rfl)))) shs_nil)
    (shs_cons (shs_if (sht_cmp (op_eqA hr.units) sem_eq (she_op op_mod sem_mod (she_var 0 (pv 0)) she_int) she_int (nomark _)) (shs_one (shs_ret (she_op op_mod sem_mod (she_op op_fdiv sem_div (she_var 0 (pv 0)) she_int) (she_op op_pow sem_pow she_int she_int)))) shs_nil)
    (shs_one (shs_ret (she_op op_mod sem_mod (she_op op_fdiv sem_div (she_var 0 (pv 0)) she_int) she_int))))))
theorem ok_law_given {f : Addr} {fd : FuncData} (F : Fun K "_law_given" "_law_given" s_law_given f fd) (Z : Txt K mg) : FnOk P w K mg base CX0 1 f fd ["_law_rule", "_law_values", "_law_many"] (spF c 3 (bodyF 6 m_law_given)) :=
  fn_sem (m := m_law_given) F sc_law_given rfl rfl (fun cdv A outer s H E hr =>
    (shs_cons (shs_if (sht_cmp (op_eqA hr.units) sem_eq (she_ix ix_all sem_ix (she_var 0 (pv 0)) she_int (fun _ _ => rfl)) she_str (nomark _)) (shs_one (shs_ret (she_ix ix_all sem_ix (she_lst (sha_cons (she_fz (she_lst (sha_cons (she_fz (she_ix ix_all sem_ix (she_var 1 (pv 1)) she_int (fun _ _ => rfl))) (sha_cons (she_fz she_non) sha_nil)))) (sha_cons (she_fz (she_lst (sha_cons (she_fz she_non) (sha_cons (she_fz (she_ix ix_all sem_ix (she_var 1 (pv 1)) she_int (fun _ _ => rfl))) sha_nil)))) sha_nil))) (L2.PE.imp (pe_callTy call_int1 (by rfl) Z.b_int bb_int (sha_cons (she_cmp (op_neA hr.units) sem_ne (she_ix ix_all sem_ix (she_var 1 (pv 1)) she_int (fun _ _ => rfl)) she_int (nomark _)) sha_nil)) (fun _ _ _ h => lift_call sem_int h)) (fun _ _ => rfl)))) shs_nil)
    (shs_cons (shs_set (i := 3) sc_law_given.nd rfl (Or.inr rfl) (she_ix ix_all sem_ix (she_var 1 (pv 1)) she_int (fun _ _ => rfl)))
    (shs_cons (shs_if (sht_cmp (op_eqA hr.units) sem_eq (she_ix ix_all sem_ix (she_var 0 (pv 0)) she_int (fun _ _ => rfl)) she_str (nomark _)) (shs_one (shs_set (i := 3) sc_law_given.nd rfl (Or.inr rfl) (she_op op_mod sem_mod (L2.PE.imp (pe_callB (cr_sum rfl) (by rfl) Z.b_sum bb_sum (sha_cons (she_var 1 (pv 1)) sha_nil)) (fun _ _ _ h => lift_call sem_sum h)) (she_op op_pow sem_pow she_int she_int)))) shs_nil)
    (shs_cons (shs_if (sht_cmp (op_eqA hr.units) sem_eq (she_ix ix_all sem_ix (she_var 0 (pv 0)) she_int (fun _ _ => rfl)) she_str (nomark _)) (shs_cons (shs_set (i := 3) sc_law_given.nd rfl (Or.inr rfl) she_int)
    (shs_one (L2.PS.imp (ps_for PassesOwn.never rfl (pi_seq (she_fz (she_var 1 (pv 1)))) (pg_name (i := 4) sc_law_given.nd rfl (Or.inl rfl)) (shs_one (shs_set (i := 3) sc_law_given.nd rfl (Or.inr rfl) (she_op op_mod sem_mod (she_op op_mul sem_mulI (she_var 3 (pv 3)) (she_var 4 (pv 4))) (she_op op_pow sem_pow she_int she_int))))) (fun _ _ _ h => lift_forS (tgt_name 4) h)))) shs_nil)
    (shs_cons (shs_if (sht_cmp op_in_seq sem_in (she_ix ix_all sem_ix (she_var 0 (pv 0)) she_int (fun _ _ => rfl)) (she_tup (sha_cons (she_fz she_str) (sha_cons (she_fz she_str) sha_nil))) (by rfl)) (shs_one (shs_set (i := 3) sc_law_given.nd rfl (Or.inr rfl) (she_ix ix_all sem_ix (L2.PE.imp (pe_callB cr_sortedI (by rfl) Z.b_sorted bb_sorted (sha_cons (she_var 1 (pv 1)) sha_nil)) (fun _ _ _ h => lift_call sem_sorted h)) (she_ix ix_all sem_ix (she_lst (sha_cons (she_fz she_int) (sha_cons (she_fz (she_un un_neg sem_neg she_int)) sha_nil))) (L2.PE.imp (pe_callTy call_int1 (by rfl) Z.b_int bb_int (sha_cons (she_cmp (op_eqA hr.units) sem_eq (she_ix ix_all sem_ix (she_var 0 (pv 0)) she_int (fun _ _ => rfl)) she_str (nomark _)) sha_nil)) (fun _ _ _ h => lift_call sem_int h)) (fun _ _ => rfl)) (fun _ _ => rfl)))) shs_nil)
    (shs_cons (shs_if (sht_cmp (op_eqA hr.units) sem_eq (she_ix ix_all sem_ix (she_var 0 (pv 0)) she_int (fun _ _ => rfl)) she_str (nomark _)) (shs_one (shs_set (i := 3) sc_law_given.nd rfl (Or.inr rfl) (she_ix ix_all sem_ix (she_var 0 (pv 0)) she_int (fun _ _ => rfl)))) shs_nil)
    (shs_cons (shs_if (sht_cmp (op_eqA hr.units) sem_eq (she_ix ix_all sem_ix (she_var 0 (pv 0)) she_int (fun _ _ => rfl)) she_str (nomark _)) (shs_one (shs_set (i := 3) sc_law_given.nd rfl (Or.inr rfl) (she_ix ix_all sem_ix (she_var 1 (pv 1)) (she_op op_addU sem_add she_int (L2.PE.imp (pe_callTy call_int1 (by rfl) Z.b_int bb_int (sha_cons (she_cmp (op_neA hr.units) sem_ne (she_ix ix_all sem_ix (she_var 1 (pv 1)) she_int (fun _ _ => rfl)) she_int (nomark _)) sha_nil)) (fun _ _ _ h => lift_call sem_int h))) (fun _ _ => rfl)))) shs_nil)
    (shs_one (shs_ret (L2.PE.imp (pe_lc (own := [("_law_k", 5)]) rfl sc_law_given.nd (pi_range1 (by rfl) Z.b_range (sha_cons (she_var 2 (pv 2)) sha_nil)) (blkOk_by (own := [("_law_k", 5)]) (N := ["_law_rule", "_law_values", "_law_many", "_law_found", "_law_value_here", "_law_k"]) (sc := defScope s_law_given) (by decide +kernel)) (fun _ _ _ _ _ => (pg_name (i := 5) sc_law_given.nd rfl (Or.inl rfl))) (fun _ _ _ _ _ => shts_nil) (fun _ _ _ _ _ => she_fz (she_var 3 (pv 3)))) (fun _ _ _ h => lift_lcR1 (tgc_name 5) (by decide) h))))))))))))
theorem ok_law_same {f : Addr} {fd : FuncData} (F : Fun K "_law_same" "_law_same" s_law_same f fd) (Z : Txt K mg) : FnOk P w K mg base CX0 1 f fd ["_law_found", "_law_due"] (spF c 2 (bodyF 3 m_law_same)) :=
  fn_sem (m := m_law_same) F sc_law_same rfl rfl (fun cdv A outer s H E hr =>
    (shs_cons (shs_if (PW.pt (shw_or (sht_not (sht_val (L2.PE.imp (pe_callB call_isi (by rfl) Z.b_isinstance bb_isinstance (pa_cons (she_var 0 (pv 0)) (pa_cons (pe_bltn (v := .ty "list") (by rfl) Z.b_list bb_list rfl) pa_nil))) (fun _ _ _ h => lift_isi h)))) (shw_or1 (sht_cmp (op_neA hr.units) sem_ne (she_var 0 (pv 0)) (she_var 1 (pv 1)) (nomark _))))) (shs_one (shs_ret she_bl)) shs_nil)
    (shs_one (shs_ret (she_cmp (op_eqA hr.units) sem_eq (L2.PE.imp (pe_callB call_lenA (by rfl) Z.b_len bb_len (sha_cons (L2.PE.imp (pe_lc (own := [("_law_one", 2)]) rfl sc_law_same.nd (pi_seq (she_fz (she_var 0 (pv 0)))) (blkOk_by (own := [("_law_one", 2)]) (N := ["_law_found", "_law_due", "_law_one"]) (sc := defScope s_law_same) (by decide +kernel)) (fun _ _ _ _ _ => (pg_name (i := 2) sc_law_same.nd rfl (Or.inl rfl))) (fun _ _ _ _ _ => (shts_one (sht_val (L2.PE.imp (pe_callB call_isi (by rfl) Z.b_isinstance bb_isinstance (pa_cons (she_var 2 (pv 2)) (pa_cons (pe_bltn (v := .ty "bool") (by rfl) Z.b_bool bb_bool rfl) pa_nil))) (fun _ _ _ h => lift_isi h))))) (fun _ _ _ _ _ => she_fz (she_var 2 (pv 2)))) (fun _ _ _ h => lift_lcS (tgc_name 2) (by decide) h)) sha_nil)) (fun _ _ _ h => lift_call sem_len h)) she_int (nomark _))))))
theorem ok_law {f : Addr} {fd : FuncData} (F : Fun K "law" "law" s_law f fd) (Z : Txt K mg) (G_law_cell_at : Fn P w K mg base c 1 "_law_cell_at" 2 f_law_cell_at) (G_law_given : Fn P w K mg base c 1 "_law_given" 3 f_law_given) (G_law_same : Fn P w K mg base c 1 "_law_same" 2 f_law_same) (G_law_value : Fn P w K mg base c 1 "_law_value" 1 f_law_value) (G_is_value : Fn P w K mg base c 2 "is_value" 1 f_is_value) (G_outcome : Fn P w K mg base c 4 "outcome" 3 f_outcome) : FnOk P w K mg base CX0 5 f fd ["_law_script"] (spF c 1 (bodyF 14 m_law)) :=
  fn_sem (m := m_law) F sc_law rfl rfl (fun cdv A outer s H E hr =>
    (shs_cons (shs_set (i := 1) sc_law.nd rfl (Or.inl rfl) (she_ix ix_all sem_ix (she_lst (sha_cons (she_fz she_str) (sha_cons (she_fz she_str) (sha_cons (she_fz she_str) (sha_cons (she_fz she_str) (sha_cons (she_fz she_str) (sha_cons (she_fz she_str) (sha_cons (she_fz she_str) (sha_cons (she_fz she_str) sha_nil))))))))) (she_op op_mod sem_mod (she_call (G_law_cell_at.mono (by decide)) hr (by rfl) (sha_cons (she_fz (she_var 0 (pv 0))) (sha_cons (she_fz she_int) sha_nil)) (len_cons (len_cons len_nil))) she_int) (fun _ _ => rfl)))
    (shs_cons (shs_set (i := 2) sc_law.nd rfl (Or.inl rfl) (she_tup (sha_cons (she_fz (she_var 1 (pv 1))) sha_nil)))
    (shs_cons (shs_if (sht_cmp (op_eqA hr.units) sem_eq (she_var 1 (pv 1)) she_str (nomark _)) (shs_one (shs_set (i := 2) sc_law.nd rfl (Or.inl rfl) (she_tup (sha_cons (she_fz she_str) (sha_cons (she_fz (she_call (G_law_value.mono (by decide)) hr (by rfl) (sha_cons (she_fz (she_call (G_law_cell_at.mono (by decide)) hr (by rfl) (sha_cons (she_fz (she_var 0 (pv 0))) (sha_cons (she_fz she_int) sha_nil)) (len_cons (len_cons len_nil)))) sha_nil) (len_cons len_nil))) sha_nil))))) shs_nil)
    (shs_cons (shs_set (i := 3) sc_law.nd rfl (Or.inl rfl) (L2.PE.imp (pe_dget2 (hu_of hr) (pe_disp (trs := trK [("later", 1), ("way", 2), ("choose", 3)]) (pps_cons pe_str pe_int (pps_cons pe_str pe_int (pps_cons pe_str pe_int pps_nil))) (by rfl) (by rfl) (fun z => by cases z) (by decide)) (she_var 1 (pv 1)) (she_op op_addU sem_add she_int (she_op op_mod sem_mod (she_op op_fdiv sem_div (she_call (G_law_cell_at.mono (by decide)) hr (by rfl) (sha_cons (she_fz (she_var 0 (pv 0))) (sha_cons (she_fz she_int) sha_nil)) (len_cons (len_cons len_nil))) she_int) she_int)) ⟨rfl, rfl, rfl, rfl⟩) (fun _ _ _ h => lift_getS (by decide +kernel) (by decide) h)))
    (shs_cons (shs_set (i := 4) sc_law.nd rfl (Or.inl rfl) (L2.PE.imp (pe_dget2 (hu_of hr) (pe_disp (trs := trK [("way", 2)]) (pps_cons pe_str pe_int pps_nil) (by rfl) (by rfl) (fun z => by cases z) (by decide)) (she_var 1 (pv 1)) (she_op op_addU sem_add she_int (she_op op_mod sem_mod (she_op op_fdiv sem_div (she_call (G_law_cell_at.mono (by decide)) hr (by rfl) (sha_cons (she_fz (she_var 0 (pv 0))) (sha_cons (she_fz she_int) sha_nil)) (len_cons (len_cons len_nil))) she_int) she_int)) ⟨rfl, rfl, rfl, rfl⟩) (fun _ _ _ h => lift_getS (by decide +kernel) (by decide) h)))
    (shs_cons (L2.PS.imp (ps_setLc (i := 5) (own := [("_law_k", 13)]) rfl sc_law.nd rfl rfl (sw_true rfl rfl rfl (by decide +kernel)) (pi_range1 (by rfl) Z.b_range (sha_cons (she_var 3 (pv 3)) sha_nil)) (blkOk_by (own := [("_law_k", 13)]) (N := ["_law_script", "_law_word", "_law_rule", "_law_many", "_law_gives", "_law_values", "_law_due", "_law_thing", "_law_number", "_law_held", "_law_turn", "_law_handed", "_law_told", "_law_k"]) (sc := defScope s_law) (by decide +kernel)) (fun _ _ _ _ _ => (pg_name (i := 13) sc_law.nd rfl (Or.inl rfl))) (fun _ _ _ _ _ => shts_nil) (fun _ _ _ _ _ => she_fz (she_call (G_law_value.mono (by decide)) hr (by rfl) (sha_cons (she_fz (she_call (G_law_cell_at.mono (by decide)) hr (by rfl) (sha_cons (she_fz (she_var 0 (pv 0))) (sha_cons (she_fz (she_op op_addU sem_add she_int (she_var 13 (pv 13)))) sha_nil)) (len_cons (len_cons len_nil)))) sha_nil) (len_cons len_nil)))) (fun _ _ _ h => lift_lcR1 (tgc_name 13) (by decide) (lift_asg h)))
    (shs_cons (shs_if (PW.pt (shw_and (sht_cmp (op_eqA hr.units) sem_eq (she_var 1 (pv 1)) she_str (nomark _)) (shw_and1 (sht_cmp (op_eqA hr.units) sem_eq (she_op op_mod sem_mod (she_call (G_law_cell_at.mono (by decide)) hr (by rfl) (sha_cons (she_fz (she_var 0 (pv 0))) (sha_cons (she_fz she_int) sha_nil)) (len_cons (len_cons len_nil))) she_int) she_int (nomark _))))) (shs_one (L2.PS.imp (ps_asg (she_fz she_non) (pg_sub (pv 5) (she_op op_addU sem_add she_int (L2.PE.imp (pe_callTy call_int1 (by rfl) Z.b_int bb_int (sha_cons (she_cmp (op_eqA hr.units) sem_eq (she_ix ix_all sem_ix (she_var 5 (pv 5)) she_int (fun _ _ => rfl)) she_int (nomark _)) sha_nil)) (fun _ _ _ h => lift_call sem_int h))) set_list)) (fun _ _ _ h => lift_setI h))) shs_nil)
    (shs_cons (shs_set (i := 6) sc_law.nd rfl (Or.inl rfl) (she_call (G_law_given.mono (by decide)) hr (by rfl) (sha_cons (she_fz (she_var 2 (pv 2))) (sha_cons (she_fz (she_var 5 (pv 5))) (sha_cons (she_fz (she_var 4 (pv 4))) sha_nil))) (len_cons (len_cons (len_cons len_nil)))))
    (shs_cons (shs_set (i := 7) sc_law.nd rfl (Or.inl rfl) (she_ix ix_all sem_ix (she_lst (sha_cons (she_fz she_int) (sha_cons (she_fz she_int) (sha_cons (she_fz she_int) (sha_cons (she_fz (she_un un_neg sem_neg she_int)) (sha_cons (she_fz she_bl) (sha_cons (she_fz she_bl) (sha_cons (she_fz she_non) (sha_cons (she_fz she_str) (sha_cons (she_fz (she_op op_pow sem_pow she_int she_int)) (sha_cons (she_fz she_int) sha_nil))))))))))) (she_op op_mod sem_mod (she_call (G_law_cell_at.mono (by decide)) hr (by rfl) (sha_cons (she_fz (she_var 0 (pv 0))) (sha_cons (she_fz she_int) sha_nil)) (len_cons (len_cons len_nil))) she_int) (fun _ _ => rfl)))
    (shs_cons (shs_if (sht_cmp (op_eqA hr.units) sem_eq (she_op op_mod sem_mod (she_op op_fdiv sem_div (she_call (G_law_cell_at.mono (by decide)) hr (by rfl) (sha_cons (she_fz (she_var 0 (pv 0))) (sha_cons (she_fz she_int) sha_nil)) (len_cons (len_cons len_nil))) she_int) she_int) she_int (nomark _)) (shs_one (shs_set (i := 7) sc_law.nd rfl (Or.inl rfl) (she_call (G_law_cell_at.mono (by decide)) hr (by rfl) (sha_cons (she_fz (she_var 0 (pv 0))) (sha_cons (she_fz she_int) sha_nil)) (len_cons (len_cons len_nil))))) shs_nil)
    (shs_cons (shs_set (i := 8) sc_law.nd rfl (Or.inl rfl) (she_and (L2.PE.imp (pe_callB call_isi (by rfl) Z.b_isinstance bb_isinstance (pa_cons (she_var 7 (pv 7)) (pa_cons (pe_bltn (v := .ty "int") (by rfl) Z.b_int bb_int rfl) pa_nil))) (fun _ _ _ h => lift_isi h)) (she_and (she_not (L2.PE.imp (pe_callB call_isi (by rfl) Z.b_isinstance bb_isinstance (pa_cons (she_var 7 (pv 7)) (pa_cons (pe_bltn (v := .ty "bool") (by rfl) Z.b_bool bb_bool rfl) pa_nil))) (fun _ _ _ h => lift_isi h))) (she_and (she_cmp op_le sem_le she_int (she_var 7 (pv 7)) (nomark _)) (she_one (she_cmp op_lt sem_lt (she_var 7 (pv 7)) (she_op op_pow sem_pow she_int she_int) (nomark _)))))))
    (shs_cons (shs_set (i := 9) sc_law.nd rfl (Or.inl rfl) (she_lst sha_nil))
    (shs_cons (shs_forR1 PassesOwn.never rfl (by rfl) Z.b_range she_int (pg_name (i := 10) sc_law.nd rfl (Or.inl rfl)) (tgt_name 10) (shs_cons (shs_set (i := 11) sc_law.nd rfl (Or.inl rfl) (L2.PE.imp (pe_callTy call_list_of (by rfl) Z.b_list bb_list (sha_cons (she_var 5 (pv 5)) sha_nil)) (fun _ _ _ h => lift_call sem_list h)))
    (shs_cons (shs_set (i := 12) sc_law.nd rfl (Or.inl rfl) (she_call (G_outcome.mono (by decide)) hr (by rfl) (sha_cons (she_fz (she_var 2 (pv 2))) (sha_cons (she_fz (she_var 11 (pv 11))) (sha_cons (she_fz (she_var 4 (pv 4))) sha_nil))) (len_cons (len_cons (len_cons len_nil)))))
    (shs_cons (shs_if (PW.pt (shw_or (sht_not (sht_val (she_call (G_law_same.mono (by decide)) hr (by rfl) (sha_cons (she_fz (she_var 12 (pv 12))) (sha_cons (she_fz (she_var 6 (pv 6))) sha_nil)) (len_cons (len_cons len_nil))))) (shw_or1 (sht_cmp (op_neA hr.units) sem_ne (she_var 11 (pv 11)) (she_var 5 (pv 5)) (nomark _))))) (shs_one (shs_ret she_bl)) shs_nil)
    (shs_cons (shs_expr (L2.PE.imp (pe_bm PySem.F.plainAttrs_list PySem.F.slot_list_append PySem.F.type_list_append mt_append (pv 9) (pa_cons (she_fz (she_tup (sha_cons (she_fz (she_var 12 (pv 12))) (sha_cons (she_fz (L2.PE.imp (pe_callTy call_list_of (by rfl) Z.b_list bb_list (sha_cons (she_var 12 (pv 12)) sha_nil)) (fun _ _ _ h => lift_call sem_list h))) sha_nil)))) pa_nil)) (fun _ _ _ h => lift_app h)))
    (shs_cons (shs_set (i := 12) sc_law.nd rfl (Or.inl rfl) (she_call (G_is_value.mono (by decide)) hr (by rfl) (sha_cons (she_fz (she_var 7 (pv 7))) sha_nil) (len_cons len_nil)))
    (shs_one (shs_if (PW.pt (shw_or (sht_not (sht_val (L2.PE.imp (pe_callB call_isi (by rfl) Z.b_isinstance bb_isinstance (pa_cons (she_var 12 (pv 12)) (pa_cons (pe_bltn (v := .ty "bool") (by rfl) Z.b_bool bb_bool rfl) pa_nil))) (fun _ _ _ h => lift_isi h)))) (shw_or (sht_cmp (op_neA hr.units) sem_ne (she_var 12 (pv 12)) (she_var 8 (pv 8)) (nomark _)) (shw_or1 (sht_cmp (op_neA hr.units) sem_ne (she_call (G_outcome.mono (by decide)) hr (by rfl) (sha_cons (she_fz (she_tup (sha_cons (she_fz she_str) (sha_cons (she_fz she_int) sha_nil)))) (sha_cons (she_fz (she_lst (sha_cons (she_fz she_int) sha_nil))) (sha_cons (she_fz she_int) sha_nil))) (len_cons (len_cons (len_cons len_nil)))) (she_lst (sha_cons (she_fz she_int) (sha_cons (she_fz she_int) sha_nil))) (nomark _)))))) (shs_one (shs_ret she_bl)) shs_nil))))))))
    (shs_one (shs_ret (she_and (she_cmp (op_eqA hr.units) sem_eq (she_ix ix_all sem_ix (she_ix ix_all sem_ix (she_var 9 (pv 9)) she_int (fun _ _ => rfl)) she_int (fun _ _ => rfl)) (she_ix ix_all sem_ix (she_ix ix_all sem_ix (she_var 9 (pv 9)) she_int (fun _ _ => rfl)) she_int (fun _ _ => rfl)) (nomark _)) (she_one (she_cmp (op_eqA hr.units) sem_eq (she_ix ix_all sem_ix (she_ix ix_all sem_ix (she_var 9 (pv 9)) she_int (fun _ _ => rfl)) she_int (fun _ _ => rfl)) (she_ix ix_all sem_ix (she_ix ix_all sem_ix (she_var 9 (pv 9)) she_int (fun _ _ => rfl)) she_int (fun _ _ => rfl)) (nomark _))))))))))))))))))))
end
end K01

set_option Elab.async false
set_option linter.all false
set_option maxRecDepth 100000
set_option maxHeartbeats 4000000
namespace K01
open PySem L2 Sh
def nowOk (x : Slot) : Prop := x = .un ∨ (∃ d, x = .fz d) ∨ ∃ k, x = .ow false k
theorem lput {a : List Slot} {x : Slot} {b : List Slot} {o : Op} (hx : nowOk x) : put (a ++ x :: b) a.length o = put1 (a ++ x :: b) a.length o := by
  unfold put
  rw [if_pos]
  unfold can
  rw [List.getElem?_append_right (Nat.le_refl _), Nat.sub_self]
  rcases hx with rfl | ⟨d, rfl⟩ | ⟨k, rfl⟩ <;> rfl
theorem bin_g {f : D → D → Option Res} {ma mb : M} {s s1 s2 : List Slot} {o1 o2 : Op} {d e : D} {r : Res} (h1 : ma s = some (o1, s1)) (h2 : mb s1 = some (o2, s2)) (h3 : cD s2 o1 = some d) (h4 : cD s2 o2 = some e) (h5 : f d e = some r) : mBin f ma mb s = some (r.op, s2) := by
  show (ma s).bind _ = _
  rw [h1]
  show (mb s1).bind _ = _
  rw [h2]
  show (cD s2 o1).bind _ = _
  rw [h3]
  show (cD s2 o2).bind _ = _
  rw [h4]
  show (f d e).bind _ = _
  rw [h5]
  rfl
theorem tst_b {m : M} {s s1 : List Slot} {b : Bool} (h : m s = some (.v (.bool b), s1)) : mTst m s = some (b, s1) := by
  show (m s).bind _ = _
  rw [h]
  rfl
theorem orT_f {m n : MT} {s s1 : List Slot} (h : m s = some (false, s1)) : mOrT m n s = n s1 := by
  show (m s).bind _ = _
  rw [h]
  rfl
theorem notT {m : MT} {s s1 : List Slot} {b : Bool} (h : m s = some (b, s1)) : mNotT m s = some (!b, s1) := by
  show (m s).bind _ = _
  rw [h]
  rfl
theorem andT_b {m n : MT} {s s1 : List Slot} {b : Bool} (h : m s = some (b, s1)) : mAndT m n s = if b = true then n s1 else some (false, s1) := by
  show (m s).bind _ = _
  rw [h]
  rfl
theorem forR1_c {n : Int} {t : Tgt} {mb : MS} {s : List Slot} (h : -(2 ^ 62) ≤ n ∧ n < 2 ^ 62) : mForR1 (mC (.int n)) t mb s = loopF t mb (rngD 0 n.toNat) s := by
  show (if -(2 ^ 62) ≤ n ∧ n < 2 ^ 62 then loopF t mb (rngD 0 n.toNat) s else none) = _
  rw [if_pos h]
def lawBody : MS := (mSeq (mAsg (mCall (f1 fList) (mACons (mVar 5) mANil)) 11)
  (mSeq (mAsg (mCallF f_outcome (mACons (mFz (mVar 2)) (mACons (mFz (mVar 11)) (mACons (mFz (mVar 4)) mANil)))) 12)
  (mSeq (mIf (mOrT (mNotT (mTst (mCallF f_law_same (mACons (mFz (mVar 12)) (mACons (mFz (mVar 6)) mANil))))) (mTst (mBin fNe (mVar 11) (mVar 5)))) (mRet (mC (.bool false))) mNext)
  (mSeq (mDrop (mApp 9 (mTup (mACons (mFz (mVar 12)) (mACons (mFz (mCall (f1 fList) (mACons (mVar 12) mANil))) mANil)))))
  (mSeq (mAsg (mCallF f_is_value (mACons (mFz (mVar 7)) mANil)) 12)
  (mIf (mOrT (mNotT (mTst (mUn (fIsi "bool") (mVar 12)))) (mOrT (mTst (mBin fNe (mVar 12) (mVar 8))) (mTst (mBin fNe (mCallF f_outcome (mACons (mFz (mTup (mACons (mFz (mC (.str "fixed"))) (mACons (mFz (mC (.int 3))) mANil)))) (mACons (mFz (mLst (mACons (mFz (mC (.int 1))) mANil))) (mACons (mFz (mC (.int 2))) mANil)))) (mLst (mACons (mFz (mC (.int 3))) (mACons (mFz (mC (.int 3))) mANil))))))) (mRet (mC (.bool false))) mNext))))))
section
variable (L W R m g : D) (rule : List D) (gi : Int) (ds : List D) (xs ys : List (Option Int)) (th : D)
def St (Y held tn h11 t12 : Slot) : List Slot := [.fz L, .fz W, .fz (.tuple rule), .fz m, .fz (.int gi), .fz (.list (xs.map encO)), Y, .fz th, .fz (.bool (isVal th)), held, tn, h11, t12, .un]
theorem outc (hO : outV rule (xs.map encO) gi = some (ys.map encO)) : f_outcome [.fz (.tuple rule), .fz (.list (xs.map encO)), .fz (.int gi)] = some (.nw (.lst (ys.map encO)), [.fz (.tuple rule), .fz (.list (xs.map encO)), .fz (.int gi)]) := by
  unfold f_outcome
  show (sL (.fz (.list (xs.map encO)))).bind _ = _
  show (outV rule (xs.map encO) gi).bind _ = _
  rw [hO]
  rfl
theorem same_t : f_law_same [.fz (.list (ys.map encO)), .fz (.list (ys.map encO))] = some (vBool true, [.fz (.list (ys.map encO)), .fz (.list (ys.map encO))]) := by
  unfold f_law_same
  show (optsD (ys.map encO)).bind (fun a => (optsD (ys.map encO)).bind fun b => if a = b then some (vBool true, [Slot.fz (.list (ys.map encO)), .fz (.list (ys.map encO))]) else none) = _
  rw [optsD_map]
  show (if ys = ys then _ else _) = _
  rw [if_pos rfl]
theorem body_ok (hO : outV rule (xs.map encO) gi = some (ys.map encO)) (Y tn h11 t12 : Slot) (hY : Y = .fz (.list (ys.map encO)) ∨ Y = .ow false (.lst (ys.map encO))) (h1 : nowOk h11) (h2 : nowOk t12) (hs : List D) (hl : hs.length < 100) :
    lawBody (St L W m rule gi xs th Y (.ow false (.lst hs)) tn h11 t12) = some (.nx (St L W m rule gi xs th (.fz (.list (ys.map encO))) (.ow false (.lst (hs ++ [.tuple [.list (ys.map encO), .list (ys.map encO)]]))) tn (.fz (.list (xs.map encO))) (.fz (.bool (isVal th))))) := by
  unfold lawBody
  -- handed
  rw [seq_nx (s' := St L W m rule gi xs th Y (.ow false (.lst hs)) tn (.ow false (.lst (xs.map encO))) t12) (asg_v (s1 := St L W m rule gi xs th Y (.ow false (.lst hs)) tn h11 t12) (o := .nw (.lst (xs.map encO))) rfl (by
    rcases h1 with rfl | ⟨d, rfl⟩ | ⟨k, rfl⟩ <;> rfl))]
  -- told
  rw [seq_nx (s' := St L W m rule gi xs th Y (.ow false (.lst hs)) tn (.fz (.list (xs.map encO))) (.ow false (.lst (ys.map encO)))) (asg_v (s1 := St L W m rule gi xs th Y (.ow false (.lst hs)) tn (.fz (.list (xs.map encO))) t12) (o := .nw (.lst (ys.map encO)))
    (callF_v (ds := [.tuple rule, .list (xs.map encO), .int gi]) (acons (fz_var rfl) (acons rfl (acons (fz_var rfl) anil))) (outc rule gi xs ys hO) rfl) (by
    rcases h2 with rfl | ⟨d, rfl⟩ | ⟨k, rfl⟩ <;> rfl))]
  -- the same
  have hsame : mCallF f_law_same (mACons (mFz (mVar 12)) (mACons (mFz (mVar 6)) mANil)) (St L W m rule gi xs th Y (.ow false (.lst hs)) tn (.fz (.list (xs.map encO))) (.ow false (.lst (ys.map encO)))) = some (vBool true, St L W m rule gi xs th (.fz (.list (ys.map encO))) (.ow false (.lst hs)) tn (.fz (.list (xs.map encO))) (.fz (.list (ys.map encO)))) :=
    callF_v (ds := [.list (ys.map encO), .list (ys.map encO)]) (acons (s1 := St L W m rule gi xs th Y (.ow false (.lst hs)) tn (.fz (.list (xs.map encO))) (.fz (.list (ys.map encO)))) rfl (acons (s1 := St L W m rule gi xs th (.fz (.list (ys.map encO))) (.ow false (.lst hs)) tn (.fz (.list (xs.map encO))) (.fz (.list (ys.map encO)))) (by
      rcases hY with rfl | rfl <;> rfl) anil)) (same_t ys) rfl
  have t1 : (mOrT (mNotT (mTst (mCallF f_law_same (mACons (mFz (mVar 12)) (mACons (mFz (mVar 6)) mANil))))) (mTst (mBin fNe (mVar 11) (mVar 5)))) (St L W m rule gi xs th Y (.ow false (.lst hs)) tn (.fz (.list (xs.map encO))) (.ow false (.lst (ys.map encO)))) = some (false, St L W m rule gi xs th (.fz (.list (ys.map encO))) (.ow false (.lst hs)) tn (.fz (.list (xs.map encO))) (.fz (.list (ys.map encO)))) := by
    show (((mCallF f_law_same (mACons (mFz (mVar 12)) (mACons (mFz (mVar 6)) mANil)) _).bind _).bind _).bind _ = _
    rw [hsame]
    show ((fNe (.list (xs.map encO)) (.list (xs.map encO))).bind _).bind _ = _
    rw [fNe_opts]
    rfl
  rw [seq_nx (if_b t1)]
  rw [seq_nx (s' := St L W m rule gi xs th (.fz (.list (ys.map encO))) (.ow false (.lst (hs ++ [.tuple [.list (ys.map encO), .list (ys.map encO)]]))) tn (.fz (.list (xs.map encO))) (.fz (.list (ys.map encO)))) (by
    have hl2 : hs.length < 100000 := by omega
    show (if hs.length < 100000 then some (Op.v .none, St L W m rule gi xs th (.fz (.list (ys.map encO))) (.ow false (.lst (hs ++ [.tuple [.list (ys.map encO), .list (ys.map encO)]]))) tn (.fz (.list (xs.map encO))) (.fz (.list (ys.map encO)))) else none).bind _ = _
    rw [if_pos hl2]
    rfl)]
  have hv : ∀ hs2 : List D, mAsg (mCallF f_is_value (mACons (mFz (mVar 7)) mANil)) 12 (St L W m rule gi xs th (.fz (.list (ys.map encO))) (.ow false (.lst hs2)) tn (.fz (.list (xs.map encO))) (.fz (.list (ys.map encO)))) = some (.nx (St L W m rule gi xs th (.fz (.list (ys.map encO))) (.ow false (.lst hs2)) tn (.fz (.list (xs.map encO))) (.fz (.bool (isVal th))))) := fun hs2 =>
    asg_v (s1 := St L W m rule gi xs th (.fz (.list (ys.map encO))) (.ow false (.lst hs2)) tn (.fz (.list (xs.map encO))) (.fz (.list (ys.map encO)))) (o := .v (.bool (isVal th))) (callF_v (ds := [th]) (acons (fz_var rfl) anil) rfl rfl) rfl
  rw [seq_nx (hv _)]
  have fin : ∀ hs2 : List D, (mOrT (mNotT (mTst (mUn (fIsi "bool") (mVar 12)))) (mOrT (mTst (mBin fNe (mVar 12) (mVar 8))) (mTst (mBin fNe (mCallF f_outcome (mACons (mFz (mTup (mACons (mFz (mC (.str "fixed"))) (mACons (mFz (mC (.int 3))) mANil)))) (mACons (mFz (mLst (mACons (mFz (mC (.int 1))) mANil))) (mACons (mFz (mC (.int 2))) mANil)))) (mLst (mACons (mFz (mC (.int 3))) (mACons (mFz (mC (.int 3))) mANil))))))) (St L W m rule gi xs th (.fz (.list (ys.map encO))) (.ow false (.lst hs2)) tn (.fz (.list (xs.map encO))) (.fz (.bool (isVal th)))) = some (false, St L W m rule gi xs th (.fz (.list (ys.map encO))) (.ow false (.lst hs2)) tn (.fz (.list (xs.map encO))) (.fz (.bool (isVal th)))) := fun hs2 => by
    have a1 : mTst (mUn (fIsi "bool") (mVar 12)) (St L W m rule gi xs th (.fz (.list (ys.map encO))) (.ow false (.lst hs2)) tn (.fz (.list (xs.map encO))) (.fz (.bool (isVal th)))) = some (true, St L W m rule gi xs th (.fz (.list (ys.map encO))) (.ow false (.lst hs2)) tn (.fz (.list (xs.map encO))) (.fz (.bool (isVal th)))) := by
      simp [mTst, mUn, mVar, St, cD, fIsi, tyD, kb_bool, Res.op]
    have a2 : mTst (mBin fNe (mVar 12) (mVar 8)) (St L W m rule gi xs th (.fz (.list (ys.map encO))) (.ow false (.lst hs2)) tn (.fz (.list (xs.map encO))) (.fz (.bool (isVal th)))) = some (false, St L W m rule gi xs th (.fz (.list (ys.map encO))) (.ow false (.lst hs2)) tn (.fz (.list (xs.map encO))) (.fz (.bool (isVal th)))) := by
      show some (!decide (isVal th = isVal th), _) = _
      rw [decide_eq_true rfl]
      rfl
    have a3 : mCallF f_outcome (mACons (mFz (mTup (mACons (mFz (mC (.str "fixed"))) (mACons (mFz (mC (.int 3))) mANil)))) (mACons (mFz (mLst (mACons (mFz (mC (.int 1))) mANil))) (mACons (mFz (mC (.int 2))) mANil))) (St L W m rule gi xs th (.fz (.list (ys.map encO))) (.ow false (.lst hs2)) tn (.fz (.list (xs.map encO))) (.fz (.bool (isVal th)))) = some (.nw (.lst ([some 3, some 3].map encO)), St L W m rule gi xs th (.fz (.list (ys.map encO))) (.ow false (.lst hs2)) tn (.fz (.list (xs.map encO))) (.fz (.bool (isVal th)))) :=
      callF_v (ds := [.tuple [.str "fixed", .int 3], .list [.int 1], .int 2]) (acons rfl (acons rfl (acons rfl anil))) rfl rfl
    refine (orT_f (notT a1)).trans ((orT_f a2).trans ?_)
    exact tst_b (bin_g (r := .d (.bool false)) (o2 := .nw (.lst ([some 3, some 3].map encO))) (d := .list ([some 3, some 3].map encO)) (e := .list ([some 3, some 3].map encO)) a3 rfl rfl rfl (fNe_opts _))
  exact (if_b (fin _)).trans rfl
end
/-- the law over its own text -/
theorem andV_t {ma mb : M} {s s1 : List Slot} (h : ma s = some (.v (.bool true), s1)) : mAndV ma mb s = mb s1 := by
  show ((ma s).bind _) = _
  rw [h]
  rfl
theorem law_true (ns : List Int) : ∃ s', m_law [L0 ns, .un, .un, .un, .un, .un, .un, .un, .un, .un, .un, .un, .un, .un] = some (.rt (.v (.bool true)) s') ∧ outs [L0 ns] s' = some [L0 ns] := by
  obtain ⟨w, hw, e1⟩ := law_word ns [.un, .un, .un, .un, .un, .un, .un, .un, .un, .un, .un, .un, .un]
  unfold m_law
  rw [seq_nx (s' := [L0 ns, .fz (.str w), .un, .un, .un, .un, .un, .un, .un, .un, .un, .un, .un, .un]) (asg_v e1 rfl)]
  rw [seq_nx (s' := [L0 ns, .fz (.str w), .fz (.tuple [.str w]), .un, .un, .un, .un, .un, .un, .un, .un, .un, .un, .un]) rfl]
  -- the rule
  have e3 : mIf (mTst (mBin fEq (mVar 1) (mC (.str "fixed")))) (mAsg (mTup (mACons (mFz (mC (.str "fixed"))) (mACons (mFz (mCallF f_law_value (mACons (mFz (mCallF f_law_cell_at (mACons (mFz (mVar 0)) (mACons (mFz (mC (.int 1))) mANil)))) mANil))) mANil))) 2) mNext [L0 ns, .fz (.str w), .fz (.tuple [.str w]), .un, .un, .un, .un, .un, .un, .un, .un, .un, .un, .un] = some (.nx [L0 ns, .fz (.str w), .fz (.tuple (ruleOf w (lval (C ns 1)))), .un, .un, .un, .un, .un, .un, .un, .un, .un, .un, .un]) := by
    have ht : mTst (mBin fEq (mVar 1) (mC (.str "fixed"))) [L0 ns, .fz (.str w), .fz (.tuple [.str w]), .un, .un, .un, .un, .un, .un, .un, .un, .un, .un, .un] = some (decide (w = "fixed"), [L0 ns, .fz (.str w), .fz (.tuple [.str w]), .un, .un, .un, .un, .un, .un, .un, .un, .un, .un, .un]) := rfl
    rw [if_b ht]
    unfold ruleOf
    by_cases h : w = "fixed"
    · rw [decide_eq_true h, if_pos rfl, if_pos h]
      refine asg_v (s1 := [L0 ns, .fz (.str w), .fz (.tuple [.str w]), .un, .un, .un, .un, .un, .un, .un, .un, .un, .un, .un]) (o := .v (.tuple [.str "fixed", .int (lval (C ns 1))])) ?_ rfl
      have hv : mFz (mCallF f_law_value (mACons (mFz (mCallF f_law_cell_at (mACons (mFz (mVar 0)) (mACons (mFz (mC (.int 1))) mANil)))) mANil)) [L0 ns, .fz (.str w), .fz (.tuple [.str w]), .un, .un, .un, .un, .un, .un, .un, .un, .un, .un, .un] = some (.v (.int (lval (C ns 1))), [L0 ns, .fz (.str w), .fz (.tuple [.str w]), .un, .un, .un, .un, .un, .un, .un, .un, .un, .un, .un]) := fz_v (val_v (cell_v rfl rfl (by decide)))
      show (mACons (mFz (mC (.str "fixed"))) (mACons _ mANil) _).bind _ = _
      rw [acons (d := .str "fixed") rfl (acons hv anil)]
      rfl
    · rw [decide_eq_false h, if_neg (by decide), if_neg h]
  rw [seq_nx e3]
  -- how many values, how many places
  obtain ⟨m, hm, m1, m4, mw, mc⟩ := law_many w (1 + C ns 0 / 8 % 4) ⟨by omega, by omega⟩
  obtain ⟨g, hg, g1, g3⟩ := law_gives w (1 + C ns 0 / 32 % 3) ⟨by omega, by omega⟩
  generalize hR : ruleOf w (lval (C ns 1)) = R at *
  rw [seq_nx (s' := [L0 ns, .fz (.str w), .fz (.tuple R), .fz (.int m), .un, .un, .un, .un, .un, .un, .un, .un, .un, .un]) (asg_v (getS_v (me := mVar 1) (s := [L0 ns, .fz (.str w), .fz (.tuple R), .un, .un, .un, .un, .un, .un, .un, .un, .un, .un, .un]) (w := w) rfl (bin_v rfl (bin_v (bin_v (cell_v rfl rfl (by decide)) rfl rfl) rfl rfl) rfl) hm) rfl)]
  rw [seq_nx (s' := [L0 ns, .fz (.str w), .fz (.tuple R), .fz (.int m), .fz (.int g), .un, .un, .un, .un, .un, .un, .un, .un, .un]) (asg_v (getS_v (me := mVar 1) (s := [L0 ns, .fz (.str w), .fz (.tuple R), .fz (.int m), .un, .un, .un, .un, .un, .un, .un, .un, .un, .un]) (w := w) rfl (bin_v rfl (bin_v (bin_v (cell_v rfl rfl (by decide)) rfl rfl) rfl rfl) rfl) hg) rfl)]
  -- the values
  generalize hS5 : [L0 ns, Slot.fz (.str w), .fz (.tuple R), .fz (.int m), .fz (.int g), .un, .un, .un, .un, .un, .un, .un, .un, .un] = S5 at *
  let gv : D → D := fun d => match d with
    | .int k => .int (lval (C ns (2 + k)))
    | _ => .none
  have hl : loopC (tName 13) mYes (mCallF f_law_value (mACons (mFz (mCallF f_law_cell_at (mACons (mFz (mVar 0)) (mACons (mFz (mBin fAdd (mC (.int 2)) (mVar 13))) mANil)))) mANil)) [13] (rngD 0 m.toNat) S5 = some ((rngD 0 m.toNat).map gv, S5) := loopC_map fun d hd => by
    obtain ⟨i, hi⟩ := List.mem_iff_getElem?.mp hd
    obtain ⟨hi1, rfl⟩ := rngD_get hi
    subst hS5
    refine ⟨[L0 ns, .fz (.str w), .fz (.tuple R), .fz (.int m), .fz (.int g), .un, .un, .un, .un, .un, .un, .un, .un, .fz (.int (0 + (i : Int)))], [L0 ns, .fz (.str w), .fz (.tuple R), .fz (.int m), .fz (.int g), .un, .un, .un, .un, .un, .un, .un, .un, .fz (.int (0 + (i : Int)))], rfl, ?_, rfl⟩
    exact fz_v (val_v (cell_v rfl (bin_v rfl rfl rfl) (by omega)))
  have hvals : (rngD 0 m.toNat).map gv = ((List.range m.toNat).map fun (i : Nat) => lval (C ns (2 + (0 + (i : Int))))).map PyData.int := by
    unfold rngD
    rw [List.map_map, List.map_map]
    rfl
  rw [hvals] at hl
  have hvl : ((List.range m.toNat).map fun (i : Nat) => lval (C ns (2 + (0 + (i : Int))))).length = m.toNat := by rw [List.length_map, List.length_range]
  generalize ((List.range m.toNat).map fun (i : Nat) => lval (C ns (2 + (0 + (i : Int))))) = vals at *
  have e6 : mAsg (mLcR1 (mVar 3) (tName 13) mYes (mCallF f_law_value (mACons (mFz (mCallF f_law_cell_at (mACons (mFz (mVar 0)) (mACons (mFz (mBin fAdd (mC (.int 2)) (mVar 13))) mANil)))) mANil)) [13]) 5 S5 = some (.nx [L0 ns, .fz (.str w), .fz (.tuple R), .fz (.int m), .fz (.int g), .ow false (.lst (vals.map PyData.int)), .un, .un, .un, .un, .un, .un, .un, .un]) := by
    have hu : unw [13] S5 = some S5 := by subst hS5; rfl
    have hr : rst [13] S5 S5 = S5 := by subst hS5; rfl
    have h3 : mVar 3 S5 = some (.v (.int m), S5) := by subst hS5; rfl
    refine asg_v (s1 := S5) (o := .nw (.lst (vals.map PyData.int))) ?_ (by subst hS5; rfl)
    show (mVar 3 S5).bind _ = _
    rw [h3]
    show (if -(2 ^ 62) ≤ m ∧ m < 2 ^ 62 then (unw [13] S5).bind fun s2 => (loopC (tName 13) mYes (mCallF f_law_value (mACons (mFz (mCallF f_law_cell_at (mACons (mFz (mVar 0)) (mACons (mFz (mBin fAdd (mC (.int 2)) (mVar 13))) mANil)))) mANil)) [13] (rngD 0 m.toNat) s2).bind fun z => endC [13] S5 z else none) = _
    rw [if_pos ⟨by omega, by omega⟩, hu]
    show (loopC _ _ _ _ _ S5).bind _ = _
    rw [hl]
    show (if (vals.map PyData.int).length ≤ 100000 then some (Op.nw (.lst (vals.map PyData.int)), rst [13] S5 S5) else none) = _
    rw [if_pos (by rw [List.length_map, hvl]; omega), hr]
  rw [seq_nx e6]
  clear e6 hl hvals
  -- a choose may have nothing at one place
  have e7 : ∃ (xs ys : List (Option Int)) (x0 : D), outV R (xs.map encO) g = some (ys.map encO) ∧ (xs.map encO)[0]? = some x0 ∧ (mIf (mAndT (mTst (mBin fEq (mVar 1) (mC (.str "choose")))) (mTst (mBin fEq (mBin fMod (mCallF f_law_cell_at (mACons (mFz (mVar 0)) (mACons (mFz (mC (.int 1))) mANil))) (mC (.int 2))) (mC (.int 1))))) (mSetI 5 (mBin fAdd (mC (.int 1)) (mCall (f1 fInt) (mACons (mBin fEq (mBin fIx (mVar 5) (mC (.int 0))) (mC (.int 0))) mANil))) (mC .none)) mNext) [L0 ns, .fz (.str w), .fz (.tuple R), .fz (.int m), .fz (.int g), .ow false (.lst (vals.map PyData.int)), .un, .un, .un, .un, .un, .un, .un, .un] = some (.nx [L0 ns, .fz (.str w), .fz (.tuple R), .fz (.int m), .fz (.int g), .ow false (.lst (xs.map encO)), .un, .un, .un, .un, .un, .un, .un, .un]) := by
    have t1 : mTst (mBin fEq (mVar 1) (mC (.str "choose"))) [L0 ns, .fz (.str w), .fz (.tuple R), .fz (.int m), .fz (.int g), .ow false (.lst (vals.map PyData.int)), .un, .un, .un, .un, .un, .un, .un, .un] = some (decide (w = "choose"), [L0 ns, .fz (.str w), .fz (.tuple R), .fz (.int m), .fz (.int g), .ow false (.lst (vals.map PyData.int)), .un, .un, .un, .un, .un, .un, .un, .un]) := rfl
    by_cases hch : w = "choose"
    · have t2 : mTst (mBin fEq (mBin fMod (mCallF f_law_cell_at (mACons (mFz (mVar 0)) (mACons (mFz (mC (.int 1))) mANil))) (mC (.int 2))) (mC (.int 1))) [L0 ns, .fz (.str w), .fz (.tuple R), .fz (.int m), .fz (.int g), .ow false (.lst (vals.map PyData.int)), .un, .un, .un, .un, .un, .un, .un, .un] = some (decide (C ns 1 % 2 = 1), [L0 ns, .fz (.str w), .fz (.tuple R), .fz (.int m), .fz (.int g), .ow false (.lst (vals.map PyData.int)), .un, .un, .un, .un, .un, .un, .un, .un]) :=
        tst_b (bin_v (bin_v (cell_v rfl rfl (by decide)) rfl rfl) rfl rfl)
      have t3 := andT_b (n := mTst (mBin fEq (mBin fMod (mCallF f_law_cell_at (mACons (mFz (mVar 0)) (mACons (mFz (mC (.int 1))) mANil))) (mC (.int 2))) (mC (.int 1)))) t1
      rw [decide_eq_true hch, if_pos rfl, t2] at t3
      rw [mc hch] at hvl
      obtain ⟨a, b, c, rfl⟩ : ∃ a b c, vals = [a, b, c] := by
        match vals, hvl with
        | [a, b, c], _ => exact ⟨a, b, c, rfl⟩
      by_cases ho : C ns 1 % 2 = 1
      · rw [decide_eq_true ho] at t3
        have t4 := if_b (a := mSetI 5 (mBin fAdd (mC (.int 1)) (mCall (f1 fInt) (mACons (mBin fEq (mBin fIx (mVar 5) (mC (.int 0))) (mC (.int 0))) mANil))) (mC .none)) t3
        rw [if_pos rfl] at t4
        by_cases ha : a = 0
        · obtain ⟨xs, ys, h1, h2⟩ := e_choose a b c (lval (C ns 1)) g ⟨g1, g3⟩ [.int a, .int b, .none] (.inr (.inl ⟨ha, rfl⟩))
          refine ⟨xs, ys, .int a, by rw [← hR, hch, ← h1]; exact h2, by rw [← h1]; rfl, t4.trans ?_⟩
          rw [← h1]
          subst ha
          rfl
        · obtain ⟨xs, ys, h1, h2⟩ := e_choose a b c (lval (C ns 1)) g ⟨g1, g3⟩ [.int a, .none, .int c] (.inr (.inr ⟨ha, rfl⟩))
          refine ⟨xs, ys, .int a, by rw [← hR, hch, ← h1]; exact h2, by rw [← h1]; rfl, t4.trans ?_⟩
          rw [← h1]
          have hd : decide (a = 0) = false := decide_eq_false ha
          simp [mSetI, mFz, mC, frz1, vD, owL, mBin, mCall, mACons, mANil, mVar, cD, cDs, f1, fIx, at0 (ds := [PyData.int a, .int b, .int c]) rfl, fEq, ha, fInt, fAdd, Res.op, ixN]
      · rw [decide_eq_false ho] at t3
        have t4 := if_b (a := mSetI 5 (mBin fAdd (mC (.int 1)) (mCall (f1 fInt) (mACons (mBin fEq (mBin fIx (mVar 5) (mC (.int 0))) (mC (.int 0))) mANil))) (mC .none)) t3
        rw [if_neg (by decide)] at t4
        obtain ⟨xs, ys, h1, h2⟩ := e_choose a b c (lval (C ns 1)) g ⟨g1, g3⟩ [.int a, .int b, .int c] (.inl rfl)
        refine ⟨xs, ys, .int a, by rw [← hR, hch, ← h1]; exact h2, by rw [← h1]; rfl, t4.trans ?_⟩
        rw [← h1]
        rfl
    · have t3 := andT_b (n := mTst (mBin fEq (mBin fMod (mCallF f_law_cell_at (mACons (mFz (mVar 0)) (mACons (mFz (mC (.int 1))) mANil))) (mC (.int 2))) (mC (.int 1)))) t1
      rw [decide_eq_false hch, if_neg (by decide)] at t3
      have t4 := if_b (a := mSetI 5 (mBin fAdd (mC (.int 1)) (mCall (f1 fInt) (mACons (mBin fEq (mBin fIx (mVar 5) (mC (.int 0))) (mC (.int 0))) mANil))) (mC .none)) t3
      rw [if_neg (by decide)] at t4
      have hw' : w = "sum" ∨ w = "times" ∨ w = "least" ∨ w = "most" ∨ w = "fixed" ∨ w = "later" ∨ w = "way" := by
        rcases hw with h | h | h | h | h | h | h | h
        · exact .inl h
        · exact .inr (.inl h)
        · exact .inr (.inr (.inl h))
        · exact .inr (.inr (.inr (.inl h)))
        · exact .inr (.inr (.inr (.inr (.inl h))))
        · exact .inr (.inr (.inr (.inr (.inr (.inl h)))))
        · exact .inr (.inr (.inr (.inr (.inr (.inr h)))))
        · exact absurd h hch
      obtain ⟨ys, h2⟩ := law_out w (lval (C ns 1)) hw' vals g ⟨g1, g3⟩ (by omega) (fun h => by rw [hvl, mw h]; rfl)
      have h3 : (vals.map some).map encO = vals.map PyData.int := by
        rw [List.map_map]
        rfl
      obtain ⟨v0, hv0⟩ : ∃ v0, vals[0]? = some v0 := ⟨vals[0]'(by omega), List.getElem?_eq_getElem _⟩
      refine ⟨vals.map some, ys, .int v0, by rw [h3, ← hR]; exact h2, by rw [h3, List.getElem?_map, hv0]; rfl, ?_⟩
      rw [h3]
      exact t4
  obtain ⟨xs, ys, x0, hO, hx0, e7⟩ := e7
  rw [seq_nx e7]
  clear e7
  -- what is due
  have e8 : ∃ Y : Slot, (Y = .fz (.list (ys.map encO)) ∨ Y = .ow false (.lst (ys.map encO))) ∧ mAsg (mCallF f_law_given (mACons (mFz (mVar 2)) (mACons (mFz (mVar 5)) (mACons (mFz (mVar 4)) mANil)))) 6 [L0 ns, .fz (.str w), .fz (.tuple R), .fz (.int m), .fz (.int g), .ow false (.lst (xs.map encO)), .un, .un, .un, .un, .un, .un, .un, .un] = some (.nx [L0 ns, .fz (.str w), .fz (.tuple R), .fz (.int m), .fz (.int g), .fz (.list (xs.map encO)), Y, .un, .un, .un, .un, .un, .un, .un]) := by
    have hf : f_law_given [.fz (.tuple R), .fz (.list (xs.map encO)), .fz (.int g)] = some (if isWay R = true then .v (.list (ys.map encO)) else .nw (.lst (ys.map encO)), [.fz (.tuple R), .fz (.list (xs.map encO)), .fz (.int g)]) := by
      unfold f_law_given
      show ((xs.map encO)[0]?).bind _ = _
      rw [hx0]
      show (outV R (xs.map encO) g).bind _ = _
      rw [hO]
      rfl
    have ha : ∀ o : Op, o.isSl = false → f_law_given [.fz (.tuple R), .fz (.list (xs.map encO)), .fz (.int g)] = some (o, [.fz (.tuple R), .fz (.list (xs.map encO)), .fz (.int g)]) → mCallF f_law_given (mACons (mFz (mVar 2)) (mACons (mFz (mVar 5)) (mACons (mFz (mVar 4)) mANil))) [L0 ns, .fz (.str w), .fz (.tuple R), .fz (.int m), .fz (.int g), .ow false (.lst (xs.map encO)), .un, .un, .un, .un, .un, .un, .un, .un] = some (o, [L0 ns, .fz (.str w), .fz (.tuple R), .fz (.int m), .fz (.int g), .fz (.list (xs.map encO)), .un, .un, .un, .un, .un, .un, .un, .un]) := fun o h1 h2 =>
      callF_v (ds := [.tuple R, .list (xs.map encO), .int g]) (acons (fz_var rfl) (acons (s1 := [L0 ns, .fz (.str w), .fz (.tuple R), .fz (.int m), .fz (.int g), .fz (.list (xs.map encO)), .un, .un, .un, .un, .un, .un, .un, .un]) rfl (acons (fz_var rfl) anil))) h2 h1
    by_cases h : isWay R = true
    · rw [if_pos h] at hf
      exact ⟨_, .inl rfl, asg_v (ha _ rfl hf) rfl⟩
    · rw [if_neg h] at hf
      exact ⟨_, .inr rfl, asg_v (ha _ rfl hf) rfl⟩
  obtain ⟨Y, hY, e8⟩ := e8
  rw [seq_nx e8]
  clear e8
  -- the thing
  obtain ⟨d1, hd1, e9⟩ := law_thing ns [.fz (.str w), .fz (.tuple R), .fz (.int m), .fz (.int g), .fz (.list (xs.map encO)), Y, .un, .un, .un, .un, .un, .un, .un]
  rw [seq_nx (s' := [L0 ns, .fz (.str w), .fz (.tuple R), .fz (.int m), .fz (.int g), .fz (.list (xs.map encO)), Y, .fz d1, .un, .un, .un, .un, .un, .un]) (asg_v e9 rfl)]
  have e10 : ∃ d, flatD d = true ∧ (mIf (mTst (mBin fEq (mBin fMod (mBin fDiv (mCallF f_law_cell_at (mACons (mFz (mVar 0)) (mACons (mFz (mC (.int 6))) mANil))) (mC (.int 10))) (mC (.int 2))) (mC (.int 1)))) (mAsg (mCallF f_law_cell_at (mACons (mFz (mVar 0)) (mACons (mFz (mC (.int 6))) mANil))) 7) mNext) [L0 ns, .fz (.str w), .fz (.tuple R), .fz (.int m), .fz (.int g), .fz (.list (xs.map encO)), Y, .fz d1, .un, .un, .un, .un, .un, .un] = some (.nx [L0 ns, .fz (.str w), .fz (.tuple R), .fz (.int m), .fz (.int g), .fz (.list (xs.map encO)), Y, .fz d, .un, .un, .un, .un, .un, .un]) := by
    have t : mTst (mBin fEq (mBin fMod (mBin fDiv (mCallF f_law_cell_at (mACons (mFz (mVar 0)) (mACons (mFz (mC (.int 6))) mANil))) (mC (.int 10))) (mC (.int 2))) (mC (.int 1))) [L0 ns, .fz (.str w), .fz (.tuple R), .fz (.int m), .fz (.int g), .fz (.list (xs.map encO)), Y, .fz d1, .un, .un, .un, .un, .un, .un] = some (decide (C ns 6 / 10 % 2 = 1), [L0 ns, .fz (.str w), .fz (.tuple R), .fz (.int m), .fz (.int g), .fz (.list (xs.map encO)), Y, .fz d1, .un, .un, .un, .un, .un, .un]) :=
      tst_b (bin_v (bin_v (bin_v (cell_v rfl rfl (by decide)) rfl rfl) rfl rfl) rfl rfl)
    by_cases h : C ns 6 / 10 % 2 = 1
    · refine ⟨.int (C ns 6), rfl, (if_b t).trans ?_⟩
      rw [decide_eq_true h, if_pos rfl]
      exact asg_v (cell_v rfl rfl (by decide)) rfl
    · refine ⟨d1, hd1, (if_b t).trans ?_⟩
      rw [decide_eq_false h, if_neg (by decide)]
  obtain ⟨th, hth, e10⟩ := e10
  rw [seq_nx e10]
  clear e10 e9
  rw [seq_nx (s' := [L0 ns, .fz (.str w), .fz (.tuple R), .fz (.int m), .fz (.int g), .fz (.list (xs.map encO)), Y, .fz th, .fz (.bool (isVal th)), .un, .un, .un, .un, .un]) (asg_v (law_number hth rfl) rfl)]
  rw [seq_nx (s' := St (.list (ns.map PyData.int)) (.str w) (.int m) R g xs th Y (.ow false (.lst [])) .un .un .un) rfl]
  -- twice
  have b1 := body_ok (.list (ns.map PyData.int)) (.str w) (.int m) R g xs ys th hO Y (.fz (.int 0)) .un .un hY (.inl rfl) (.inl rfl) [] (by decide)
  have b2 := body_ok (.list (ns.map PyData.int)) (.str w) (.int m) R g xs ys th hO (.fz (.list (ys.map encO))) (.fz (.int 1)) (.fz (.list (xs.map encO))) (.fz (.bool (isVal th))) (.inl rfl) (.inr (.inl ⟨_, rfl⟩)) (.inr (.inl ⟨_, rfl⟩)) [.tuple [.list (ys.map encO), .list (ys.map encO)]] (by show 1 < 100; decide)
  have hfor : mForR1 (mC (.int 2)) (tName 10) lawBody (St (.list (ns.map PyData.int)) (.str w) (.int m) R g xs th Y (.ow false (.lst [])) .un .un .un) = some (.nx (St (.list (ns.map PyData.int)) (.str w) (.int m) R g xs th (.fz (.list (ys.map encO))) (.ow false (.lst [.tuple [.list (ys.map encO), .list (ys.map encO)], .tuple [.list (ys.map encO), .list (ys.map encO)]])) (.fz (.int 1)) (.fz (.list (xs.map encO))) (.fz (.bool (isVal th))))) := by
    rw [forR1_c (by decide)]
    show loopF (tName 10) lawBody [.int 0, .int 1] _ = _
    rw [loopF_cons (s1 := St (.list (ns.map PyData.int)) (.str w) (.int m) R g xs th Y (.ow false (.lst [])) (.fz (.int 0)) .un .un) rfl b1]
    rw [loopF_cons (s1 := St (.list (ns.map PyData.int)) (.str w) (.int m) R g xs th (.fz (.list (ys.map encO))) (.ow false (.lst [.tuple [.list (ys.map encO), .list (ys.map encO)]])) (.fz (.int 1)) (.fz (.list (xs.map encO))) (.fz (.bool (isVal th)))) rfl b2]
    rfl
  have hfor : mForR1 (mC (.int 2)) (tName 10) (mSeq (mAsg (mCall (f1 fList) (mACons (mVar 5) mANil)) 11) (mSeq (mAsg (mCallF f_outcome (mACons (mFz (mVar 2)) (mACons (mFz (mVar 11)) (mACons (mFz (mVar 4)) mANil)))) 12) (mSeq (mIf (mOrT (mNotT (mTst (mCallF f_law_same (mACons (mFz (mVar 12)) (mACons (mFz (mVar 6)) mANil))))) (mTst (mBin fNe (mVar 11) (mVar 5)))) (mRet (mC (.bool false))) mNext) (mSeq (mDrop (mApp 9 (mTup (mACons (mFz (mVar 12)) (mACons (mFz (mCall (f1 fList) (mACons (mVar 12) mANil))) mANil))))) (mSeq (mAsg (mCallF f_is_value (mACons (mFz (mVar 7)) mANil)) 12) (mIf (mOrT (mNotT (mTst (mUn (fIsi "bool") (mVar 12)))) (mOrT (mTst (mBin fNe (mVar 12) (mVar 8))) (mTst (mBin fNe (mCallF f_outcome (mACons (mFz (mTup (mACons (mFz (mC (.str "fixed"))) (mACons (mFz (mC (.int 3))) mANil)))) (mACons (mFz (mLst (mACons (mFz (mC (.int 1))) mANil))) (mACons (mFz (mC (.int 2))) mANil)))) (mLst (mACons (mFz (mC (.int 3))) (mACons (mFz (mC (.int 3))) mANil))))))) (mRet (mC (.bool false))) mNext)))))) _ = _ := hfor
  rw [seq_nx hfor]
  refine ⟨St (.list (ns.map PyData.int)) (.str w) (.int m) R g xs th (.fz (.list (ys.map encO))) (.ow false (.lst [.tuple [.list (ys.map encO), .list (ys.map encO)], .tuple [.list (ys.map encO), .list (ys.map encO)]])) (.fz (.int 1)) (.fz (.list (xs.map encO))) (.fz (.bool (isVal th))), ?_, rfl⟩
  have hE : ∀ z : List Slot, z = St (.list (ns.map PyData.int)) (.str w) (.int m) R g xs th (.fz (.list (ys.map encO))) (.ow false (.lst [.tuple [.list (ys.map encO), .list (ys.map encO)], .tuple [.list (ys.map encO), .list (ys.map encO)]])) (.fz (.int 1)) (.fz (.list (xs.map encO))) (.fz (.bool (isVal th))) → ∀ i : Int, (i = 0 ∨ i = 1) → mBin fEq (mBin fIx (mBin fIx (mVar 9) (mC (.int i))) (mC (.int 0))) (mBin fIx (mBin fIx (mVar 9) (mC (.int i))) (mC (.int 1))) z = some (.v (.bool true), z) := fun z hz i hi => by
    have h0 : ∀ j : Int, (j = 0 ∨ j = 1) → mBin fIx (mBin fIx (mVar 9) (mC (.int i))) (mC (.int j)) z = some (.v (.list (ys.map encO)), z) := fun j hj => by
      subst hz
      rcases hi with rfl | rfl <;> rcases hj with rfl | rfl <;> rfl
    exact bin_v (h0 0 (.inl rfl)) (h0 1 (.inr rfl)) (fEq_opts ys)
  show ((mAndV _ _ _).bind _) = _
  rw [andV_t (hE _ rfl 0 (.inl rfl)), hE _ rfl 1 (.inr rfl)]
  rfl
end K01

set_option Elab.async false
set_option linter.all false
set_option maxRecDepth 100000
set_option maxHeartbeats 4000000
namespace K01
open PySem L2 Sh
section
variable {P : Program} {w : World} {K : PySem.W.Frag} {mg : Str → Option Value} {base : Heap} {c : Cfg K}
abbrev s_same_for_all : Stmt := topS 13
theorem sc_same_for_all : FnScope ["rule", "values", "work"] ["rule", "values"] (defScope s_same_for_all) := ⟨rfl, rfl, rfl, by decide +kernel, rfl, by decide +kernel, by decide +kernel⟩
theorem ok_same_for_all {WK f : Addr} {fd : FuncData} (F : Fun K "same_for_all" "same_for_all" s_same_for_all f fd) (hWK : mg "WORKS" = some (.ref WK)) (hw : ∀ x g, fWork x = some g → Wk P w K mg base c 2 WK x g) : FnOk P w K mg base CX0 3 f fd ["rule", "values"] (spF c 2 (bodyF 3 m_same_for_all)) :=
  fn_sem (m := m_same_for_all) F sc_same_for_all rfl rfl (fun cdv A outer s H E hr =>
    (shs_cons (shs_if (sht_cmp (op_eqA hr.units) sem_eq (she_ix ix_all sem_ix (she_var 0 (pv 0)) she_int (fun _ _ => rfl)) she_str (nomark _)) (shs_one (shs_ret (she_ix ix_all sem_ix (she_var 0 (pv 0)) she_int (fun _ _ => rfl)))) shs_nil)
    (L2.PSs.imp (pss_cons (ps_set (i := 2) sc_same_for_all.nd rfl (Or.inl rfl) (pe_ix ix_kdict (pe_glob (v := V.ref WK) rfl hWK rfl) (she_ix ix_all sem_ix (she_var 0 (pv 0)) she_int (fun _ _ => rfl)) (fun _ _ => rfl))) (pss_one (ps_ret (pe_callR (i := 2) (S := fun f sp => Held P w K mg base 2 f sp) (fun _ _ h => h) hr rfl (Or.inl rfl) (sha_cons (she_var 1 (pv 1)) sha_nil))))) (fun _ _ _ h => lift_work hw h))))
theorem ok_to {fa : Addr} {fd : FuncData} {ps : List Str} {k n : Nat} {f g : SemF} (h1 : FnOk P w K mg base CX0 k fa fd ps (spF c n f)) (h : ∀ ss r, g ss = some r → f ss = some r) : FnOk P w K mg base CX0 k fa fd ps (spF c n g) := h1.imp fun vs H Q E q => by
  obtain ⟨hl, w1, ss, e1, R, o, ss', e, q⟩ := q
  exact ⟨hl, w1, ss, e1, R, o, ss', h _ _ e, q⟩
theorem wk_of {WK fa : Addr} {fd : FuncData} {ps : List Str} {j k : Nat} {x : Str} {f g : SemF} (h1 : FnOk P w K mg base CX0 j fa fd ps (spF c 1 f)) (h : ∀ ss r, g ss = some r → f ss = some r) (hj : j ≤ k) (hk : PySem.W.keepIn K (.ref fa) = true) (hb : Binds K fd ps []) (hd : KDct K w WK x (.ref fa)) : Wk P w K mg base c k WK x g :=
  ⟨⟨fa, ⟨⟨fd, ps, (ok_to h1 h).mono hj, hk, hb⟩⟩, hd⟩⟩
theorem hw_of {WK : Addr} {k : Nat} (h1 : Wk P w K mg base c k WK "sum" f_sum_of) (h2 : Wk P w K mg base c k WK "times" f_product_of) (h3 : Wk P w K mg base c k WK "least" f_least_of) (h4 : Wk P w K mg base c k WK "most" f_most_of) (h5 : Wk P w K mg base c k WK "later" f_first_of) (h6 : Wk P w K mg base c k WK "choose" f_chosen_of) : ∀ x g, fWork x = some g → Wk P w K mg base c k WK x g := fun x g h => by
  unfold fWork at h
  split at h
  · rename_i e; cases h; rw [e]; exact h1
  split at h
  · rename_i e; cases h; rw [e]; exact h2
  split at h
  · rename_i e; cases h; rw [e]; exact h3
  split at h
  · rename_i e; cases h; rw [e]; exact h4
  split at h
  · rename_i e; cases h; rw [e]; exact h5
  split at h
  · rename_i e; cases h; rw [e]; exact h6
  · cases h
theorem fn_of {fa : Addr} {fd : FuncData} {ps : List Str} {k n : Nat} {x : Str} {f g : SemF} (h1 : FnOk P w K mg base CX0 k fa fd ps (spF c n f)) (h : ∀ ss r, g ss = some r → f ss = some r) (hm : mg x = some (.ref fa)) (hk : PySem.W.keepIn K (.ref fa) = true) (hb : Binds K fd ps []) : Fn P w K mg base c k x n g :=
  ⟨⟨fa, fd, ps, ok_to h1 h, hm, hk, hb⟩⟩
end
theorem law_all : ∀ ns : List Int, ns.length ≤ 63 → ∃ ss', bodyF 14 m_law [.fz (.list (ns.map PyData.int))] = some (.v (.bool true), ss') := fun ns _ => by
  obtain ⟨s', e1, e2⟩ := law_true ns
  refine ⟨[.fz (.list (ns.map PyData.int))], ?_⟩
  show (m_law [.fz (.list (ns.map PyData.int)), .un, .un, .un, .un, .un, .un, .un, .un, .un, .un, .un, .un, .un]).bind _ = _
  rw [show m_law [.fz (.list (ns.map PyData.int)), .un, .un, .un, .un, .un, .un, .un, .un, .un, .un, .un, .un, .un] = _ from e1]
  show (outs [Slot.fz (.list (ns.map PyData.int))] s').bind _ = _
  rw [show outs [Slot.fz (.list (ns.map PyData.int))] s' = _ from e2]
  rfl
theorem all_mk {l : PySem.W.OpenLaw} {w : World} {K : PySem.W.Frag} {h : Heap} {mg : Str → Option Value} {fa WK : Addr} (X : K.In h) (G : h.Ns mainGlobals mg) (hfa : mg "law" = some (.ref fa)) {we : Array DictEntry} {wn : Nat} {mt : Tok}
    {f0 f1 f2 f3 f4 f5 f6 f7 f8 f9 f10 f11 f12 f13 f14 f15 f16 f17 : Addr} {od0 an0 od1 an1 od2 an2 od3 an3 od4 an4 od5 an5 od6 an6 od7 an7 od8 an8 od9 an9 od10 an10 od11 an11 od12 an12 od13 an13 od14 an14 od15 an15 od16 an16 od17 an17 : Option Addr} {sl0 sl1 sl2 sl3 sl4 sl5 sl6 sl7 sl8 sl9 sl10 sl11 sl12 sl13 sl14 sl15 sl16 sl17 : Array (Option Value)} {oc0 kV0 dc0 pm0 cd0 ct0 oc1 kV1 dc1 pm1 cd1 ct1 oc2 kV2 dc2 pm2 cd2 ct2 oc3 kV3 dc3 pm3 cd3 ct3 oc4 kV4 dc4 pm4 cd4 ct4 oc5 kV5 dc5 pm5 cd5 ct5 oc6 kV6 dc6 pm6 cd6 ct6 oc7 kV7 dc7 pm7 cd7 ct7 oc8 kV8 dc8 pm8 cd8 ct8 oc9 kV9 dc9 pm9 cd9 ct9 oc10 kV10 dc10 pm10 cd10 ct10 oc11 kV11 dc11 pm11 cd11 ct11 oc12 kV12 dc12 pm12 cd12 ct12 oc13 kV13 dc13 pm13 cd13 ct13 oc14 kV14 dc14 pm14 cd14 ct14 oc15 kV15 dc15 pm15 cd15 ct15 oc16 kV16 dc16 pm16 cd16 ct16 oc17 kV17 dc17 pm17 cd17 ct17 : Value}
    (a0 : PySem.W.nsIn K mainGlobals "is_whole" = some (some (.ref f0))) (l0 : K.lookup f0 = some ⟨oc0, od0, .func (PySem.W.fnOf "is_whole" "is_whole" (defArgs s_is_whole) (defBody s_is_whole) (defScope s_is_whole) .none kV0 dc0 pm0 an0 cd0 ct0), sl0⟩) (c0 : PySem.W.codeIn K cd0 "is_whole" = true) (k0 : PySem.W.keepIn K (.ref f0) = true)
    (a1 : PySem.W.nsIn K mainGlobals "is_value" = some (some (.ref f1))) (l1 : K.lookup f1 = some ⟨oc1, od1, .func (PySem.W.fnOf "is_value" "is_value" (defArgs s_is_value) (defBody s_is_value) (defScope s_is_value) .none kV1 dc1 pm1 an1 cd1 ct1), sl1⟩) (c1 : PySem.W.codeIn K cd1 "is_value" = true) (k1 : PySem.W.keepIn K (.ref f1) = true)
    (a2 : PySem.W.nsIn K mainGlobals "last_figures" = some (some (.ref f2))) (l2 : K.lookup f2 = some ⟨oc2, od2, .func (PySem.W.fnOf "last_figures" "last_figures" (defArgs s_last_figures) (defBody s_last_figures) (defScope s_last_figures) .none kV2 dc2 pm2 an2 cd2 ct2), sl2⟩) (c2 : PySem.W.codeIn K cd2 "last_figures" = true) (k2 : PySem.W.keepIn K (.ref f2) = true)
    (a3 : PySem.W.nsIn K mainGlobals "sum_of" = some (some (.ref f3))) (l3 : K.lookup f3 = some ⟨oc3, od3, .func (PySem.W.fnOf "sum_of" "sum_of" (defArgs s_sum_of) (defBody s_sum_of) (defScope s_sum_of) .none kV3 dc3 pm3 an3 cd3 ct3), sl3⟩) (c3 : PySem.W.codeIn K cd3 "sum_of" = true) (k3 : PySem.W.keepIn K (.ref f3) = true)
    (a4 : PySem.W.nsIn K mainGlobals "product_of" = some (some (.ref f4))) (l4 : K.lookup f4 = some ⟨oc4, od4, .func (PySem.W.fnOf "product_of" "product_of" (defArgs s_product_of) (defBody s_product_of) (defScope s_product_of) .none kV4 dc4 pm4 an4 cd4 ct4), sl4⟩) (c4 : PySem.W.codeIn K cd4 "product_of" = true) (k4 : PySem.W.keepIn K (.ref f4) = true)
    (a5 : PySem.W.nsIn K mainGlobals "least_of" = some (some (.ref f5))) (l5 : K.lookup f5 = some ⟨oc5, od5, .func (PySem.W.fnOf "least_of" "least_of" (defArgs s_least_of) (defBody s_least_of) (defScope s_least_of) .none kV5 dc5 pm5 an5 cd5 ct5), sl5⟩) (c5 : PySem.W.codeIn K cd5 "least_of" = true) (k5 : PySem.W.keepIn K (.ref f5) = true)
    (a6 : PySem.W.nsIn K mainGlobals "most_of" = some (some (.ref f6))) (l6 : K.lookup f6 = some ⟨oc6, od6, .func (PySem.W.fnOf "most_of" "most_of" (defArgs s_most_of) (defBody s_most_of) (defScope s_most_of) .none kV6 dc6 pm6 an6 cd6 ct6), sl6⟩) (c6 : PySem.W.codeIn K cd6 "most_of" = true) (k6 : PySem.W.keepIn K (.ref f6) = true)
    (a7 : PySem.W.nsIn K mainGlobals "first_of" = some (some (.ref f7))) (l7 : K.lookup f7 = some ⟨oc7, od7, .func (PySem.W.fnOf "first_of" "first_of" (defArgs s_first_of) (defBody s_first_of) (defScope s_first_of) .none kV7 dc7 pm7 an7 cd7 ct7), sl7⟩) (c7 : PySem.W.codeIn K cd7 "first_of" = true) (k7 : PySem.W.keepIn K (.ref f7) = true)
    (a8 : PySem.W.nsIn K mainGlobals "chosen_at" = some (some (.ref f8))) (l8 : K.lookup f8 = some ⟨oc8, od8, .func (PySem.W.fnOf "chosen_at" "chosen_at" (defArgs s_chosen_at) (defBody s_chosen_at) (defScope s_chosen_at) .none kV8 dc8 pm8 an8 cd8 ct8), sl8⟩) (c8 : PySem.W.codeIn K cd8 "chosen_at" = true) (k8 : PySem.W.keepIn K (.ref f8) = true)
    (a9 : PySem.W.nsIn K mainGlobals "chosen_of" = some (some (.ref f9))) (l9 : K.lookup f9 = some ⟨oc9, od9, .func (PySem.W.fnOf "chosen_of" "chosen_of" (defArgs s_chosen_of) (defBody s_chosen_of) (defScope s_chosen_of) .none kV9 dc9 pm9 an9 cd9 ct9), sl9⟩) (c9 : PySem.W.codeIn K cd9 "chosen_of" = true) (k9 : PySem.W.keepIn K (.ref f9) = true)
    (a10 : PySem.W.nsIn K mainGlobals "same_for_all" = some (some (.ref f10))) (l10 : K.lookup f10 = some ⟨oc10, od10, .func (PySem.W.fnOf "same_for_all" "same_for_all" (defArgs s_same_for_all) (defBody s_same_for_all) (defScope s_same_for_all) .none kV10 dc10 pm10 an10 cd10 ct10), sl10⟩) (c10 : PySem.W.codeIn K cd10 "same_for_all" = true) (k10 : PySem.W.keepIn K (.ref f10) = true)
    (a11 : PySem.W.nsIn K mainGlobals "way_of" = some (some (.ref f11))) (l11 : K.lookup f11 = some ⟨oc11, od11, .func (PySem.W.fnOf "way_of" "way_of" (defArgs s_way_of) (defBody s_way_of) (defScope s_way_of) .none kV11 dc11 pm11 an11 cd11 ct11), sl11⟩) (c11 : PySem.W.codeIn K cd11 "way_of" = true) (k11 : PySem.W.keepIn K (.ref f11) = true)
    (a12 : PySem.W.nsIn K mainGlobals "outcome" = some (some (.ref f12))) (l12 : K.lookup f12 = some ⟨oc12, od12, .func (PySem.W.fnOf "outcome" "outcome" (defArgs s_outcome) (defBody s_outcome) (defScope s_outcome) .none kV12 dc12 pm12 an12 cd12 ct12), sl12⟩) (c12 : PySem.W.codeIn K cd12 "outcome" = true) (k12 : PySem.W.keepIn K (.ref f12) = true)
    (a13 : PySem.W.nsIn K mainGlobals "_law_cell_at" = some (some (.ref f13))) (l13 : K.lookup f13 = some ⟨oc13, od13, .func (PySem.W.fnOf "_law_cell_at" "_law_cell_at" (defArgs s_law_cell_at) (defBody s_law_cell_at) (defScope s_law_cell_at) .none kV13 dc13 pm13 an13 cd13 ct13), sl13⟩) (c13 : PySem.W.codeIn K cd13 "_law_cell_at" = true) (k13 : PySem.W.keepIn K (.ref f13) = true)
    (a14 : PySem.W.nsIn K mainGlobals "_law_value" = some (some (.ref f14))) (l14 : K.lookup f14 = some ⟨oc14, od14, .func (PySem.W.fnOf "_law_value" "_law_value" (defArgs s_law_value) (defBody s_law_value) (defScope s_law_value) .none kV14 dc14 pm14 an14 cd14 ct14), sl14⟩) (c14 : PySem.W.codeIn K cd14 "_law_value" = true) (k14 : PySem.W.keepIn K (.ref f14) = true)
    (a15 : PySem.W.nsIn K mainGlobals "_law_given" = some (some (.ref f15))) (l15 : K.lookup f15 = some ⟨oc15, od15, .func (PySem.W.fnOf "_law_given" "_law_given" (defArgs s_law_given) (defBody s_law_given) (defScope s_law_given) .none kV15 dc15 pm15 an15 cd15 ct15), sl15⟩) (c15 : PySem.W.codeIn K cd15 "_law_given" = true) (k15 : PySem.W.keepIn K (.ref f15) = true)
    (a16 : PySem.W.nsIn K mainGlobals "_law_same" = some (some (.ref f16))) (l16 : K.lookup f16 = some ⟨oc16, od16, .func (PySem.W.fnOf "_law_same" "_law_same" (defArgs s_law_same) (defBody s_law_same) (defScope s_law_same) .none kV16 dc16 pm16 an16 cd16 ct16), sl16⟩) (c16 : PySem.W.codeIn K cd16 "_law_same" = true) (k16 : PySem.W.keepIn K (.ref f16) = true)
    (a17 : PySem.W.nsIn K mainGlobals "law" = some (some (.ref f17))) (l17 : K.lookup f17 = some ⟨oc17, od17, .func (PySem.W.fnOf "law" "law" (defArgs s_law) (defBody s_law) (defScope s_law) .none kV17 dc17 pm17 an17 cd17 ct17), sl17⟩) (c17 : PySem.W.codeIn K cd17 "law" = true) (k17 : PySem.W.keepIn K (.ref f17) = true)
    (aW : PySem.W.nsIn K mainGlobals "WORKS" = some (some (.ref WK))) (lW : K.lookup WK = some ⟨.type "dict", none, .dict we wn, #[]⟩) (kW : PySem.W.KeysLit w.params we.toList)
    (w0 : PySem.W.nsIn K WK "sum" = some (some (.ref f3)))
    (w1 : PySem.W.nsIn K WK "times" = some (some (.ref f4)))
    (w2 : PySem.W.nsIn K WK "least" = some (some (.ref f5)))
    (w3 : PySem.W.nsIn K WK "most" = some (some (.ref f6)))
    (w4 : PySem.W.nsIn K WK "later" = some (some (.ref f7)))
    (w5 : PySem.W.nsIn K WK "choose" = some (some (.ref f9)))
    (aM : PySem.W.nsIn K mainGlobals "MILLION" = some (some (.int 1000000 mt)))
    (z_bool : PySem.W.nsIn K mainGlobals "bool" = some none)
    (z_int : PySem.W.nsIn K mainGlobals "int" = some none)
    (z_isinstance : PySem.W.nsIn K mainGlobals "isinstance" = some none)
    (z_len : PySem.W.nsIn K mainGlobals "len" = some none)
    (z_list : PySem.W.nsIn K mainGlobals "list" = some none)
    (z_max : PySem.W.nsIn K mainGlobals "max" = some none)
    (z_min : PySem.W.nsIn K mainGlobals "min" = some none)
    (z_range : PySem.W.nsIn K mainGlobals "range" = some none)
    (z_sorted : PySem.W.nsIn K mainGlobals "sorted" = some none)
    (z_sum : PySem.W.nsIn K mainGlobals "sum" = some none) :
    ∃ fd : FuncData, (∀ (s : Shared) (v : Value), BindsTo s fd ⟨[v], []⟩ [("_law_script", v)]) ∧ ∀ base : Heap, K.In base → base.Ns mainGlobals mg → FnOk l.prog w K mg base CX0 5 fa fd ["_law_script"] (spLaw K) := by
  have e := hfa.symm.trans (PySem.W.mg_of X G a17)
  cases e
  have F0 := fun_mk (st := s_is_whole) l0 c0 k0
  have F1 := fun_mk (st := s_is_value) l1 c1 k1
  have F2 := fun_mk (st := s_last_figures) l2 c2 k2
  have F3 := fun_mk (st := s_sum_of) l3 c3 k3
  have F4 := fun_mk (st := s_product_of) l4 c4 k4
  have F5 := fun_mk (st := s_least_of) l5 c5 k5
  have F6 := fun_mk (st := s_most_of) l6 c6 k6
  have F7 := fun_mk (st := s_first_of) l7 c7 k7
  have F8 := fun_mk (st := s_chosen_at) l8 c8 k8
  have F9 := fun_mk (st := s_chosen_of) l9 c9 k9
  have F10 := fun_mk (st := s_same_for_all) l10 c10 k10
  have F11 := fun_mk (st := s_way_of) l11 c11 k11
  have F12 := fun_mk (st := s_outcome) l12 c12 k12
  have F13 := fun_mk (st := s_law_cell_at) l13 c13 k13
  have F14 := fun_mk (st := s_law_value) l14 c14 k14
  have F15 := fun_mk (st := s_law_given) l15 c15 k15
  have F16 := fun_mk (st := s_law_same) l16 c16 k16
  have F17 := fun_mk (st := s_law) l17 c17 k17
  have b0 := F0.binds (ps := ["thing"]) fun _ _ _ _ _ _ us hl => match us, hl with | [_], _ => rfl
  have b1 := F1.binds (ps := ["thing"]) fun _ _ _ _ _ _ us hl => match us, hl with | [_], _ => rfl
  have b2 := F2.binds (ps := ["number"]) fun _ _ _ _ _ _ us hl => match us, hl with | [_], _ => rfl
  have b3 := F3.binds (ps := ["values"]) fun _ _ _ _ _ _ us hl => match us, hl with | [_], _ => rfl
  have b4 := F4.binds (ps := ["values"]) fun _ _ _ _ _ _ us hl => match us, hl with | [_], _ => rfl
  have b5 := F5.binds (ps := ["values"]) fun _ _ _ _ _ _ us hl => match us, hl with | [_], _ => rfl
  have b6 := F6.binds (ps := ["values"]) fun _ _ _ _ _ _ us hl => match us, hl with | [_], _ => rfl
  have b7 := F7.binds (ps := ["values"]) fun _ _ _ _ _ _ us hl => match us, hl with | [_], _ => rfl
  have b8 := F8.binds (ps := ["first"]) fun _ _ _ _ _ _ us hl => match us, hl with | [_], _ => rfl
  have b9 := F9.binds (ps := ["values"]) fun _ _ _ _ _ _ us hl => match us, hl with | [_], _ => rfl
  have b10 := F10.binds (ps := ["rule", "values"]) fun _ _ _ _ _ _ us hl => match us, hl with | [_, _], _ => rfl
  have b11 := F11.binds (ps := ["values"]) fun _ _ _ _ _ _ us hl => match us, hl with | [_], _ => rfl
  have b12 := F12.binds (ps := ["rule", "values", "many"]) fun _ _ _ _ _ _ us hl => match us, hl with | [_, _, _], _ => rfl
  have b13 := F13.binds (ps := ["_law_script", "_law_k"]) fun _ _ _ _ _ _ us hl => match us, hl with | [_, _], _ => rfl
  have b14 := F14.binds (ps := ["_law_pick"]) fun _ _ _ _ _ _ us hl => match us, hl with | [_], _ => rfl
  have b15 := F15.binds (ps := ["_law_rule", "_law_values", "_law_many"]) fun _ _ _ _ _ _ us hl => match us, hl with | [_, _, _], _ => rfl
  have b16 := F16.binds (ps := ["_law_found", "_law_due"]) fun _ _ _ _ _ _ us hl => match us, hl with | [_, _], _ => rfl
  have Z : Txt K mg := { b_bool := PySem.W.mg_none_of X G z_bool, b_int := PySem.W.mg_none_of X G z_int, b_isinstance := PySem.W.mg_none_of X G z_isinstance, b_len := PySem.W.mg_none_of X G z_len, b_list := PySem.W.mg_none_of X G z_list, b_max := PySem.W.mg_none_of X G z_max, b_min := PySem.W.mg_none_of X G z_min, b_range := PySem.W.mg_none_of X G z_range, b_sorted := PySem.W.mg_none_of X G z_sorted, b_sum := PySem.W.mg_none_of X G z_sum, c_MILLION := ⟨_, PySem.W.mg_of X G aM⟩ }
  refine ⟨PySem.W.fnOf "law" "law" (defArgs s_law) (defBody s_law) (defScope s_law) .none kV17 dc17 pm17 an17 cd17 ct17, fun s v => .of_eq rfl, fun base _ _ => ?_⟩
  have H_is_whole : Fn l.prog w K mg base (noCfg K) 1 "is_whole" 1 f_is_whole := fn_of (ok_is_whole F0 Z) e_is_whole (PySem.W.mg_of X G a0) k0 b0
  have H_is_value : Fn l.prog w K mg base (noCfg K) 2 "is_value" 1 f_is_value := fn_of (ok_is_value F1 Z H_is_whole) e_is_value (PySem.W.mg_of X G a1) k1 b1
  have H_last_figures : Fn l.prog w K mg base (noCfg K) 1 "last_figures" 1 f_last_figures := fn_of (ok_last_figures F2 Z) e_last_figures (PySem.W.mg_of X G a2) k2 b2
  have H_chosen_at : Fn l.prog w K mg base (noCfg K) 1 "chosen_at" 1 f_chosen_at := fn_of (ok_chosen_at F8 Z) e_chosen_at (PySem.W.mg_of X G a8) k8 b8
  have W0 : Wk l.prog w K mg base (noCfg K) 2 WK "sum" f_sum_of := wk_of (ok_sum_of F3 Z H_last_figures) e_sum_of (by decide) k3 b3 ⟨we, wn, _, lW, kW, w0, rfl⟩
  have W1 : Wk l.prog w K mg base (noCfg K) 2 WK "times" f_product_of := wk_of (ok_product_of F4 Z H_last_figures) e_product_of (by decide) k4 b4 ⟨we, wn, _, lW, kW, w1, rfl⟩
  have W2 : Wk l.prog w K mg base (noCfg K) 2 WK "least" f_least_of := wk_of (ok_least_of F5 Z) e_least_of (by decide) k5 b5 ⟨we, wn, _, lW, kW, w2, rfl⟩
  have W3 : Wk l.prog w K mg base (noCfg K) 2 WK "most" f_most_of := wk_of (ok_most_of F6 Z) e_most_of (by decide) k6 b6 ⟨we, wn, _, lW, kW, w3, rfl⟩
  have W4 : Wk l.prog w K mg base (noCfg K) 2 WK "later" f_first_of := wk_of (ok_first_of F7 Z) e_first_of (by decide) k7 b7 ⟨we, wn, _, lW, kW, w4, rfl⟩
  have W5 : Wk l.prog w K mg base (noCfg K) 2 WK "choose" f_chosen_of := wk_of (ok_chosen_of F9 Z H_chosen_at) e_chosen_of (by decide) k9 b9 ⟨we, wn, _, lW, kW, w5, rfl⟩
  have H_same_for_all : Fn l.prog w K mg base (noCfg K) 3 "same_for_all" 2 f_same_for_all := fn_of (ok_same_for_all F10 (PySem.W.mg_of X G aW) (hw_of W0 W1 W2 W3 W4 W5)) e_same_for_all (PySem.W.mg_of X G a10) k10 b10
  have H_way_of : Fn l.prog w K mg base (noCfg K) 1 "way_of" 1 f_way_of := fn_of (ok_way_of F11 Z) e_way_of (PySem.W.mg_of X G a11) k11 b11
  have H_outcome : Fn l.prog w K mg base (noCfg K) 4 "outcome" 3 f_outcome := fn_of (ok_outcome F12 Z H_same_for_all H_way_of) e_outcome (PySem.W.mg_of X G a12) k12 b12
  have H_law_cell_at : Fn l.prog w K mg base (noCfg K) 1 "_law_cell_at" 2 f_law_cell_at := fn_of (ok_law_cell_at F13 Z) e_law_cell_at (PySem.W.mg_of X G a13) k13 b13
  have H_law_value : Fn l.prog w K mg base (noCfg K) 1 "_law_value" 1 f_law_value := fn_of (ok_law_value F14 Z) e_law_value (PySem.W.mg_of X G a14) k14 b14
  have H_law_given : Fn l.prog w K mg base (noCfg K) 1 "_law_given" 3 f_law_given := fn_of (ok_law_given F15 Z) e_law_given (PySem.W.mg_of X G a15) k15 b15
  have H_law_same : Fn l.prog w K mg base (noCfg K) 1 "_law_same" 2 f_law_same := fn_of (ok_law_same F16 Z) e_law_same (PySem.W.mg_of X G a16) k16 b16
  exact (ok_law F17 Z H_law_cell_at H_law_given H_law_same H_law_value H_is_value H_outcome).imp (law_end law_all)
end K01

set_option Elab.async false
set_option linter.all false
set_option maxRecDepth 100000
open PySem PySem.W PyProof.Rows
set_option maxHeartbeats 0 in
theorem PySem.Challenge.cw_readyfire_k01_rules_holds : PySem.Challenge.rw_readyfire_k01_rules.Holds := by
  w_on; o_law; k_head; (case hw => w_witness2)
  k_fill
  refine L2.walk_of (l := PySem.Challenge.rw_readyfire_k01_rules) (n := 63) (k := 5) (x := "_law_script") (CX := fun _ => L2.CX0) (sp := fun w => Sh.spLaw _) rfl (by decide) rfl ⟨rfl, by decide, by decide⟩ (fun w h Y => PySem.W.kIn_of Y) ?F (fun _ _ a ns hl _ hS => ⟨a, ns, rfl, hS, hl, fun _ => rfl⟩) (fun _ _ _ _ _ h => h)
  case F =>
    intro w mg fa h KX G hmg
    refine' K01.all_mk KX G hmg ?a0 ?l0 ?c0 ?k0 ?a1 ?l1 ?c1 ?k1 ?a2 ?l2 ?c2 ?k2 ?a3 ?l3 ?c3 ?k3 ?a4 ?l4 ?c4 ?k4 ?a5 ?l5 ?c5 ?k5 ?a6 ?l6 ?c6 ?k6 ?a7 ?l7 ?c7 ?k7 ?a8 ?l8 ?c8 ?k8 ?a9 ?l9 ?c9 ?k9 ?a10 ?l10 ?c10 ?k10 ?a11 ?l11 ?c11 ?k11 ?a12 ?l12 ?c12 ?k12 ?a13 ?l13 ?c13 ?k13 ?a14 ?l14 ?c14 ?k14 ?a15 ?l15 ?c15 ?k15 ?a16 ?l16 ?c16 ?k16 ?a17 ?l17 ?c17 ?k17 ?aW ?lW ?kW ?w0 ?w1 ?w2 ?w3 ?w4 ?w5 ?aM ?z_bool ?z_int ?z_isinstance ?z_len ?z_list ?z_max ?z_min ?z_range ?z_sorted ?z_sum
    (case a0 => k_is); (case l0 => k_is); (case c0 => k_is); (case k0 => k_is); (case a1 => k_is); (case l1 => k_is); (case c1 => k_is); (case k1 => k_is); (case a2 => k_is); (case l2 => k_is); (case c2 => k_is); (case k2 => k_is); (case a3 => k_is); (case l3 => k_is); (case c3 => k_is); (case k3 => k_is); (case a4 => k_is); (case l4 => k_is); (case c4 => k_is); (case k4 => k_is); (case a5 => k_is); (case l5 => k_is); (case c5 => k_is); (case k5 => k_is); (case a6 => k_is); (case l6 => k_is); (case c6 => k_is); (case k6 => k_is); (case a7 => k_is); (case l7 => k_is); (case c7 => k_is); (case k7 => k_is); (case a8 => k_is); (case l8 => k_is); (case c8 => k_is); (case k8 => k_is); (case a9 => k_is); (case l9 => k_is); (case c9 => k_is); (case k9 => k_is); (case a10 => k_is); (case l10 => k_is); (case c10 => k_is); (case k10 => k_is); (case a11 => k_is); (case l11 => k_is); (case c11 => k_is); (case k11 => k_is); (case a12 => k_is); (case l12 => k_is); (case c12 => k_is); (case k12 => k_is); (case a13 => k_is); (case l13 => k_is); (case c13 => k_is); (case k13 => k_is); (case a14 => k_is); (case l14 => k_is); (case c14 => k_is); (case k14 => k_is); (case a15 => k_is); (case l15 => k_is); (case c15 => k_is); (case k15 => k_is); (case a16 => k_is); (case l16 => k_is); (case c16 => k_is); (case k16 => k_is); (case a17 => k_is); (case l17 => k_is); (case c17 => k_is); (case k17 => k_is); (case aW => k_is); (case lW => k_is); (case kW => k_keys); (case w0 => k_is); (case w1 => k_is); (case w2 => k_is); (case w3 => k_is); (case w4 => k_is); (case w5 => k_is); (case aM => k_is); (case z_bool => k_is); (case z_int => k_is); (case z_isinstance => k_is); (case z_len => k_is); (case z_list => k_is); (case z_max => k_is); (case z_min => k_is); (case z_range => k_is); (case z_sorted => k_is); (case z_sum => k_is)
