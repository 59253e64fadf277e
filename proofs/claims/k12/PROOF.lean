import PyProof.Rows.All
import Wide.All
import OpenK.AllK
import Wide.FinOn
import HandS.Evl
import HandS.Words
import HandS.Iter
import HandS.AnyAll
import HandS.IsInst
import HandS.Deep
import HandS.SortInts
import HandS.TupAny
import HandS.Text
import HandS.Dict
import HandS.WordsDict
import HandS.ForMost
import HandS.CallLocal
import HandS.More
import HandS.TupLe
import HandS.TupMul
import PyProof.AutoSeq1
import HandS.Small
import PyProof.EqAt
import PyProof.EqKinds
import PyProof.TupleCall
import PyProof.GenQ
import HandS.Base
import HandS.Call
import HandS.List
import HandS.Comp
import HandS.GenOver
import HandS.Set
import HandS.Strs
import HandS.Zip
import HandS.Star
import HandS.RaiseMore
import HandS.Exc
import HandS.EndOwn
import PySem.Challenge.RW_readyfire_k12_shown_and_read
-- Sh1.lean
set_option Elab.async false
set_option linter.all false
set_option maxRecDepth 100000
set_option maxHeartbeats 1000000
/-! Sh1: data, slots, operands; the state of a run over them. -/
namespace Sh
open PySem L2
abbrev D := PyData
/-- a field of an object: data; a dict; one with tuples as keys; a dict of dicts -/
inductive Fv where
  | d (d : D)
  | k (kvs : List (Key × D))
  | t (kvs : List (List Key × D))
  | kk (kvs : List (Key × List (Key × D)))
/-- what an object of one's own holds: data, or others of one's own -/
inductive Cont where
  | lst (ds : List D)
  | dT (kvs : List (List Key × D))
  | dK (kvs : List (Key × D))
  | dKK (kvs : List (Key × List (Key × D)))
  | ins (fs : List (Str × Fv))
  | los (ks : List Cont)
  | pr (k : Cont) (d : D)
/-- a slot: not set; data that nothing changes any more; an object of one's own (p: handed in) -/
inductive Slot where
  | un
  | fz (d : D)
  | ow (p : Bool) (k : Cont)
inductive Op where
  | v (d : D)
  | nw (k : Cont)
  | sl (i : Nat)
  | ex (n : Str)
structure W where
  F : Hp
  H : Hp
  φ : Nat → List Addr
  T : List Addr
/-- the class whose objects are one's own, the classes of what is raised -/
structure Cfg (K : PySem.W.Frag) where
  C : Addr
  X : Str → Addr
  T : List Addr := []
abbrev KVa (K : PySem.W.Frag) (F : Hp) : List (Key × V) → List (Key × D) → Prop := Paired fun (p : Key × V) (q : Key × D) => p.1 = q.1 ∧ Dp K F p.2 q.2
abbrev KVt (K : PySem.W.Frag) (F : Hp) : List (List Key × V) → List (List Key × D) → Prop := Paired fun (p : List Key × V) (q : List Key × D) => p.1 = q.1 ∧ Dp K F p.2 q.2
abbrev Sub (F H : Hp) : Prop := ∀ a o, F a = some o → H a = some o
section
variable {K : PySem.W.Frag}
theorem sqL_mono {F H : Hp} (e : Sub F H) {a : Addr} {xs : List V} (h : SqL K F a xs) : SqL K H a xs := Evl.ex_l e h
theorem sqT_mono {F H : Hp} (e : Sub F H) {a : Addr} {xs : List V} (h : SqT K F a xs) : SqT K H a xs := Evl.ex_t e h
mutual
theorem dp_mono {F H : Hp} (e : Sub F H) : ∀ (d : D) (v : V), Dp K F v d → Dp K H v d
  | .none, _, h => by cases h; exact .non
  | .bool _, _, h => by cases h; exact .bl _
  | .int _, _, h => by cases h; exact .int _
  | .str _, _, h => by cases h; exact .str _
  | .list ds, _, h => by
    cases h with
    | lst hs ha => exact .lst (sqL_mono e hs) (dpAll_mono e ds _ ha)
  | .tuple ds, _, h => by
    cases h with
    | tup hs ha => exact .tup (sqT_mono e hs) (dpAll_mono e ds _ ha)
  | .dict _, _, h => by cases h
theorem dpAll_mono {F H : Hp} (e : Sub F H) : ∀ (ds : List D) (vs : List V), DpAll K F vs ds → DpAll K H vs ds
  | [], _, h => by cases h; exact .nil
  | d :: ds, _, h => by
    cases h with
    | cons h1 h2 => exact .cons (dp_mono e d _ h1) (dpAll_mono e ds _ h2)
end
theorem dpa_len {F : Hp} : ∀ {vs : List V} {ds : List D}, DpAll K F vs ds → vs.length = ds.length
  | _, [], h => by cases h; rfl
  | _, d :: ds, h => by
    cases h with
    | cons h1 h2 => rw [List.length_cons, List.length_cons, dpa_len h2]
theorem dpa_get {F : Hp} : ∀ {vs : List V} {ds : List D} {i : Nat} {d : D}, DpAll K F vs ds → ds[i]? = some d → ∃ v, vs[i]? = some v ∧ Dp K F v d
  | _, [], i, d, h, e => by cases e
  | _, d :: ds, 0, _, h, e => by
    cases h with
    | cons h1 h2 =>
      cases e
      exact ⟨_, rfl, h1⟩
  | _, d :: ds, i + 1, _, h, e => by
    cases h with
    | cons h1 h2 => exact dpa_get (i := i) h2 e
theorem dpa_get' {F : Hp} : ∀ {vs : List V} {ds : List D} {i : Nat} {v : V}, DpAll K F vs ds → vs[i]? = some v → ∃ d, ds[i]? = some d ∧ Dp K F v d
  | _, [], i, v, h, e => by
    cases h
    cases e
  | _, d :: ds, 0, _, h, e => by
    cases h with
    | cons h1 h2 =>
      cases e
      exact ⟨_, rfl, h1⟩
  | _, d :: ds, i + 1, _, h, e => by
    cases h with
    | cons h1 h2 => exact dpa_get' (i := i) h2 e
theorem dpa_app {F : Hp} : ∀ {vs ws : List V} {ds es : List D}, DpAll K F vs ds → DpAll K F ws es → DpAll K F (vs ++ ws) (ds ++ es)
  | _, _, [], _, h, g => by
    cases h
    exact g
  | _, _, d :: ds, _, h, g => by
    cases h with
    | cons h1 h2 => exact .cons h1 (dpa_app h2 g)
theorem dpa_one {F : Hp} {v : V} {d : D} (h : Dp K F v d) : DpAll K F [v] [d] := .cons h .nil
theorem dpa_take {F : Hp} : ∀ (n : Nat) {vs : List V} {ds : List D}, DpAll K F vs ds → DpAll K F (vs.take n) (ds.take n)
  | 0, _, _, _ => by
    rw [List.take_zero, List.take_zero]
    exact .nil
  | n + 1, _, [], h => by
    cases h
    exact .nil
  | n + 1, _, d :: ds, h => by
    cases h with
    | cons h1 h2 => exact .cons h1 (dpa_take n h2)
theorem dpa_drop {F : Hp} : ∀ (n : Nat) {vs : List V} {ds : List D}, DpAll K F vs ds → DpAll K F (vs.drop n) (ds.drop n)
  | 0, _, _, h => h
  | n + 1, _, [], h => by
    cases h
    exact .nil
  | n + 1, _, d :: ds, h => by
    cases h with
    | cons h1 h2 => exact dpa_drop n h2
theorem dpa_set {F : Hp} {v : V} {d : D} (q : Dp K F v d) : ∀ (n : Nat) {vs : List V} {ds : List D}, DpAll K F vs ds → DpAll K F (vs.set n v) (ds.set n d)
  | _, _, [], h => by
    cases h
    exact .nil
  | 0, _, d :: ds, h => by
    cases h with
    | cons h1 h2 => exact .cons q h2
  | n + 1, _, d :: ds, h => by
    cases h with
    | cons h1 h2 => exact .cons h1 (dpa_set q n h2)
theorem dpa_erase {F : Hp} : ∀ (n : Nat) {vs : List V} {ds : List D}, DpAll K F vs ds → DpAll K F (vs.eraseIdx n) (ds.eraseIdx n)
  | _, _, [], h => by
    cases h
    exact .nil
  | 0, _, d :: ds, h => by
    cases h with
    | cons h1 h2 => exact h2
  | n + 1, _, d :: ds, h => by
    cases h with
    | cons h1 h2 => exact .cons h1 (dpa_erase n h2)
theorem dpAll_ints {F : Hp} : ∀ {vs : List V} {ns : List Int}, DpAll K F vs (ns.map PyData.int) → vs = ns.map V.int
  | _, [], h => by
    cases h
    rfl
  | _, n :: ns, h => by
    cases h with
    | cons h1 h2 =>
      cases h1
      rw [dpAll_ints h2]
      rfl
theorem dpAll_of_ints {F : Hp} : ∀ (ns : List Int), DpAll K F (ns.map V.int) (ns.map PyData.int)
  | [] => .nil
  | n :: ns => .cons (.int n) (dpAll_of_ints ns)
theorem kva_mono {F F' : Hp} (e : Sub F F') {kv : List (Key × V)} {kvs : List (Key × D)} (h : KVa K F kv kvs) : KVa K F' kv kvs := Paired.mapP h fun _ _ z => ⟨z.1, dp_mono e _ _ z.2⟩
theorem kvt_mono {F F' : Hp} (e : Sub F F') {kv : List (List Key × V)} {kvs : List (List Key × D)} (h : KVt K F kv kvs) : KVt K F' kv kvs := Paired.mapP h fun _ _ z => ⟨z.1, dp_mono e _ _ z.2⟩
/-- dicts in a dict -/
def OwnKK (K : PySem.W.Frag) (F H : Hp) : List (Key × V) → List (Key × List (Key × D)) → List Addr → Prop
  | [], [], fp => fp = []
  | p :: r, q :: s, fp => ∃ b kv f2, p.1 = q.1 ∧ p.2 = .ref b ∧ fp = b :: f2 ∧ H b = some (.dK kv) ∧ KVa K F kv q.2 ∧ OwnKK K F H r s f2
  | _, _, _ => False
/-- a field -/
def OwnF (K : PySem.W.Frag) (F H : Hp) (v : V) : Fv → List Addr → Prop
  | .d d, fp => fp = [] ∧ Dp K F v d
  | .k kvs, fp => ∃ a kv, v = .ref a ∧ fp = [a] ∧ H a = some (.dK kv) ∧ KVa K F kv kvs
  | .t kvs, fp => ∃ a kv, v = .ref a ∧ fp = [a] ∧ H a = some (.dT kv) ∧ KVt K F kv kvs
  | .kk kvs, fp => ∃ a kv f2, v = .ref a ∧ fp = a :: f2 ∧ H a = some (.dK kv) ∧ OwnKK K F H kv kvs f2
def OwnFs (K : PySem.W.Frag) (F H : Hp) : List (Str × V) → List (Str × Fv) → List Addr → Prop
  | [], [], fp => fp = []
  | p :: r, q :: s, fp => ∃ f1 f2, p.1 = q.1 ∧ fp = f1 ++ f2 ∧ OwnF K F H p.2 q.2 f1 ∧ OwnFs K F H r s f2
  | _, _, _ => False
mutual
/-- an object of one's own -/
def Own (c : Cfg K) (F H : Hp) (v : V) : Cont → List Addr → Prop
  | .lst ds, fp => ∃ a xs, v = .ref a ∧ fp = [a] ∧ H a = some (.lst xs) ∧ DpAll K F xs ds
  | .dT kvs, fp => ∃ a kv, v = .ref a ∧ fp = [a] ∧ H a = some (.dT kv) ∧ KVt K F kv kvs
  | .dK kvs, fp => ∃ a kv, v = .ref a ∧ fp = [a] ∧ H a = some (.dK kv) ∧ KVa K F kv kvs
  | .dKK kvs, fp => ∃ a kv f2, v = .ref a ∧ fp = a :: f2 ∧ H a = some (.dK kv) ∧ OwnKK K F H kv kvs f2 ∧ fp.Nodup
  | .ins fs, fp => ∃ a dx hs f2, v = .ref a ∧ fp = a :: dx :: f2 ∧ H a = some (.ins c.C dx hs) ∧ H dx = some (.own a) ∧ OwnFs K F H hs fs f2 ∧ fp.Nodup
  | .los ks, fp => ∃ a xs f2, v = .ref a ∧ fp = a :: f2 ∧ H a = some (.lst xs) ∧ OwnAll c F H xs ks f2 ∧ fp.Nodup
  | .pr k d, fp => ∃ a x y f2, v = .ref a ∧ fp = a :: f2 ∧ H a = some (.tup [x, y]) ∧ Own c F H x k f2 ∧ Dp K F y d ∧ fp.Nodup
def OwnAll (c : Cfg K) (F H : Hp) : List V → List Cont → List Addr → Prop
  | xs, [], fp => xs = [] ∧ fp = []
  | xs, k :: ks, fp => ∃ x r f1 f2, xs = x :: r ∧ fp = f1 ++ f2 ∧ Own c F H x k f1 ∧ OwnAll c F H r ks f2
end
theorem OwnKK.mono {F H F' H' : Hp} (e : Sub F F') : ∀ {kv : List (Key × V)} {kvs : List (Key × List (Key × D))} {fp : List Addr}, OwnKK K F H kv kvs fp → (∀ a ∈ fp, ∀ o, H a = some o → H' a = some o) → OwnKK K F' H' kv kvs fp
  | [], [], _, h, _ => h
  | p :: r, q :: s, _, h, g => by
    obtain ⟨b, kv, f2, h1, h2, rfl, h3, h4, h5⟩ := h
    exact ⟨b, kv, f2, h1, h2, rfl, g b List.mem_cons_self _ h3, kva_mono e h4, OwnKK.mono e h5 fun a ha => g a (List.mem_cons_of_mem _ ha)⟩
  | [], _ :: _, _, h, _ => h.elim
  | _ :: _, [], _, h, _ => h.elim
theorem OwnF.mono {F H F' H' : Hp} (e : Sub F F') {v : V} {k : Fv} {fp : List Addr} (h : OwnF K F H v k fp) (g : ∀ a ∈ fp, ∀ o, H a = some o → H' a = some o) : OwnF K F' H' v k fp := by
  cases k with
  | d d => exact ⟨h.1, dp_mono e _ _ h.2⟩
  | k kvs =>
    obtain ⟨a, kv, rfl, rfl, h1, h2⟩ := h
    exact ⟨a, kv, rfl, rfl, g a List.mem_cons_self _ h1, kva_mono e h2⟩
  | t kvs =>
    obtain ⟨a, kv, rfl, rfl, h1, h2⟩ := h
    exact ⟨a, kv, rfl, rfl, g a List.mem_cons_self _ h1, kvt_mono e h2⟩
  | kk kvs =>
    obtain ⟨a, kv, f2, rfl, rfl, h1, h2⟩ := h
    exact ⟨a, kv, f2, rfl, rfl, g a List.mem_cons_self _ h1, h2.mono e fun b hb => g b (List.mem_cons_of_mem _ hb)⟩
theorem OwnFs.mono {F H F' H' : Hp} (e : Sub F F') : ∀ {hs : List (Str × V)} {fs : List (Str × Fv)} {fp : List Addr}, OwnFs K F H hs fs fp → (∀ a ∈ fp, ∀ o, H a = some o → H' a = some o) → OwnFs K F' H' hs fs fp
  | [], [], _, h, _ => h
  | p :: r, q :: s, _, h, g => by
    obtain ⟨f1, f2, h1, rfl, h2, h3⟩ := h
    exact ⟨f1, f2, h1, rfl, h2.mono e fun a ha => g a (List.mem_append_left _ ha), OwnFs.mono e h3 fun a ha => g a (List.mem_append_right _ ha)⟩
  | [], _ :: _, _, h, _ => h.elim
  | _ :: _, [], _, h, _ => h.elim
mutual
theorem Own.mono {c : Cfg K} {F H F' H' : Hp} {v : V} : ∀ {k : Cont} {fp : List Addr} (h : Own c F H v k fp) (e : Sub F F') (g : ∀ a ∈ fp, ∀ o, H a = some o → H' a = some o), Own c F' H' v k fp
  | .lst ds, _, h, e, g => by
    obtain ⟨a, xs, rfl, rfl, h1, h2⟩ := h
    exact ⟨a, xs, rfl, rfl, g a List.mem_cons_self _ h1, dpAll_mono e _ _ h2⟩
  | .dT kvs, _, h, e, g => by
    obtain ⟨a, xs, rfl, rfl, h1, h2⟩ := h
    exact ⟨a, xs, rfl, rfl, g a List.mem_cons_self _ h1, kvt_mono e h2⟩
  | .dK kvs, _, h, e, g => by
    obtain ⟨a, xs, rfl, rfl, h1, h2⟩ := h
    exact ⟨a, xs, rfl, rfl, g a List.mem_cons_self _ h1, kva_mono e h2⟩
  | .dKK kvs, _, h, e, g => by
    obtain ⟨a, xs, f2, rfl, rfl, h1, h2, h3⟩ := h
    exact ⟨a, xs, f2, rfl, rfl, g a List.mem_cons_self _ h1, h2.mono e fun b hb => g b (List.mem_cons_of_mem _ hb), h3⟩
  | .ins fs, _, h, e, g => by
    obtain ⟨a, dx, hs, f2, rfl, rfl, h1, h2, h3, h4⟩ := h
    exact ⟨a, dx, hs, f2, rfl, rfl, g a List.mem_cons_self _ h1, g dx (List.mem_cons_of_mem _ List.mem_cons_self) _ h2, h3.mono e fun b hb => g b (List.mem_cons_of_mem _ (List.mem_cons_of_mem _ hb)), h4⟩
  | .los ks, _, h, e, g => by
    obtain ⟨a, xs, f2, rfl, rfl, h1, h2, h3⟩ := h
    exact ⟨a, xs, f2, rfl, rfl, g a List.mem_cons_self _ h1, OwnAll.mono h2 e fun b hb => g b (List.mem_cons_of_mem _ hb), h3⟩
  | .pr k d, _, h, e, g => by
    obtain ⟨a, x, y, f2, rfl, rfl, h1, h2, h3, h4⟩ := h
    exact ⟨a, x, y, f2, rfl, rfl, g a List.mem_cons_self _ h1, Own.mono h2 e fun b hb => g b (List.mem_cons_of_mem _ hb), dp_mono e _ _ h3, h4⟩
theorem OwnAll.mono {c : Cfg K} {F H F' H' : Hp} : ∀ {xs : List V} {ks : List Cont} {fp : List Addr} (h : OwnAll c F H xs ks fp) (e : Sub F F') (g : ∀ a ∈ fp, ∀ o, H a = some o → H' a = some o), OwnAll c F' H' xs ks fp
  | _, [], _, h, _, _ => h
  | _, k :: ks, _, h, e, g => by
    obtain ⟨x, r, f1, f2, rfl, rfl, h1, h2⟩ := h
    exact ⟨x, r, f1, f2, rfl, rfl, Own.mono h1 e fun b hb => g b (List.mem_append_left _ hb), OwnAll.mono h2 e fun b hb => g b (List.mem_append_right _ hb)⟩
end
mutual
/-- what is one's own, as data -/
def asD : Cont → Option D
  | .lst ds => some (.list ds)
  | .dT _ => none
  | .dK _ => none
  | .dKK _ => none
  | .ins _ => none
  | .los ks => (asDs ks).bind fun ds => some (.list ds)
  | .pr k d => (asD k).bind fun x => some (.tuple [x, d])
def asDs : List Cont → Option (List D)
  | [] => some []
  | k :: ks => (asD k).bind fun d => (asDs ks).bind fun ds => some (d :: ds)
end
/-- F, and what stands at fp -/
def fzH (F H : Hp) (fp : List Addr) : Hp := fun a => if a ∈ fp then H a else F a
theorem fzH_in {F H : Hp} {fp : List Addr} {a : Addr} (h : a ∈ fp) : fzH F H fp a = H a := if_pos h
theorem fzH_out {F H : Hp} {fp : List Addr} {a : Addr} (h : a ∉ fp) : fzH F H fp a = F a := if_neg h
theorem fzH_sub {F H : Hp} {fp : List Addr} (h : ∀ a ∈ fp, F a = none) : Sub F (fzH F H fp) := fun a o q => by
  rw [fzH_out (fun z => by rw [h a z] at q; cases q)]
  exact q
theorem fzH_subH {F H : Hp} {fp : List Addr} (h : Sub F H) : Sub (fzH F H fp) H := fun a o q => by
  by_cases z : a ∈ fp
  · rw [fzH_in z] at q
    exact q
  · rw [fzH_out z] at q
    exact h a o q
mutual
theorem own_view {c : Cfg K} {F H F' : Hp} {v : V} (e : Sub F F') : ∀ {k : Cont} {fp : List Addr} {d : D}, Own c F H v k fp → asD k = some d → (∀ a ∈ fp, F' a = H a) → Dp K F' v d
  | .lst ds, _, _, h, q, g => by
    cases q
    obtain ⟨a, xs, rfl, rfl, h1, h2⟩ := h
    exact .lst (.of ((g a List.mem_cons_self).trans h1)) (dpAll_mono e _ _ h2)
  | .dT _, _, _, _, q, _ => by cases q
  | .dK _, _, _, _, q, _ => by cases q
  | .dKK _, _, _, _, q, _ => by cases q
  | .ins _, _, _, _, q, _ => by cases q
  | .los ks, _, _, h, q, g => by
    obtain ⟨ds, q1, q2⟩ := Option.bind_eq_some_iff.mp q
    cases q2
    obtain ⟨a, xs, f2, rfl, rfl, h1, h2, _⟩ := h
    exact .lst (.of ((g a List.mem_cons_self).trans h1)) (own_views e h2 q1 fun b hb => g b (List.mem_cons_of_mem _ hb))
  | .pr k d, _, _, h, q, g => by
    obtain ⟨d1, q1, q2⟩ := Option.bind_eq_some_iff.mp q
    cases q2
    obtain ⟨a, x, y, f2, rfl, rfl, h1, h2, h3, _⟩ := h
    exact .tup (.of ((g a List.mem_cons_self).trans h1)) (.cons (own_view e h2 q1 fun b hb => g b (List.mem_cons_of_mem _ hb)) (.cons (dp_mono e _ _ h3) .nil))
theorem own_views {c : Cfg K} {F H F' : Hp} (e : Sub F F') : ∀ {xs : List V} {ks : List Cont} {fp : List Addr} {ds : List D}, OwnAll c F H xs ks fp → asDs ks = some ds → (∀ a ∈ fp, F' a = H a) → DpAll K F' xs ds
  | _, [], _, _, h, q, _ => by
    cases q
    rw [h.1]
    exact .nil
  | _, k :: ks, _, _, h, q, g => by
    obtain ⟨d, q1, q⟩ := Option.bind_eq_some_iff.mp q
    obtain ⟨ds, q2, q⟩ := Option.bind_eq_some_iff.mp q
    cases q
    obtain ⟨x, r, f1, f2, rfl, rfl, h1, h2⟩ := h
    exact .cons (own_view e h1 q1 fun b hb => g b (List.mem_append_left _ hb)) (own_views e h2 q2 fun b hb => g b (List.mem_append_right _ hb))
end
/-- the slots as they lie -/
structure Rel (c : Cfg K) (w : W) (σ : St) (s : List Slot) : Prop where
  len : σ.length = s.length
  sub : Sub w.F w.H
  out : ∀ i a, a ∈ w.φ i → w.F a = none ∧ ∃ o, w.H a = some o
  fz : ∀ (i : Nat) (d : D), s[i]? = some (Slot.fz d) → ∃ v, σ[i]? = some (some v) ∧ Dp K w.F v d
  ow : ∀ (i : Nat) (p : Bool) (k : Cont), s[i]? = some (Slot.ow p k) → ∃ v, σ[i]? = some (some v) ∧ Own c w.F w.H v k (w.φ i)
  dis : ∀ i j a, a ∈ w.φ i → a ∈ w.φ j → i = j
  non : ∀ (i : Nat), (∀ (p : Bool) (k : Cont), s[i]? ≠ some (Slot.ow p k)) → w.φ i = []
  tb : (∀ a ∈ c.T, a ∈ w.T) ∧ ∀ a ∈ w.T, GxR.TabG w.H a ∧ w.F a = none ∧ ∀ i, a ∉ w.φ i
/-- owned by no slot, no table of codes -/
abbrev W.no (w : W) (a : Addr) : Prop := (∀ i, a ∉ w.φ i) ∧ a ∉ w.T
/-- what a run may do -/
structure Le (w w' : W) : Prop where
  f : Sub w.F w'.F
  h : ∀ a o, w.H a = some o → w.no a → w'.H a = some o ∧ w'.F a = w.F a
  p : ∀ i a, a ∈ w'.φ i → a ∈ w.φ i ∨ w.H a = none
  t : ∀ a o, w.H a = some o → ∃ o', w'.H a = some o'
  x : w'.T = w.T ∧ ∀ a ∈ w.T, GxR.TabG w.H a → GxR.TabG w'.H a ∧ w'.F a = w.F a
theorem Le.refl (w : W) : Le w w := ⟨fun _ _ h => h, fun _ _ h _ => (And.intro h rfl), fun _ _ h => .inl h, fun _ o h => ⟨o, h⟩, ⟨rfl, fun _ _ h => ⟨h, rfl⟩⟩⟩
theorem Le.np {w w' : W} (e : Le w w') {a : Addr} {o : HO} (h : w.H a = some o) (n : w.no a) : w'.no a := by
  refine ⟨fun i z => ?_, by rw [e.x.1]; exact n.2⟩
  rcases e.p i a z with z | z
  · exact n.1 i z
  · rw [h] at z
    cases z
theorem Le.back {w w' : W} (e : Le w w') {a : Addr} (h : w'.H a = none) : w.H a = none := by
  cases q : w.H a with
  | none => rfl
  | some o =>
    obtain ⟨o', z⟩ := e.t a o q
    rw [h] at z
    cases z
theorem Le.trans {w w' w'' : W} (a : Le w w') (b : Le w' w'') : Le w w'' where
  f := fun x o h => b.f x o (a.f x o h)
  h := fun x o h n => by
    obtain ⟨h1, h2⟩ := a.h x o h n
    obtain ⟨h3, h4⟩ := b.h x o h1 (a.np h n)
    exact ⟨h3, h4.trans h2⟩
  p := fun i x h => by
    rcases b.p i x h with h | h
    · exact a.p i x h
    · exact .inr (a.back h)
  t := fun x o h => by
    obtain ⟨o', h1⟩ := a.t x o h
    exact b.t x o' h1
  x := ⟨b.x.1.trans a.x.1, fun p hp h => by
    obtain ⟨h1, h2⟩ := a.x.2 p hp h
    obtain ⟨h3, h4⟩ := b.x.2 p (by rw [a.x.1]; exact hp) h1
    exact ⟨h3, h4.trans h2⟩⟩
/-- what was handed in stays where it is -/
def Keep (s s' : List Slot) : Prop := ∀ (j : Nat) (k : Cont), s'[j]? = some (.ow true k) → ∃ k', s[j]? = some (.ow true k')
theorem Keep.refl (s : List Slot) : Keep s s := fun j k h => ⟨k, h⟩
theorem Keep.trans {s s' s'' : List Slot} (a : Keep s s') (b : Keep s' s'') : Keep s s'' := fun j k h => by
  obtain ⟨k', h1⟩ := b j k h
  exact a j k' h1
/-- an operand's value -/
def RepO (c : Cfg K) (B : Hp) (w : W) (σ : St) : Op → V → Prop
  | .v d, v => Dp K w.F v d
  | .nw k, v => ∃ fp, Own c w.F w.H v k fp ∧ ∀ a ∈ fp, B a = none ∧ w.F a = none ∧ w.no a ∧ ∃ o, w.H a = some o
  | .sl i, v => σ[i]? = some (some v)
  | .ex _, _ => False
theorem RepO.base {c : Cfg K} {B B' : Hp} {w : W} {σ : St} {o : Op} {v : V} (h : RepO c B w σ o v) (e : ∀ a, B a = none → B' a = none) : RepO c B' w σ o v := by
  cases o with
  | v d => exact h
  | nw k =>
    obtain ⟨fp, h1, h2⟩ := h
    exact ⟨fp, h1, fun a ha => ⟨e a (h2 a ha).1, (h2 a ha).2⟩⟩
  | sl i => exact h
  | ex n => exact h
theorem RepO.back {c : Cfg K} {w₀ w₁ w : W} {σ : St} {o : Op} {v : V} (h : RepO c w₁.H w σ o v) (l : Le w₀ w₁) : RepO c w₀.H w σ o v := h.base fun a q => l.back q
theorem RepO.go {c : Cfg K} {B : Hp} {w w' : W} {σ : St} {o : Op} {v : V} (h : RepO c B w σ o v) (e : Le w w') : RepO c B w' σ o v := by
  cases o with
  | v d => exact dp_mono e.f _ _ h
  | nw k =>
    obtain ⟨fp, h1, h2⟩ := h
    refine ⟨fp, h1.mono e.f fun a ha o ho => (e.h a o ho (h2 a ha).2.2.1).1, fun a ha => ?_⟩
    obtain ⟨q0, q1, q2, o, q3⟩ := h2 a ha
    obtain ⟨q4, q5⟩ := e.h a o q3 q2
    exact ⟨q0, q5.trans q1, e.np q3 q2, o, q4⟩
  | sl i => exact h
  | ex n => exact h
/-- what an operand holds, as data -/
def cD (s : List Slot) : Op → Option D
  | .v d => some d
  | .nw (.lst ds) => some (.list ds)
  | .nw _ => none
  | .sl i => match s[i]? with
    | some (.fz d) => some d
    | some (.ow _ (.lst ds)) => some (.list ds)
    | _ => none
  | .ex _ => none
/-- .. as an object of one's own -/
def cC (s : List Slot) : Op → Option Cont
  | .v _ => none
  | .nw k => some k
  | .sl i => match s[i]? with
    | some (.ow _ k) => some k
    | _ => none
  | .ex _ => none
/-- data to be read: a list's items are told over what nothing changes -/
def VD (w : W) (v : V) : D → Prop
  | .list ds => ∃ a xs, v = .ref a ∧ SqL K w.H a xs ∧ DpAll K w.F xs ds
  | d => Dp K w.F v d
end
section
variable {K : PySem.W.Frag} {c : Cfg K} {B : Hp} {w w' : W} {σ : St} {s s' : List Slot} {o : Op} {v : V} {d : D}
theorem VD.of (e : Sub w.F w.H) (h : Dp K w.F v d) : VD (K := K) w v d := by
  cases d with
  | list ds =>
    cases h with
    | lst h1 h2 => exact ⟨_, _, rfl, sqL_mono e h1, h2⟩
  | _ => exact h
theorem VD.dp (e : Sub w.F w.H) (h : VD (K := K) w v d) : Dp K w.H v d := by
  cases d with
  | list ds =>
    obtain ⟨a, xs, rfl, h1, h2⟩ := h
    exact .lst h1 (dpAll_mono e _ _ h2)
  | _ => exact dp_mono e _ _ h
theorem Rel.no_of (R : Rel c w σ s) {p : Addr} (hp : w.H p = none) : w.no p := by
  refine ⟨fun i z => ?_, fun z => ?_⟩
  · obtain ⟨_, u, q⟩ := R.out i p z
    rw [hp] at q
    cases q
  · obtain ⟨⟨_, q, _⟩, _⟩ := R.tb.2 p z
    rw [hp] at q
    cases q
theorem Rel.view (R : Rel c w σ s) (h : RepO c B w σ o v) (e : cD s o = some d) : VD (K := K) w v d := by
  cases o with
  | ex n => cases e
  | v d' =>
    cases e
    exact VD.of R.sub h
  | nw k =>
    cases k with
    | lst ds =>
      cases e
      obtain ⟨fp, ⟨a, xs, rfl, _, h1, h2⟩, _⟩ := h
      exact ⟨a, xs, rfl, .of h1, h2⟩
    | _ => cases e
  | sl i =>
    have e' : (match s[i]? with | some (.fz d) => some d | some (.ow _ (.lst ds)) => some (PyData.list ds) | _ => none) = some d := e
    have h' : σ[i]? = some (some v) := h
    cases q : s[i]? with
    | none =>
      rw [q] at e'
      cases e'
    | some x =>
      rw [q] at e'
      cases x with
      | un => cases e'
      | fz d' =>
        cases e'
        obtain ⟨v', h1, h2⟩ := R.fz i d q
        rw [h'] at h1
        cases h1
        exact VD.of R.sub h2
      | ow p k =>
        cases k with
        | lst ds =>
          cases e'
          obtain ⟨v', h1, h2⟩ := R.ow i p _ q
          rw [h'] at h1
          cases h1
          obtain ⟨a, xs, rfl, _, h3, h4⟩ := h2
          exact ⟨a, xs, rfl, .of h3, h4⟩
        | _ => cases e'
theorem Rel.viewC (R : Rel c w σ s) (h : RepO c B w σ o v) {k : Cont} (e : cC s o = some k) : ∃ fp, Own c w.F w.H v k fp := by
  cases o with
  | ex n => cases e
  | v d' => cases e
  | nw k' =>
    cases e
    obtain ⟨fp, h, _⟩ := h
    exact ⟨fp, h⟩
  | sl i =>
    have e' : (match s[i]? with | some (.ow _ k) => some k | _ => none) = some k := e
    have h' : σ[i]? = some (some v) := h
    cases q : s[i]? with
    | none =>
      rw [q] at e'
      cases e'
    | some x =>
      rw [q] at e'
      cases x with
      | un => cases e'
      | fz d' => cases e'
      | ow p k' =>
        cases e'
        obtain ⟨v', h1, h2⟩ := R.ow i p _ q
        rw [h'] at h1
        cases h1
        exact ⟨_, h2⟩
end
end Sh
-- Sh2.lean
set_option Elab.async false
set_option linter.all false
set_option maxRecDepth 100000
set_option maxHeartbeats 1000000
/-! Sh2: expressions. -/
namespace Sh
open PySem L2
abbrev M := List Slot → Option (Op × List Slot)
abbrev MT := List Slot → Option (Bool × List Slot)
abbrev MA := List Slot → Option (List Op × List Slot)
section
variable {K : PySem.W.Frag}
def liftE (c : Cfg K) (m : M) : TE := fun σ H Q => ∃ w s, w.H = H ∧ Rel c w σ s ∧ ∃ o s', m s = some (o, s') ∧ ∀ v w', Le w w' → Rel c w' σ s' → Keep s s' → RepO c w.H w' σ o v → Q v w'.H
def liftT (c : Cfg K) (m : MT) : TT := fun σ H Q => ∃ w s, w.H = H ∧ Rel c w σ s ∧ ∃ b s', m s = some (b, s') ∧ ∀ w', Le w w' → Rel c w' σ s' → Keep s s' → Q b w'.H
abbrev RepOs (c : Cfg K) (B : Hp) (w : W) (σ : St) : List Op → List V → Prop := Paired (RepO c B w σ)
def liftA (c : Cfg K) (m : MA) : TA := fun σ H Q => ∃ w s, w.H = H ∧ Rel c w σ s ∧ ∃ os s', m s = some (os, s') ∧ ∀ vs w', Le w w' → Rel c w' σ s' → Keep s s' → RepOs c w.H w' σ os vs → Q vs w'.H
theorem RepOs.go {c : Cfg K} {B : Hp} {w w' : W} {σ : St} {os : List Op} {vs : List V} (h : RepOs c B w σ os vs) (e : Le w w') : RepOs c B w' σ os vs := Paired.mapP h fun _ _ z => z.go e
theorem RepOs.back {c : Cfg K} {w₀ w₁ w : W} {σ : St} {os : List Op} {vs : List V} (h : RepOs c w₁.H w σ os vs) (l : Le w₀ w₁) : RepOs c w₀.H w σ os vs := Paired.mapP h fun _ _ z => z.back l
end
theorem _root_.L2.PE.imp {X : Cx} {e : Expr} {t t' : TE} (h : PE X e t) (i : ∀ σ H Q, t' σ H Q → t σ H Q) : PE X e t' := ⟨fun pins s σ H Q I q => h.run pins s σ H Q I (i _ _ _ q)⟩
theorem _root_.L2.PT.imp {X : Cx} {e : Expr} {t t' : TT} (h : PT X e t) (i : ∀ σ H Q, t' σ H Q → t σ H Q) : PT X e t' := ⟨fun pins s σ H Q I q => h.run pins s σ H Q I (i _ _ _ q)⟩
theorem _root_.L2.PW.imp {X : Cx} {e : Expr} {t t' : TT} (h : PW X e t) (i : ∀ σ H Q, t' σ H Q → t σ H Q) : PW X e t' := ⟨fun wh pins s σ H Q I q => h.run wh pins s σ H Q I (i _ _ _ q)⟩
theorem _root_.L2.PA.imp {X : Cx} {e : List Expr} {t t' : TA} (h : PA X e t) (i : ∀ σ H Q, t' σ H Q → t σ H Q) : PA X e t' := ⟨fun pos pins s σ H Q I q => h.run pos pins s σ H Q I (i _ _ _ q)⟩
theorem _root_.L2.PS.imp {X : Cx} {e : Stmt} {t t' : TS} (h : PS X e t) (i : ∀ D σ H, t' D σ H → t D σ H) : PS X e t' := ⟨fun pins s σ H D I q => h.run pins s σ H D I (i _ _ _ q)⟩
theorem _root_.L2.PSs.imp {X : Cx} {e : List Stmt} {t t' : TS} (h : PSs X e t) (i : ∀ D σ H, t' D σ H → t D σ H) : PSs X e t' := ⟨fun pins s σ H D I q => h.run pins s σ H D I (i _ _ _ q)⟩
theorem bnd {α β : Type} {x : Option α} {f : α → Option β} {b : β} (h : x.bind f = some b) : ∃ a, x = some a ∧ f a = some b := Option.bind_eq_some_iff.mp h
/-! ### growth -/
structure Gr (w w' : W) : Prop where
  p : w'.φ = w.φ
  f : Sub w.F w'.F
  h : ∀ a o, w.H a = some o → w'.H a = some o ∧ w'.F a = w.F a
  s : Sub w'.F w'.H
  t : w'.T = w.T
theorem Gr.tab {w w' : W} (g : Gr w w') {a : Addr} (h : GxR.TabG w.H a) : GxR.TabG w'.H a ∧ w'.F a = w.F a := by
  obtain ⟨ps, h1, h2⟩ := h
  obtain ⟨h3, h4⟩ := g.h a _ h1
  exact ⟨⟨ps, h3, h2⟩, h4⟩
theorem Gr.le {w w' : W} (g : Gr w w') : Le w w' := ⟨g.f, fun a o h _ => g.h a o h, fun i a h => .inl (by rw [g.p] at h; exact h), fun a o h => ⟨o, (g.h a o h).1⟩, ⟨g.t, fun a _ h => g.tab h⟩⟩
theorem Gr.refl {w : W} (e : Sub w.F w.H) : Gr w w := ⟨rfl, fun _ _ h => h, fun _ _ h => ⟨h, rfl⟩, e, rfl⟩
section
variable {K : PySem.W.Frag} {c : Cfg K} {B : Hp} {w w' : W} {σ : St} {s s' : List Slot} {o : Op} {v : V} {d : D}
theorem Rel.grow (R : Rel c w σ s) (g : Gr w w') : Rel c w' σ s := by
  refine ⟨R.len, g.s, fun i a ha => ?_, fun i d e => ?_, fun i p k e => ?_, fun i j a h1 h2 => ?_, fun i h => ?_, ⟨fun a ha => by rw [g.t]; exact R.tb.1 a ha, fun a ha => ?_⟩⟩
  · rw [g.p] at ha
    obtain ⟨h1, o, h2⟩ := R.out i a ha
    obtain ⟨h3, h4⟩ := g.h a o h2
    exact ⟨h4.trans h1, o, h3⟩
  · obtain ⟨v, h1, h2⟩ := R.fz i d e
    exact ⟨v, h1, dp_mono g.f _ _ h2⟩
  · obtain ⟨v, h1, h2⟩ := R.ow i p k e
    rw [g.p]
    exact ⟨v, h1, h2.mono g.f fun a _ o ho => (g.h a o ho).1⟩
  · rw [g.p] at h1 h2
    exact R.dis i j a h1 h2
  · rw [g.p]
    exact R.non i h
  · rw [g.t] at ha
    obtain ⟨h1, h2, h3⟩ := R.tb.2 a ha
    obtain ⟨h4, h5⟩ := g.tab h1
    exact ⟨h4, h5.trans h2, by rw [g.p]; exact h3⟩
theorem RepO.grow (h : RepO c B w σ o v) (g : Gr w w') : RepO c B w' σ o v := h.go g.le
/-- a new object is laid, owned by none so far -/
theorem gr_lay (e : Sub w.F w.H) {p : Addr} {x : HO} (hp : w.H p = none) : Gr w { w with H := upd w.H p x } := ⟨rfl, fun _ _ h => h, fun a o h => ⟨by
  show upd w.H p x a = some o
  rw [upd_ne (ne_of_none h hp)]
  exact h, rfl⟩, fun a o h => by
  show upd w.H p x a = some o
  rw [upd_ne (ne_of_none (e a o h) hp)]
  exact e a o h, rfl⟩
theorem none_of_sub {F H : Hp} (e : Sub F H) {p : Addr} (hp : H p = none) : F p = none := by
  cases q : F p with
  | none => rfl
  | some o =>
    rw [e p o q] at hp
    cases hp
/-- .. that nothing will change -/
theorem gr_fix (e : Sub w.F w.H) {p : Addr} {x : HO} (hp : w.H p = none) : Gr w { w with H := upd w.H p x, F := upd w.F p x } := by
  have hf := none_of_sub e hp
  refine ⟨rfl, fun a o h => ?_, fun a o h => ⟨?_, ?_⟩, fun a o h => ?_, rfl⟩
  · show upd w.F p x a = some o
    rw [upd_ne (ne_of_none h hf)]
    exact h
  · show upd w.H p x a = some o
    rw [upd_ne (ne_of_none h hp)]
    exact h
  · show upd w.F p x a = w.F a
    rw [upd_ne (ne_of_none h hp)]
  · have h : upd w.F p x a = some o := h
    show upd w.H p x a = some o
    by_cases q : a = p
    · subst q
      rw [upd_same] at h ⊢
      exact h
    · rw [upd_ne q] at h ⊢
      exact e a o h
/-! ### what an operation gives -/
inductive Res where
  | d (d : D)
  | nl (ds : List D)
def Res.op : Res → Op
  | .d d => .v d
  | .nl ds => .nw (.lst ds)
def RepR (K : PySem.W.Frag) (w w' : W) : Res → V → Prop
  | .d d, v => Dp K w'.F v d
  | .nl ds, v => ∃ p xs, v = .ref p ∧ w.H p = none ∧ w'.H p = some (.lst xs) ∧ w'.F p = none ∧ DpAll K w'.F xs ds
def Fin (K : PySem.W.Frag) (w : W) (Q : VK) (r : Res) : Prop := ∀ v w', Gr w w' → RepR K w w' r v → Q v w'.H
theorem Fin.go {Q : VK} {r : Res} (R : Rel c w σ s) (k : ∀ v w', Le w w' → Rel c w' σ s → RepO c w.H w' σ r.op v → Q v w'.H) : Fin K w Q r := fun v w' g h => by
  refine k v w' g.le (R.grow g) ?_
  cases r with
  | d d => exact h
  | nl ds =>
    obtain ⟨p, xs, rfl, h0, h1, h2, h3⟩ := h
    refine ⟨[p], ⟨p, xs, rfl, rfl, h1, h3⟩, fun a ha => ?_⟩
    have ea : a = p := List.mem_singleton.mp ha
    subst ea
    refine ⟨h0, h2, ⟨fun i z => ?_, fun z => ?_⟩, _, h1⟩
    · rw [g.p] at z
      obtain ⟨_, o, q⟩ := R.out i a z
      rw [h0] at q
      cases q
    · rw [g.t] at z
      obtain ⟨⟨_, q, _⟩, _⟩ := R.tb.2 a z
      rw [h0] at q
      cases q
theorem Fin.val {Q : VK} {d : D} (e : Sub w.F w.H) (k : Fin K w Q (.d d)) {v : V} (h : Dp K w.F v d) : Q v w.H := k v w (Gr.refl e) h
theorem Fin.lst {Q : VK} {ds : List D} (e : Sub w.F w.H) (k : Fin K w Q (.nl ds)) {xs : List V} (h : DpAll K w.F xs ds) {p : Addr} (hp : w.H p = none) : Q (.ref p) (upd w.H p (.lst xs)) :=
  k (.ref p) _ (gr_lay e hp) ⟨p, xs, rfl, hp, upd_same, none_of_sub e hp, h⟩
theorem Fin.tup {Q : VK} {ds : List D} (e : Sub w.F w.H) (k : Fin K w Q (.d (.tuple ds))) {xs : List V} (h : DpAll K w.F xs ds) {p : Addr} (hp : w.H p = none) : Q (.ref p) (upd w.H p (.tup xs)) :=
  k (.ref p) _ (gr_fix (x := .tup xs) e hp) (.tup (.of upd_same) (dpAll_mono (gr_fix (x := .tup xs) e hp).f _ _ h))
/-! ### two operands, one, a call -/
def Sem2 (K : PySem.W.Frag) (r : R2) (f : D → D → Option Res) : Prop := ∀ (w : W) (x y : V) (d e : D) (res : Res), Sub w.F w.H → VD (K := K) w x d → VD (K := K) w y e → f d e = some res → ∀ Q : VK, Fin K w Q res → r x y w.H Q
def Sem1 (K : PySem.W.Frag) (r : V → Hp → VK → Prop) (f : D → Option Res) : Prop := ∀ (w : W) (x : V) (d : D) (res : Res), Sub w.F w.H → VD (K := K) w x d → f d = some res → ∀ Q : VK, Fin K w Q res → r x w.H Q
abbrev VDs (K : PySem.W.Frag) (w : W) : List V → List D → Prop := Paired (VD (K := K) w)
def SemC (K : PySem.W.Frag) (r : List V → Hp → VK → Prop) (f : List D → Option Res) : Prop := ∀ (w : W) (xs : List V) (ds : List D) (res : Res), Sub w.F w.H → VDs K w xs ds → f ds = some res → ∀ Q : VK, Fin K w Q res → r xs w.H Q
def mBin (f : D → D → Option Res) (ma mb : M) : M := fun s => (ma s).bind fun p => (mb p.2).bind fun q => (cD q.2 p.1).bind fun d => (cD q.2 q.1).bind fun e => (f d e).bind fun r => some (r.op, q.2)
def mUn (f : D → Option Res) (ma : M) : M := fun s => (ma s).bind fun p => (cD p.2 p.1).bind fun d => (f d).bind fun r => some (r.op, p.2)
def cDs (s : List Slot) : List Op → Option (List D)
  | [] => some []
  | o :: os => (cD s o).bind fun d => (cDs s os).bind fun ds => some (d :: ds)
def mCall (f : List D → Option Res) (ma : MA) : M := fun s => (ma s).bind fun p => (cDs p.2 p.1).bind fun ds => (f ds).bind fun r => some (r.op, p.2)
theorem lift_bin {r : R2} {f : D → D → Option Res} {ma mb : M} (hs : Sem2 K r f) {H : Hp} {Q : VK} (h : liftE c (mBin f ma mb) σ H Q) : tOp r (liftE c ma) (liftE c mb) σ H Q := by
  obtain ⟨w, s, rfl, R, o, s', e, k⟩ := h
  obtain ⟨⟨o1, s1⟩, e1, e⟩ := bnd e
  obtain ⟨⟨o2, s2⟩, e2, e⟩ := bnd e
  obtain ⟨d1, e3, e⟩ := bnd e
  obtain ⟨d2, e4, e⟩ := bnd e
  obtain ⟨res, e5, e⟩ := bnd e
  cases e
  refine ⟨w, s, rfl, R, o1, s1, e1, fun v1 w1 l1 R1 k1 q1 => ?_⟩
  refine ⟨w1, s1, rfl, R1, o2, s2, e2, fun v2 w2 l2 R2 k2 q2 => ?_⟩
  exact hs w2 v1 v2 d1 d2 res R2.sub (R2.view (q1.go l2) e3) (R2.view q2 e4) e5 _ (Fin.go R2 fun v w' l R' q => k v w' ((l1.trans l2).trans l) R' (k1.trans k2) (q.back (l1.trans l2)))
theorem lift_un {r : V → Hp → VK → Prop} {f : D → Option Res} {ma : M} (hs : Sem1 K r f) {H : Hp} {Q : VK} (h : liftE c (mUn f ma) σ H Q) : tUn r (liftE c ma) σ H Q := by
  obtain ⟨w, s, rfl, R, o, s', e, k⟩ := h
  obtain ⟨⟨o1, s1⟩, e1, e⟩ := bnd e
  obtain ⟨d1, e3, e⟩ := bnd e
  obtain ⟨res, e5, e⟩ := bnd e
  cases e
  refine ⟨w, s, rfl, R, o1, s1, e1, fun v1 w1 l1 R1 k1 q1 => ?_⟩
  exact hs w1 v1 d1 res R1.sub (R1.view q1 e3) e5 _ (Fin.go R1 fun v w' l R' q => k v w' (l1.trans l) R' k1 (q.back l1))
theorem view_all (R : Rel c w σ s) : ∀ {os : List Op} {vs : List V} {ds : List D}, RepOs c B w σ os vs → cDs s os = some ds → VDs K w vs ds
  | [], _, _, h, e => by
    cases h
    cases e
    exact .nil
  | o :: os, _, _, h, e => by
    cases h with
    | cons h1 h2 =>
      obtain ⟨d, e1, e⟩ := bnd e
      obtain ⟨ds, e2, e⟩ := bnd e
      cases e
      exact .cons (R.view h1 e1) (view_all R h2 e2)
theorem lift_call {r : List V → Hp → VK → Prop} {f : List D → Option Res} {ma : MA} (hs : SemC K r f) {H : Hp} {Q : VK} (h : liftE c (mCall f ma) σ H Q) : tCB r (liftA c ma) σ H Q := by
  obtain ⟨w, s, rfl, R, o, s', e, k⟩ := h
  obtain ⟨⟨os, s1⟩, e1, e⟩ := bnd e
  obtain ⟨ds, e3, e⟩ := bnd e
  obtain ⟨res, e5, e⟩ := bnd e
  cases e
  refine ⟨w, s, rfl, R, os, s1, e1, fun vs w1 l1 R1 k1 q1 => ?_⟩
  exact hs w1 vs ds res R1.sub (view_all R1 q1 e3) e5 _ (Fin.go R1 fun v w' l R' q => k v w' (l1.trans l) R' k1 (q.back l1))
end
/-! ### names, constants -/
def mVar (i : Nat) : M := fun s => match s[i]? with
  | some (.fz d) => some (.v d, s)
  | some (.ow _ _) => some (.sl i, s)
  | _ => none
def mC (d : D) : M := fun s => some (.v d, s)
section
variable {X : Cx} {c : Cfg X.K} {pos : Pos}
theorem she_var (i : Nat) {x : Str} (h : PE X (.Name x pos) (tVar i)) : PE X (.Name x pos) (liftE c (mVar i)) := h.imp fun σ H Q q => by
  obtain ⟨w, s, rfl, R, o, s', e, k⟩ := q
  have e' : (match s[i]? with | some (.fz d) => some (Op.v d, s) | some (.ow _ _) => some (.sl i, s) | _ => none) = some (o, s') := e
  cases hq : s[i]? with
  | none =>
    rw [hq] at e'
    cases e'
  | some x =>
    rw [hq] at e'
    cases x with
    | un => cases e'
    | fz d =>
      cases e'
      obtain ⟨v, h1, h2⟩ := R.fz i d hq
      exact ⟨v, h1, k v w (Le.refl w) R (Keep.refl _) h2⟩
    | ow p kk =>
      cases e'
      obtain ⟨v, h1, h2⟩ := R.ow i p kk hq
      exact ⟨v, h1, k v w (Le.refl w) R (Keep.refl _) h1⟩
theorem she_c {e : Expr} {v : V} {d : D} (h : PE X e (tC v)) (hd : ∀ F, Dp X.K F v d) : PE X e (liftE c (mC d)) := h.imp fun σ H Q q => by
  obtain ⟨w, s, rfl, R, o, s', e, k⟩ := q
  cases e
  exact k v w (Le.refl w) R (Keep.refl _) (hd _)
theorem she_int {i : Int} {j} : PE X (.Constant (.int i) j pos) (liftE c (mC (.int i))) := she_c pe_int fun _ => .int i
theorem she_bl {b : Bool} {j} : PE X (.Constant (.bool b) j pos) (liftE c (mC (.bool b))) := she_c pe_bl fun _ => .bl b
theorem she_non {j} : PE X (.Constant .none j pos) (liftE c (mC .none)) := she_c pe_non fun _ => .non
theorem she_str {x : Str} {j} : PE X (.Constant (.str x) j pos) (liftE c (mC (.str x))) := she_c pe_str fun _ => .str x
variable {a b : Expr} {ma mb : M}
theorem she_op {op : Operator} {r : R2} {f : D → D → Option Res} (ho : OpR X (binaryOp op) r) (hs : Sem2 X.K r f) (ha : PE X a (liftE c ma)) (hb : PE X b (liftE c mb)) : PE X (.BinOp a op b pos) (liftE c (mBin f ma mb)) :=
  (pe_op ho ha hb).imp fun _ _ _ h => lift_bin hs h
theorem she_un {op : UnaryOp} {r : V → Hp → VK → Prop} {f : D → Option Res} (ho : UnR X (unaryOp op) r) (hs : Sem1 X.K r f) (ha : PE X a (liftE c ma)) : PE X (.UnaryOp op a pos) (liftE c (mUn f ma)) :=
  (pe_un ho ha).imp fun _ _ _ h => lift_un hs h
theorem she_cmp {op : CmpOp} {r : R2} {f : D → D → Option Res} (ho : OpR X (compareOp op) r) (hs : Sem2 X.K r f) (ha : PE X a (liftE c ma)) (hb : PE X b (liftE c mb)) (hm : behindInMarks op b = false) : PE X (.Compare a [op] [b] pos) (liftE c (mBin f ma mb)) :=
  (pe_cmpR ho ha hb hm).imp fun _ _ _ h => lift_bin hs h
theorem she_ix {r : R2} {f : D → D → Option Res} (ho : IxR X r) (hs : Sem2 X.K r f) (ha : PE X a (liftE c ma)) (hb : PE X b (liftE c mb)) (hp : PlainIx b) : PE X (.Subscript a b pos) (liftE c (mBin f ma mb)) :=
  (pe_ix ho ha hb hp).imp fun _ _ _ h => lift_bin hs h
/-! ### tests -/
def mTst (m : M) : MT := fun s => (m s).bind fun p => (cD p.2 p.1).bind fun d => match d with
  | .bool b => some (b, p.2)
  | _ => none
theorem lift_tst {K : PySem.W.Frag} {c : Cfg K} {m : M} {σ : St} {H : Hp} {Q : Bool → Hp → Prop} (h : liftT c (mTst m) σ H Q) : liftE c m σ H fun x H1 => ∃ b, x = .bl b ∧ Q b H1 := by
  obtain ⟨w, s, rfl, R, o, s', e, k⟩ := h
  obtain ⟨⟨o1, s1⟩, e1, e⟩ := bnd e
  obtain ⟨d, e2, e⟩ := bnd e
  cases d with
  | bool b =>
    cases e
    refine ⟨w, s, rfl, R, o1, _, e1, fun v1 w1 l1 R1 k1 q1 => ?_⟩
    have z : Dp K w1.F v1 (.bool o) := R1.view q1 e2
    cases z
    exact ⟨o, rfl, k w1 l1 R1 k1⟩
  | _ => cases e
theorem sht_val {m : M} (h : PE X a (liftE c m)) (he : ∀ whole, isTrue a X.env whole = (do let v ← whole; standAt a.pos; holding [v] (truthy v)) := by intro _; rfl) : PT X a (liftT c (mTst m)) := (pt_val h he).imp fun _ _ _ q => lift_tst q
def mNotT (m : MT) : MT := fun s => (m s).bind fun p => some (!p.1, p.2)
theorem sht_not {m : MT} (h : PT X a (liftT c m)) : PT X (.UnaryOp .Not a pos) (liftT c (mNotT m)) := (pt_not h).imp fun σ H Q q => by
  obtain ⟨w, s, rfl, R, o, s', e, k⟩ := q
  obtain ⟨⟨b1, s1⟩, e1, e⟩ := bnd e
  cases e
  exact ⟨w, s, rfl, R, b1, s1, e1, fun w1 l1 R1 k1 => k w1 l1 R1 k1⟩
def mAndT (m n : MT) : MT := fun s => (m s).bind fun p => if p.1 = true then n p.2 else some (false, p.2)
def mOrT (m n : MT) : MT := fun s => (m s).bind fun p => if p.1 = true then some (true, p.2) else n p.2
theorem lift_andT {K : PySem.W.Frag} {c : Cfg K} {m n : MT} {σ : St} {H : Hp} {Q : Bool → Hp → Prop} (h : liftT c (mAndT m n) σ H Q) : tAnd (liftT c m) (liftT c n) σ H Q := by
  obtain ⟨w, s, rfl, R, o, s', e, k⟩ := h
  obtain ⟨⟨b1, s1⟩, e1, e⟩ := bnd e
  refine ⟨w, s, rfl, R, b1, s1, e1, fun w1 l1 R1 k1 => ?_⟩
  cases b1 with
  | true => exact iteT ⟨w1, s1, rfl, R1, o, s', e, fun w2 l2 R2 k2 => k w2 (l1.trans l2) R2 (k1.trans k2)⟩
  | false =>
    cases e
    exact iteF (k w1 l1 R1 k1)
theorem lift_orT {K : PySem.W.Frag} {c : Cfg K} {m n : MT} {σ : St} {H : Hp} {Q : Bool → Hp → Prop} (h : liftT c (mOrT m n) σ H Q) : tOr (liftT c m) (liftT c n) σ H Q := by
  obtain ⟨w, s, rfl, R, o, s', e, k⟩ := h
  obtain ⟨⟨b1, s1⟩, e1, e⟩ := bnd e
  refine ⟨w, s, rfl, R, b1, s1, e1, fun w1 l1 R1 k1 => ?_⟩
  cases b1 with
  | true =>
    cases e
    exact iteT (k w1 l1 R1 k1)
  | false => exact iteF ⟨w1, s1, rfl, R1, o, s', e, fun w2 l2 R2 k2 => k w2 (l1.trans l2) R2 (k1.trans k2)⟩
variable {rest : List Expr}
theorem shw_and1 {m : MT} (h : PT X a (liftT c m)) : PW X (.BoolOp .And [a] pos) (liftT c m) := pw_and1 h
theorem shw_or1 {m : MT} (h : PT X a (liftT c m)) : PW X (.BoolOp .Or [a] pos) (liftT c m) := pw_or1 h
theorem shw_and {m n : MT} (h : PT X a (liftT c m)) (g : PW X (.BoolOp .And (b :: rest) pos) (liftT c n)) : PW X (.BoolOp .And (a :: b :: rest) pos) (liftT c (mAndT m n)) := (pw_and h g).imp fun _ _ _ q => lift_andT q
theorem shw_or {m n : MT} (h : PT X a (liftT c m)) (g : PW X (.BoolOp .Or (b :: rest) pos) (liftT c n)) : PW X (.BoolOp .Or (a :: b :: rest) pos) (liftT c (mOrT m n)) := (pw_or h g).imp fun _ _ _ q => lift_orT q
/-- and, or, not as values; all of them True or False but the last, which may be anything -/
def bD : D → Option Bool
  | .bool b => some b
  | _ => none
def mAndV (ma mb : M) : M := fun s => (ma s).bind fun p => (cD p.2 p.1).bind fun d => (bD d).bind fun b => if b = true then mb p.2 else some (.v (.bool false), p.2)
def mOrV (ma mb : M) : M := fun s => (ma s).bind fun p => (cD p.2 p.1).bind fun d => (bD d).bind fun b => if b = true then some (.v (.bool true), p.2) else mb p.2
def mNotV (ma : M) : M := fun s => (ma s).bind fun p => (cD p.2 p.1).bind fun d => (bD d).bind fun b => some (.v (.bool !b), p.2)
theorem view_b {K : PySem.W.Frag} {c : Cfg K} {B : Hp} {w : W} {σ : St} {s : List Slot} {o : Op} {v : V} {d : D} {b : Bool} (R : Rel c w σ s) (h : RepO c B w σ o v) (e : cD s o = some d) (e2 : bD d = some b) : v = .bl b := by
  have z := R.view h e
  cases d with
  | bool b' =>
    cases e2
    have z' : Dp K w.F v (.bool b) := z
    cases z'
    rfl
  | _ => cases e2
theorem she_one {op} {m : M} (h : PE X a (liftE c m)) : PE X (.BoolOp op [a] pos) (liftE c m) := pe_one h
theorem she_and (ha : PE X a (liftE c ma)) (hb : PE X (.BoolOp .And (b :: rest) pos) (liftE c mb)) : PE X (.BoolOp .And (a :: b :: rest) pos) (liftE c (mAndV ma mb)) := (pe_and ha hb).imp fun σ H Q q => by
  obtain ⟨w, s, rfl, R, o, s', e, k⟩ := q
  obtain ⟨⟨o1, s1⟩, e1, e⟩ := bnd e
  obtain ⟨d, e2, e⟩ := bnd e
  obtain ⟨b1, e3, e⟩ := bnd e
  refine ⟨w, s, rfl, R, o1, s1, e1, fun v1 w1 l1 R1 k1 q1 => ⟨b1, view_b R1 q1 e2 e3, ?_⟩⟩
  cases b1 with
  | true => exact iteT ⟨w1, s1, rfl, R1, o, s', e, fun v w2 l2 R2 k2 q => k v w2 (l1.trans l2) R2 (k1.trans k2) (q.back l1)⟩
  | false =>
    cases e
    exact iteF (k _ w1 l1 R1 k1 (.bl false))
theorem she_or (ha : PE X a (liftE c ma)) (hb : PE X (.BoolOp .Or (b :: rest) pos) (liftE c mb)) : PE X (.BoolOp .Or (a :: b :: rest) pos) (liftE c (mOrV ma mb)) := (pe_or ha hb).imp fun σ H Q q => by
  obtain ⟨w, s, rfl, R, o, s', e, k⟩ := q
  obtain ⟨⟨o1, s1⟩, e1, e⟩ := bnd e
  obtain ⟨d, e2, e⟩ := bnd e
  obtain ⟨b1, e3, e⟩ := bnd e
  refine ⟨w, s, rfl, R, o1, s1, e1, fun v1 w1 l1 R1 k1 q1 => ⟨b1, view_b R1 q1 e2 e3, ?_⟩⟩
  cases b1 with
  | true =>
    cases e
    exact iteT (k _ w1 l1 R1 k1 (.bl true))
  | false => exact iteF ⟨w1, s1, rfl, R1, o, s', e, fun v w2 l2 R2 k2 q => k v w2 (l1.trans l2) R2 (k1.trans k2) (q.back l1)⟩
theorem she_not (ha : PE X a (liftE c ma)) : PE X (.UnaryOp .Not a pos) (liftE c (mNotV ma)) := (pe_not ha).imp fun σ H Q q => by
  obtain ⟨w, s, rfl, R, o, s', e, k⟩ := q
  obtain ⟨⟨o1, s1⟩, e1, e⟩ := bnd e
  obtain ⟨d, e2, e⟩ := bnd e
  obtain ⟨b1, e3, e⟩ := bnd e
  cases e
  exact ⟨w, s, rfl, R, o1, s1, e1, fun v1 w1 l1 R1 k1 q1 => ⟨b1, view_b R1 q1 e2 e3, k _ w1 l1 R1 k1 (.bl _)⟩⟩
def mIfE (m : MT) (ma mb : M) : M := fun s => (m s).bind fun p => if p.1 = true then ma p.2 else mb p.2
theorem she_ifExp {t : Expr} {m : MT} (ht : PT X t (liftT c m)) (ha : PE X a (liftE c ma)) (hb : PE X b (liftE c mb)) : PE X (.IfExp t a b pos) (liftE c (mIfE m ma mb)) := (pe_ifExp ht ha hb).imp fun σ H Q q => by
  obtain ⟨w, s, rfl, R, o, s', e, k⟩ := q
  obtain ⟨⟨b1, s1⟩, e1, e⟩ := bnd e
  refine ⟨w, s, rfl, R, b1, s1, e1, fun w1 l1 R1 k1 => ?_⟩
  cases b1 with
  | true => exact iteT ⟨w1, s1, rfl, R1, o, s', e, fun v w2 l2 R2 k2 q => k v w2 (l1.trans l2) R2 (k1.trans k2) (q.back l1)⟩
  | false => exact iteF ⟨w1, s1, rfl, R1, o, s', e, fun v w2 l2 R2 k2 q => k v w2 (l1.trans l2) R2 (k1.trans k2) (q.back l1)⟩
def mChain (f g : D → D → Option Res) (ma mb mc : M) : M := fun s => (ma s).bind fun p => (mb p.2).bind fun q => (cD q.2 p.1).bind fun d => (cD q.2 q.1).bind fun e => (f d e).bind fun r => match r with
  | .d (.bool true) => (mc q.2).bind fun u => (cD u.2 u.1).bind fun d3 => (g e d3).bind fun r => some (r.op, u.2)
  | .d (.bool false) => some (.v (.bool false), q.2)
  | _ => none
theorem she_chain {op op' : CmpOp} {r r' : R2} {f g : D → D → Option Res} {c3 : Expr} {mc : M} (ho : OpR X (compareOp op) r) (ho' : OpR X (compareOp op') r') (hs : Sem2 X.K r f) (hs' : Sem2 X.K r' g) (hint : ∀ d e r, f d e = some r → ∃ i j, d = .int i ∧ e = .int j)
    (ha : PE X a (liftE c ma)) (hb : PE X b (liftE c mb)) (hc : PE X c3 (liftE c mc)) (h1 : behindInMarks op b = false) (h2 : behindInMarks op' c3 = false) (hp : PE X (.Compare a [op, op'] [b, c3] pos) (tChain r r' (liftE c ma) (liftE c mb) (liftE c mc))) :
    PE X (.Compare a [op, op'] [b, c3] pos) (liftE c (mChain f g ma mb mc)) := hp.imp fun σ H Q q => by
  obtain ⟨w, s, rfl, R, o, s', e, k⟩ := q
  obtain ⟨⟨o1, s1⟩, e1, e⟩ := bnd e
  obtain ⟨⟨o2, s2⟩, e2, e⟩ := bnd e
  obtain ⟨d1, e3, e⟩ := bnd e
  obtain ⟨d2, e4, e⟩ := bnd e
  obtain ⟨res, e5, e⟩ := bnd e
  refine ⟨w, s, rfl, R, o1, s1, e1, fun v1 w1 l1 R1 k1 q1 => ?_⟩
  refine ⟨w1, s1, rfl, R1, o2, s2, e2, fun v2 w2 l2 R2 k2 q2 => ?_⟩
  refine hs w2 v1 v2 d1 d2 res R2.sub (R2.view (q1.go l2) e3) (R2.view q2 e4) e5 _ fun z w3 g3 hz => ?_
  cases res with
  | nl ds => cases e
  | d dd =>
    cases dd with
    | bool b =>
      have hz' : Dp X.K w3.F z (.bool b) := hz
      cases hz'
      refine ⟨b, rfl, ?_⟩
      have R3 := R2.grow g3
      cases b with
      | false =>
        cases e
        exact iteF (k _ w3 ((l1.trans l2).trans g3.le) R3 (k1.trans k2) (.bl false))
      | true =>
        obtain ⟨⟨o3, s3⟩, e6, e⟩ := bnd e
        obtain ⟨d3, e7, e⟩ := bnd e
        obtain ⟨res2, e8, e⟩ := bnd e
        cases e
        refine iteT ⟨w3, s2, rfl, R3, o3, _, e6, fun v3 w4 l4 R4 k4 q4 => ?_⟩
        obtain ⟨i, j, rfl, rfl⟩ := hint _ _ _ e5
        have zj : Dp X.K w2.F v2 (.int j) := R2.view q2 e4
        have zj4 : Dp X.K w4.F v2 (.int j) := dp_mono l4.f _ _ (dp_mono g3.f _ _ zj)
        exact hs' w4 v2 v3 (.int j) d3 res2 R4.sub zj4 (R4.view q4 e7) e8 _ (Fin.go R4 fun v w' l R' q => k v w' ((((l1.trans l2).trans g3.le).trans l4).trans l) R' ((k1.trans k2).trans k4) (q.back (((l1.trans l2).trans g3.le).trans l4)))
    | _ => cases e
/-! ### arguments, displays, calls of built-ins -/
def mANil : MA := fun s => some ([], s)
def mACons (m : M) (n : MA) : MA := fun s => (m s).bind fun p => (n p.2).bind fun q => some (p.1 :: q.1, q.2)
variable {es : List Expr} {na : MA}
theorem sha_nil : PA X [] (liftA c mANil) := pa_nil.imp fun σ H Q q => by
  obtain ⟨w, s, rfl, R, o, s', e, k⟩ := q
  cases e
  exact k [] w (Le.refl w) R (Keep.refl _) .nil
theorem sha_cons (ha : PE X a (liftE c ma)) (hr : PA X es (liftA c na)) (hs : starEach (a :: es) X.env = (false, eval a X.env) :: starEach es X.env := by rfl) : PA X (a :: es) (liftA c (mACons ma na)) := (pa_cons ha hr hs).imp fun σ H Q q => by
  obtain ⟨w, s, rfl, R, o, s', e, k⟩ := q
  obtain ⟨⟨o1, s1⟩, e1, e⟩ := bnd e
  obtain ⟨⟨os, s2⟩, e2, e⟩ := bnd e
  cases e
  refine ⟨w, s, rfl, R, o1, s1, e1, fun v1 w1 l1 R1 k1 q1 => ?_⟩
  refine ⟨w1, s1, rfl, R1, os, _, e2, fun vs w2 l2 R2 k2 q2 => ?_⟩
  exact k (v1 :: vs) w2 (l1.trans l2) R2 (k1.trans k2) (.cons (q1.go l2) (q2.back l1))
end
end Sh
-- Sh3.lean
set_option Elab.async false
set_option linter.all false
set_option maxRecDepth 100000
set_option maxHeartbeats 1000000
/-! Sh3: freezing, stores, statements. -/
namespace Sh
open PySem L2
/-- an operand becomes data that nothing changes any more -/
def frz1 (s : List Slot) : Op → Option (D × List Slot)
  | .v d => some (d, s)
  | .nw k => (asD k).bind fun d => some (d, s)
  | .sl i => match s[i]? with
    | some (.fz d) => some (d, s)
    | some (.ow _ k) => (asD k).bind fun d => some (d, s.set i (.fz d))
    | _ => none
  | .ex _ => none
def can (s : List Slot) (i : Nat) : Bool := match s[i]? with
  | none => false
  | some (.ow true _) => false
  | some _ => true
def put1 (s : List Slot) (i : Nat) : Op → Option (List Slot)
  | .nw k => some (s.set i (.ow false k))
  | .v d => some (s.set i (.fz d))
  | .sl j => (frz1 s (.sl j)).bind fun p => some (p.2.set i (.fz p.1))
  | .ex _ => none
def put (s : List Slot) (i : Nat) (o : Op) : Option (List Slot) := if can s i = true then put1 s i o else none
theorem can_lt {s : List Slot} {i : Nat} (h : can s i = true) : i < s.length := by
  unfold can at h
  cases q : s[i]? with
  | none =>
    rw [q] at h
    cases h
  | some x => exact (List.getElem?_eq_some_iff.mp q).1
section
variable {K : PySem.W.Frag} {c : Cfg K} {w₀ w w' : W} {σ : St} {s s' : List Slot} {o : Op} {v : V} {d : D}
theorem mem_sw {i j : Nat} {fp : List Addr} {φ : Nat → List Addr} {a : Addr} (h : a ∈ (if j = i then fp else φ j)) : (j = i ∧ a ∈ fp) ∨ (j ≠ i ∧ a ∈ φ j) := by
  by_cases q : j = i
  · rw [if_pos q] at h
    exact .inl ⟨q, h⟩
  · rw [if_neg q] at h
    exact .inr ⟨q, h⟩
/-- the slot i holds something else now; its own object is dropped -/
theorem Rel.setX (R : Rel c w σ s) (l0 : Le w₀ w) (i : Nat) (hi : i < s.length) {y : Slot} {fp : List Addr} (hf : ∀ a ∈ fp, w₀.H a = none ∧ w.F a = none ∧ w.no a ∧ ∃ o, w.H a = some o)
    (h1 : ∀ d, y = .fz d → Dp K w.F v d) (h2 : ∀ p k, y = .ow p k → Own c w.F w.H v k fp) (h3 : (∀ p k, y ≠ .ow p k) → fp = []) : ∃ w', w'.H = w.H ∧ w'.F = w.F ∧ Le w₀ w' ∧ Rel c w' (σ.set i (some v)) (s.set i y) := by
  have hσ : i < σ.length := by
    rw [R.len]
    exact hi
  refine ⟨{ w with φ := fun j => if j = i then fp else w.φ j }, rfl, rfl, ⟨l0.f, fun a o q n => l0.h a o q n, fun j a ha => ?_, l0.t, l0.x⟩, ⟨?_, R.sub, fun j a ha => ?_, fun j e hj => ?_, fun j p k' hj => ?_, fun j k' a g1 g2 => ?_, fun j hj => ?_, ⟨R.tb.1, fun a ha => ⟨(R.tb.2 a ha).1, (R.tb.2 a ha).2.1, fun j z => (mem_sw z).elim (fun q => (hf a q.2).2.2.1.2 ha) fun q => (R.tb.2 a ha).2.2 j q.2⟩⟩⟩⟩
  · rcases mem_sw ha with ⟨_, q⟩ | ⟨_, q⟩
    · exact .inr (hf a q).1
    · exact l0.p j a q
  · rw [List.length_set, List.length_set]
    exact R.len
  · rcases mem_sw ha with ⟨_, q⟩ | ⟨_, q⟩
    · exact ⟨(hf a q).2.1, (hf a q).2.2.2⟩
    · exact R.out j a q
  · by_cases q : j = i
    · subst q
      rw [List.getElem?_set_self hi] at hj
      exact ⟨v, List.getElem?_set_self hσ, h1 e (Option.some.inj hj)⟩
    · rw [List.getElem?_set_ne (Ne.symm q)] at hj
      obtain ⟨u, z1, z2⟩ := R.fz j e hj
      exact ⟨u, by rw [List.getElem?_set_ne (Ne.symm q)]; exact z1, z2⟩
  · by_cases q : j = i
    · subst q
      rw [List.getElem?_set_self hi] at hj
      refine ⟨v, List.getElem?_set_self hσ, ?_⟩
      show Own c w.F w.H v k' (if j = j then fp else w.φ j)
      rw [if_pos rfl]
      exact h2 p k' (Option.some.inj hj)
    · rw [List.getElem?_set_ne (Ne.symm q)] at hj
      obtain ⟨u, z1, z2⟩ := R.ow j p k' hj
      refine ⟨u, by rw [List.getElem?_set_ne (Ne.symm q)]; exact z1, ?_⟩
      show Own c w.F w.H u k' (if j = i then fp else w.φ j)
      rw [if_neg q]
      exact z2
  · rcases mem_sw g1 with ⟨q1, z1⟩ | ⟨q1, z1⟩
    · rcases mem_sw g2 with ⟨q2, z2⟩ | ⟨q2, z2⟩
      · exact q1.trans q2.symm
      · exact absurd z2 ((hf a z1).2.2.1.1 k')
    · rcases mem_sw g2 with ⟨q2, z2⟩ | ⟨q2, z2⟩
      · exact absurd z1 ((hf a z2).2.2.1.1 j)
      · exact R.dis j k' a z1 z2
  · show (if j = i then fp else w.φ j) = []
    by_cases q : j = i
    · subst q
      rw [if_pos rfl]
      refine h3 fun p k z => hj p k ?_
      rw [List.getElem?_set_self hi, z]
    · rw [if_neg q]
      refine R.non j fun p k' hh => hj p k' ?_
      rw [List.getElem?_set_ne (Ne.symm q)]
      exact hh
theorem Rel.setF (R : Rel c w σ s) (l0 : Le w₀ w) (i : Nat) (hi : i < s.length) (h : Dp K w.F v d) : ∃ w', w'.H = w.H ∧ w'.F = w.F ∧ Le w₀ w' ∧ Rel c w' (σ.set i (some v)) (s.set i (.fz d)) :=
  R.setX l0 i hi (fp := []) (fun a z => nomatch z) (fun e z => by cases z; exact h) (fun p k z => nomatch z) fun _ => rfl
theorem Rel.setO (R : Rel c w σ s) (l0 : Le w₀ w) (i : Nat) (hi : i < s.length) {k : Cont} {fp : List Addr} (h : Own c w.F w.H v k fp) (hf : ∀ a ∈ fp, w₀.H a = none ∧ w.F a = none ∧ w.no a ∧ ∃ o, w.H a = some o) : ∃ w', w'.H = w.H ∧ w'.F = w.F ∧ Le w₀ w' ∧ Rel c w' (σ.set i (some v)) (s.set i (.ow false k)) :=
  R.setX l0 i hi hf (fun e z => nomatch z) (fun p k' z => by cases z; exact h) fun z => absurd rfl (z false k)
theorem sub_upd {F H : Hp} (e : Sub F H) {a : Addr} {o : HO} (h : H a = some o) : Sub (upd F a o) H := fun b u q => by
  by_cases z : b = a
  · subst z
    rw [upd_same] at q
    cases q
    exact h
  · rw [upd_ne z] at q
    exact e b u q
theorem Sub.updR {F : Hp} {a : Addr} {o : HO} (n : F a = none) : Sub F (upd F a o) := fun b u q => by
  rw [upd_ne (ne_of_none q n)]
  exact q
theorem Rel.freeze (R : Rel c w σ s) (l0 : Le w₀ w) (h : RepO c w₀.H w σ o v) (e : frz1 s o = some (d, s')) : ∃ w', w'.H = w.H ∧ Le w₀ w' ∧ Rel c w' σ s' ∧ Dp K w'.F v d ∧ Keep s s' ∧ s'.length = s.length := by
  cases o with
  | ex n => cases e
  | v d' =>
    cases e
    exact ⟨w, rfl, l0, R, h, Keep.refl _, rfl⟩
  | nw k =>
    obtain ⟨d1, e1, e2⟩ := bnd (x := asD k) e
    cases e2
    obtain ⟨fp, h1, h3⟩ := h
    have fn : ∀ a ∈ fp, w.F a = none := fun a ha => (h3 a ha).2.1
    have sf : Sub w.F (fzH w.F w.H fp) := fzH_sub fn
    refine ⟨{ w with F := fzH w.F w.H fp }, rfl, ⟨fun b u q => sf b u (l0.f b u q), fun b u q n => ?_, l0.p, l0.t, ⟨l0.x.1, fun b hb h => ?_⟩⟩, ⟨R.len, fzH_subH R.sub, fun i b hb => ?_, fun i d' hi => ?_, fun i p k hi => ?_, R.dis, R.non, ⟨R.tb.1, fun b hb => ⟨(R.tb.2 b hb).1, ?_, (R.tb.2 b hb).2.2⟩⟩⟩, own_view sf h1 e1 (fun a ha => fzH_in ha), Keep.refl _, rfl⟩
    · obtain ⟨q1, q2⟩ := l0.h b u q n
      refine ⟨q1, ?_⟩
      show fzH w.F w.H fp b = w₀.F b
      rw [fzH_out (fun z => by rw [(h3 b z).1] at q; cases q)]
      exact q2
    · obtain ⟨q1, q2⟩ := l0.x.2 b hb h
      refine ⟨q1, ?_⟩
      show fzH w.F w.H fp b = w₀.F b
      rw [fzH_out (fun z => (h3 b z).2.2.1.2 (by rw [l0.x.1]; exact hb))]
      exact q2
    · obtain ⟨q1, q2⟩ := R.out i b hb
      refine ⟨?_, q2⟩
      show fzH w.F w.H fp b = none
      rw [fzH_out (fun z => (h3 b z).2.2.1.1 i hb)]
      exact q1
    · obtain ⟨u, q1, q2⟩ := R.fz i d' hi
      exact ⟨u, q1, dp_mono sf _ _ q2⟩
    · obtain ⟨u, q1, q2⟩ := R.ow i p k hi
      exact ⟨u, q1, q2.mono sf fun _ _ _ z => z⟩
    · show fzH w.F w.H fp b = none
      rw [fzH_out (fun z => (h3 b z).2.2.1.2 hb)]
      exact (R.tb.2 b hb).2.1
  | sl i =>
    have h : σ[i]? = some (some v) := h
    have e' : (match s[i]? with | some (.fz d) => some (d, s) | some (.ow _ k) => (asD k).bind fun d => some (d, s.set i (.fz d)) | _ => none) = some (d, s') := e
    cases q : s[i]? with
    | none =>
      rw [q] at e'
      cases e'
    | some x =>
      rw [q] at e'
      cases x with
      | un => cases e'
      | fz d' =>
        cases e'
        obtain ⟨u, h1, h2⟩ := R.fz i d q
        rw [h] at h1
        cases h1
        exact ⟨w, rfl, l0, R, h2, Keep.refl _, rfl⟩
      | ow p k =>
        obtain ⟨d1, e1, e2⟩ := bnd (x := asD k) e'
        cases e2
        obtain ⟨u, h1, h2⟩ := R.ow i p _ q
        rw [h] at h1
        cases h1
        have fn : ∀ a ∈ w.φ i, w.F a = none := fun a ha => (R.out i a ha).1
        have sf : Sub w.F (fzH w.F w.H (w.φ i)) := fzH_sub fn
        have dp := own_view sf h2 e1 (fun a ha => fzH_in ha)
        have hil : i < s.length := (List.getElem?_eq_some_iff.mp q).1
        have hne : ∀ j b, j ≠ i → b ∈ w.φ j → b ∉ w.φ i := fun j b z hb z2 => z (R.dis j i b hb z2)
        refine ⟨{ w with F := fzH w.F w.H (w.φ i), φ := fun j => if j = i then [] else w.φ j }, rfl, ⟨fun b u z => sf b u (l0.f b u z), fun b u z n => ?_, fun j b hb => ?_, l0.t, ⟨l0.x.1, fun b hb hz => ?_⟩⟩,
          ⟨by rw [List.length_set]; exact R.len, fzH_subH R.sub, fun j b hb => ?_, fun j d' hj => ?_, fun j p' k hj => ?_, fun j k b z1 z2 => ?_, fun j hj => ?_, ⟨R.tb.1, fun b hb => ⟨(R.tb.2 b hb).1, ?_, fun j z => ?_⟩⟩⟩, dp, fun j k hj => ?_, List.length_set⟩
        · obtain ⟨q1, q2⟩ := l0.h b u z n
          refine ⟨q1, ?_⟩
          show fzH w.F w.H (w.φ i) b = w₀.F b
          rw [fzH_out (fun z3 => ?_)]
          · exact q2
          · rcases l0.p i b z3 with z4 | z4
            · exact n.1 i z4
            · rw [z4] at z
              cases z
        · rcases mem_sw hb with ⟨_, z⟩ | ⟨_, z⟩
          · cases z
          · exact l0.p j b z
        · obtain ⟨q1, q2⟩ := l0.x.2 b hb hz
          refine ⟨q1, ?_⟩
          show fzH w.F w.H (w.φ i) b = w₀.F b
          rw [fzH_out (fun z3 => (R.tb.2 b (by rw [l0.x.1]; exact hb)).2.2 i z3)]
          exact q2
        · rcases mem_sw hb with ⟨_, z⟩ | ⟨z0, z⟩
          · cases z
          · obtain ⟨q1, q2⟩ := R.out j b z
            refine ⟨?_, q2⟩
            show fzH w.F w.H (w.φ i) b = none
            rw [fzH_out (hne j b z0 z)]
            exact q1
        · by_cases z : j = i
          · subst z
            rw [List.getElem?_set_self hil] at hj
            cases hj
            exact ⟨_, h, dp⟩
          · rw [List.getElem?_set_ne (Ne.symm z)] at hj
            obtain ⟨u, q1, q2⟩ := R.fz j d' hj
            exact ⟨u, q1, dp_mono sf _ _ q2⟩
        · by_cases z : j = i
          · subst z
            rw [List.getElem?_set_self hil] at hj
            cases hj
          · rw [List.getElem?_set_ne (Ne.symm z)] at hj
            obtain ⟨u, q1, q2⟩ := R.ow j p' k hj
            refine ⟨u, q1, ?_⟩
            show Own c (fzH w.F w.H (w.φ i)) w.H u k (if j = i then [] else w.φ j)
            rw [if_neg z]
            exact q2.mono sf fun _ _ _ z => z
        · rcases mem_sw z1 with ⟨_, z⟩ | ⟨_, z3⟩
          · cases z
          · rcases mem_sw z2 with ⟨_, z⟩ | ⟨_, z4⟩
            · cases z
            · exact R.dis j k b z3 z4
        · show (if j = i then [] else w.φ j) = []
          by_cases z : j = i
          · rw [if_pos z]
          · rw [if_neg z]
            refine R.non j fun p k hh => hj p k ?_
            rw [List.getElem?_set_ne (Ne.symm z)]
            exact hh
        · show fzH w.F w.H (w.φ i) b = none
          rw [fzH_out (fun z3 => (R.tb.2 b hb).2.2 i z3)]
          exact (R.tb.2 b hb).2.1
        · rcases mem_sw z with ⟨_, z⟩ | ⟨_, z⟩
          · cases z
          · exact (R.tb.2 b hb).2.2 j z
        · by_cases z : j = i
          · subst z
            rw [List.getElem?_set_self hil] at hj
            cases hj
          · rw [List.getElem?_set_ne (Ne.symm z)] at hj
            exact ⟨k, hj⟩
/-- between statements: what was handed in stays at its slot -/
def Kp (σ : St) (s : List Slot) (σ' : St) (s' : List Slot) : Prop := ∀ (j : Nat) (k : Cont), s'[j]? = some (.ow true k) → σ'[j]? = σ[j]? ∧ ∃ k', s[j]? = some (.ow true k')
theorem Kp.refl (σ : St) (s : List Slot) : Kp σ s σ s := fun j k h => ⟨rfl, k, h⟩
theorem Kp.trans {σ σ' σ'' : St} {s s' s'' : List Slot} (a : Kp σ s σ' s') (b : Kp σ' s' σ'' s'') : Kp σ s σ'' s'' := fun j k h => by
  obtain ⟨h1, k', h2⟩ := b j k h
  obtain ⟨h3, h4⟩ := a j k' h2
  exact ⟨h1.trans h3, h4⟩
theorem Keep.kp (h : Keep s s') : Kp σ s σ s' := fun j k q => ⟨rfl, h j k q⟩
theorem Rel.put (R : Rel c w σ s) (l0 : Le w₀ w) (h : RepO c w₀.H w σ o v) {i : Nat} (e : put s i o = some s') : ∃ w', w'.H = w.H ∧ Le w₀ w' ∧ Rel c w' (σ.set i (some v)) s' ∧ Kp σ s (σ.set i (some v)) s' := by
  unfold Sh.put at e
  by_cases hc : can s i = true
  · rw [if_pos hc] at e
    have hil : i < s.length := can_lt hc
    have kp : ∀ (s1 : List Slot) (y : Slot), Keep s s1 → s1.length = s.length → (∀ k, y ≠ .ow true k) → Kp σ s (σ.set i (some v)) (s1.set i y) := fun s1 y ks hl ny j k hj => by
      by_cases z : j = i
      · subst z
        rw [List.getElem?_set_self (by omega)] at hj
        exact absurd (Option.some.inj hj) (ny k)
      · rw [List.getElem?_set_ne (Ne.symm z)] at hj
        exact ⟨by rw [List.getElem?_set_ne (Ne.symm z)], ks j k hj⟩
    cases o with
    | ex n => cases e
    | v d =>
      cases e
      obtain ⟨w2, h2, f2, l2, R2⟩ := R.setF l0 i hil h
      exact ⟨w2, h2, l2, R2, kp s _ (Keep.refl s) rfl (fun k z => nomatch z)⟩
    | sl j =>
      obtain ⟨⟨d, s1⟩, e4, e5⟩ := bnd (x := frz1 s (.sl j)) e
      cases e5
      obtain ⟨w1, hh, l1, R1, dp, ks, hl⟩ := R.freeze l0 h e4
      obtain ⟨w2, h2, f2, l2, R2⟩ := R1.setF l1 i (by omega) dp
      exact ⟨w2, h2.trans hh, l2, R2, kp s1 _ ks hl (fun k z => nomatch z)⟩
    | nw k =>
      cases e
      obtain ⟨fp, h1, h2⟩ := h
      obtain ⟨w2, h3, f2, l2, R2⟩ := R.setO l0 i hil h1 h2
      exact ⟨w2, h3, l2, R2, kp s _ (Keep.refl s) rfl (fun k z => nomatch z)⟩
  · rw [if_neg hc] at e
    cases e
end
/-! ### statements -/
inductive Out where
  | nx (s : List Slot)
  | rt (o : Op) (s : List Slot)
  | bk (s : List Slot)
  | ct (s : List Slot)
  | ex (n : Str) (s : List Slot)
abbrev MS := List Slot → Option Out
section
variable {K : PySem.W.Frag}
def EndOk (c : Cfg K) (D : Ends) (w : W) (σ : St) (s : List Slot) : Out → Prop
  | .nx s' => ∀ σ' w', Le w w' → Rel c w' σ' s' → Kp σ s σ' s' → D.nx σ' w'.H
  | .bk s' => ∀ σ' w', Le w w' → Rel c w' σ' s' → Kp σ s σ' s' → D.bk σ' w'.H
  | .ct s' => ∀ σ' w', Le w w' → Rel c w' σ' s' → Kp σ s σ' s' → D.ct σ' w'.H
  | .rt o s' => ∀ v σ' w', Le w w' → Rel c w' σ' s' → Kp σ s σ' s' → RepO c w.H w' σ' o v → D.rt v w'.H
  | .ex _ _ => True
def liftS (c : Cfg K) (m : MS) : TS := fun D σ H => ∃ w s, w.H = H ∧ Rel c w σ s ∧ ∃ out, m s = some out ∧ EndOk c D w σ s out
theorem EndOk.back {c : Cfg K} {D : Ends} {w w1 : W} {σ σ1 : St} {s s1 : List Slot} {out : Out} (h : EndOk c D w σ s out) (l : Le w w1) (k : Kp σ s σ1 s1) : EndOk c D w1 σ1 s1 out := by
  cases out with
  | nx s' => exact fun σ' w' l' R' k' => h σ' w' (l.trans l') R' (k.trans k')
  | bk s' => exact fun σ' w' l' R' k' => h σ' w' (l.trans l') R' (k.trans k')
  | ct s' => exact fun σ' w' l' R' k' => h σ' w' (l.trans l') R' (k.trans k')
  | rt o s' => exact fun v σ' w' l' R' k' q => h v σ' w' (l.trans l') R' (k.trans k') (q.back l)
  | ex n s' => trivial
end
def mNext : MS := fun s => some (.nx s)
def mSeq (m n : MS) : MS := fun s => (m s).bind fun out => match out with
  | .nx s' => n s'
  | o => some o
def mFz (m : M) : M := fun s => (m s).bind fun p => (frz1 p.2 p.1).bind fun q => some (.v q.1, q.2)
def mAsg (m : M) (i : Nat) : MS := fun s => (m s).bind fun p => (put p.2 i p.1).bind fun s' => some (.nx s')
def mDrop (m : M) : MS := fun s => (m s).bind fun p => some (.nx p.2)
def mRet (m : M) : MS := fun s => (m s).bind fun p => some (.rt p.1 p.2)
def mIf (m : MT) (a b : MS) : MS := fun s => (m s).bind fun p => if p.1 = true then a p.2 else b p.2
section
variable {X : Cx} {c : Cfg X.K} {pos : Pos} {st : Stmt} {rest : List Stmt} {m : M} {e : Expr}
/-- freezing changes nothing -/
theorem lift_fz {K : PySem.W.Frag} {c : Cfg K} {σ : St} {H : Hp} {Q : VK} (h : liftE c (mFz m) σ H Q) : liftE c m σ H Q := by
  obtain ⟨w, s, rfl, R, o, s', e, k⟩ := h
  obtain ⟨⟨o1, s1⟩, e1, e⟩ := bnd e
  obtain ⟨⟨d, s2⟩, e2, e⟩ := bnd e
  cases e
  refine ⟨w, s, rfl, R, o1, s1, e1, fun v w1 l1 R1 k1 q1 => ?_⟩
  obtain ⟨w2, hh, l2, R2, dp, ks, _⟩ := R1.freeze l1 q1 e2
  rw [← hh]
  exact k v w2 l2 R2 (k1.trans ks) dp
theorem she_fz (h : PE X e (liftE c m)) : PE X e (liftE c (mFz m)) := h.imp fun _ _ _ q => lift_fz q
theorem shs_nil : PSs X [] (liftS c mNext) := pss_nil.imp fun D σ H h => by
  obtain ⟨w, s, rfl, R, out, e, k⟩ := h
  cases e
  exact k σ w (Le.refl w) R (Kp.refl σ s)
theorem lift_seq {K : PySem.W.Frag} {c : Cfg K} {a b : MS} {D : Ends} {σ : St} {H : Hp} (h : liftS c (mSeq a b) D σ H) : tSeq (liftS c a) (liftS c b) D σ H := by
  obtain ⟨w, s, rfl, R, out, e, k⟩ := h
  obtain ⟨o1, e1, e⟩ := bnd e
  refine ⟨w, s, rfl, R, o1, e1, ?_⟩
  cases o1 with
  | ex n s1 => trivial
  | nx s1 => exact fun σ1 w1 l1 R1 k1 => ⟨w1, s1, rfl, R1, out, e, k.back l1 k1⟩
  | rt o s1 =>
    cases e
    exact k
  | bk s1 =>
    cases e
    exact k
  | ct s1 =>
    cases e
    exact k
theorem shs_cons {a b : MS} (h1 : PS X st (liftS c a)) (h2 : PSs X rest (liftS c b)) : PSs X (st :: rest) (liftS c (mSeq a b)) := (pss_cons h1 h2).imp fun _ _ _ h => lift_seq h
theorem shs_one {a : MS} (h1 : PS X st (liftS c a)) : PSs X [st] (liftS c a) := pss_one h1
theorem lift_asg {K : PySem.W.Frag} {c : Cfg K} {m : M} {i : Nat} {D : Ends} {σ : St} {H : Hp} (h : liftS c (mAsg m i) D σ H) : liftE c m σ H fun x H1 => gName i x σ H1 D.nx := by
  obtain ⟨w, s, rfl, R, out, e, k⟩ := h
  obtain ⟨⟨o1, s1⟩, e1, e⟩ := bnd e
  obtain ⟨s2, e2, e⟩ := bnd e
  cases e
  refine ⟨w, s, rfl, R, o1, s1, e1, fun v w1 l1 R1 k1 q1 => ?_⟩
  obtain ⟨w2, hh, l2, R2, kp⟩ := R1.put l1 q1 e2
  show D.nx (σ.set i (some v)) w1.H
  rw [← hh]
  exact k _ w2 l2 R2 (k1.kp.trans kp)
/-- x = e -/
theorem shs_set {i : Nat} {x : Str} {pos' : Pos} (hN : X.N.Nodup) (hi : X.N[i]? = some x) (hx : Loc X.env.scope x) (he : PE X e (liftE c m)) (hs : swapsWith e (some (.Name x pos')) pos.line X.env = pure false := by rfl) (hf : X.fn x = true ∨ X.env.scope.names.lookup x = some .local := by first | exact .inl rfl | exact .inr rfl | assumption) :
    PS X (.Assign [.Name x pos'] e pos) (liftS c (mAsg m i)) := (ps_set hN hi hx he hs hf).imp fun _ _ _ h => lift_asg h
theorem shs_expr (he : PE X e (liftE c m)) (hs : swapsWith e none pos.line X.env = pure false := by rfl) : PS X (.Expr e pos) (liftS c (mDrop m)) := (ps_expr he hs).imp fun D σ H h => by
  obtain ⟨w, s, rfl, R, out, e, k⟩ := h
  obtain ⟨⟨o1, s1⟩, e1, e⟩ := bnd e
  cases e
  exact ⟨w, s, rfl, R, o1, s1, e1, fun v w1 l1 R1 k1 q1 => k σ w1 l1 R1 k1.kp⟩
theorem shs_ret (he : PE X e (liftE c m)) : PS X (.Return (some e) pos) (liftS c (mRet m)) := (ps_ret he).imp fun D σ H h => by
  obtain ⟨w, s, rfl, R, out, e, k⟩ := h
  obtain ⟨⟨o1, s1⟩, e1, e⟩ := bnd e
  cases e
  exact ⟨w, s, rfl, R, o1, s1, e1, fun v w1 l1 R1 k1 q1 => k v σ w1 l1 R1 k1.kp q1⟩
theorem shs_retN : PS X (.Return none pos) (liftS c (mRet (mC .none))) := ps_retN.imp fun D σ H h => by
  obtain ⟨w, s, rfl, R, out, e, k⟩ := h
  cases e
  exact k .non σ w (Le.refl w) R (Kp.refl σ s) .non
theorem shs_if {t : Expr} {mt : MT} {a b : List Stmt} {ma mb : MS} (ht : PT X t (liftT c mt)) (ha : PSs X a (liftS c ma)) (hb : PSs X b (liftS c mb)) : PS X (.If t a b pos) (liftS c (mIf mt ma mb)) := (ps_if ht ha hb).imp fun D σ H h => by
  obtain ⟨w, s, rfl, R, out, e, k⟩ := h
  obtain ⟨⟨b1, s1⟩, e1, e⟩ := bnd e
  refine ⟨w, s, rfl, R, b1, s1, e1, fun w1 l1 R1 k1 => ?_⟩
  cases b1 with
  | true => exact iteT ⟨w1, s1, rfl, R1, out, e, k.back l1 k1.kp⟩
  | false => exact iteF ⟨w1, s1, rfl, R1, out, e, k.back l1 k1.kp⟩
theorem shs_pass : PS X (.Pass pos) (liftS c mNext) := ps_pass.imp fun D σ H h => by
  obtain ⟨w, s, rfl, R, out, e, k⟩ := h
  cases e
  exact k σ w (Le.refl w) R (Kp.refl σ s)
theorem shs_break : PS X (.Break pos) (liftS c fun s => some (.bk s)) := ps_break.imp fun D σ H h => by
  obtain ⟨w, s, rfl, R, out, e, k⟩ := h
  cases e
  exact k σ w (Le.refl w) R (Kp.refl σ s)
theorem shs_continue : PS X (.Continue pos) (liftS c fun s => some (.ct s)) := ps_continue.imp fun D σ H h => by
  obtain ⟨w, s, rfl, R, out, e, k⟩ := h
  cases e
  exact k σ w (Le.refl w) R (Kp.refl σ s)
/-! ### displays -/
def opsD : List Op → Option (List D)
  | [] => some []
  | .v d :: r => (opsD r).bind fun ds => some (d :: ds)
  | _ :: _ => none
def mTup (n : MA) : M := fun s => (n s).bind fun p => (opsD p.1).bind fun ds => if ds.length ≤ 100000 then some (.v (.tuple ds), p.2) else none
def mLst (n : MA) : M := fun s => (n s).bind fun p => (opsD p.1).bind fun ds => if ds.length ≤ 100000 then some (.nw (.lst ds), p.2) else none
theorem ops_dp {K : PySem.W.Frag} {c : Cfg K} {B : Hp} {w : W} {σ : St} : ∀ {os : List Op} {vs : List V} {ds : List D}, RepOs c B w σ os vs → opsD os = some ds → DpAll K w.F vs ds
  | [], _, _, h, e => by
    cases h
    cases e
    exact .nil
  | o :: os, _, _, h, e => by
    cases h with
    | cons h1 h2 =>
      cases o with
      | v d =>
        obtain ⟨ds, e1, e⟩ := bnd (x := opsD os) e
        cases e
        exact .cons h1 (ops_dp h2 e1)
      | _ => cases e
variable {es : List Expr} {na : MA}
theorem she_tup {x1} (h : PA X es (liftA c na)) : PE X (.Tuple es x1 pos) (liftE c (mTup na)) := (pe_tup h).imp fun σ H Q q => by
  obtain ⟨w, s, rfl, R, o, s', e, k⟩ := q
  obtain ⟨⟨os, s1⟩, e1, e⟩ := bnd e
  obtain ⟨ds, e2, e⟩ := bnd e
  refine ⟨w, s, rfl, R, os, s1, e1, fun vs w1 l1 R1 k1 q1 => ?_⟩
  by_cases hz : ds.length ≤ 100000
  · rw [if_pos hz] at e
    cases e
    have dp := ops_dp q1 e2
    refine ⟨Evl.sz_of (by rw [dpa_len dp]; exact hz), fun p hp => ?_⟩
    exact Fin.tup R1.sub (Fin.go R1 (r := .d (.tuple ds)) fun v w' l R' q => k v w' (l1.trans l) R' k1 (q.back l1)) dp hp
  · rw [if_neg hz] at e
    cases e
theorem she_lst (h : PA X es (liftA c na)) : PE X (.List es pos) (liftE c (mLst na)) := (pe_lst h).imp fun σ H Q q => by
  obtain ⟨w, s, rfl, R, o, s', e, k⟩ := q
  obtain ⟨⟨os, s1⟩, e1, e⟩ := bnd e
  obtain ⟨ds, e2, e⟩ := bnd e
  refine ⟨w, s, rfl, R, os, s1, e1, fun vs w1 l1 R1 k1 q1 => ?_⟩
  by_cases hz : ds.length ≤ 100000
  · rw [if_pos hz] at e
    cases e
    have dp := ops_dp q1 e2
    refine ⟨Evl.sz_of (by rw [dpa_len dp]; exact hz), fun p hp => ?_⟩
    exact Fin.lst R1.sub (Fin.go R1 (r := .nl ds) fun v w' l R' q => k v w' (l1.trans l) R' k1 (q.back l1)) dp hp
  · rw [if_neg hz] at e
    cases e
end
end Sh
-- Sh4.lean
set_option Elab.async false
set_option linter.all false
set_option maxRecDepth 100000
set_option maxHeartbeats 1000000
/-! Sh4: defs and their calls. -/
namespace Sh
open PySem L2
abbrev SemF := List Slot → Option (Op × List Slot)
def isOw : Option Slot → Bool
  | some (.ow _ _) => true
  | _ => false
section
variable {K : PySem.W.Frag}
/-- the promise of a def that is told by f -/
def spF (c : Cfg K) (n : Nat) (f : SemF) : Sp := fun vs H Q _ => vs.length = n ∧ ∃ w ss, w.H = H ∧ Rel c w (vs.map some) ss ∧ ∃ o ss', f ss = some (o, ss') ∧ (∀ i, o ≠ .sl i) ∧
  ∀ v w', Le w w' → Rel c w' (vs.map some) ss' → RepO c w.H w' (vs.map some) o v → Q v w'.H
def conv (ss s : List Slot) : Op → Option Op
  | .v d => some (.v d)
  | .nw k => some (.nw k)
  | .sl i => match s[i]? with
    | some (.fz d) => some (.v d)
    | some (.ow false k) => if isOw ss[i]? then none else some (.nw k)
    | _ => none
  | .ex _ => none
def outs : List Slot → List Slot → Option (List Slot)
  | [], _ => some []
  | .fz d :: r, _ :: r' => (outs r r').bind fun t => some (.fz d :: t)
  | .ow true _ :: r, .ow true k :: r' => (outs r r').bind fun t => some (.ow true k :: t)
  | _, _ => none
def bodyF (N : Nat) (m : MS) : SemF := fun ss => (m (ss ++ List.replicate (N - ss.length) .un)).bind fun out => match out with
  | .nx s' => (outs ss s').bind fun ss' => some (.v .none, ss')
  | .rt o s' => (conv ss s' o).bind fun o' => (outs ss s').bind fun ss' => some (o', ss')
  | .ex n s' => (outs ss s').bind fun ss' => some (.ex n, ss')
  | _ => none
theorem outs_len : ∀ {ss s ss' : List Slot}, outs ss s = some ss' → ss'.length = ss.length
  | [], _, _, h => by
    cases h
    rfl
  | .fz d :: r, _ :: r', _, h => by
    obtain ⟨t, e1, e⟩ := bnd (x := outs r r') h
    cases e
    rw [List.length_cons, List.length_cons, outs_len e1]
  | .ow true _ :: r, .ow true k :: r', _, h => by
    obtain ⟨t, e1, e⟩ := bnd (x := outs r r') h
    cases e
    rw [List.length_cons, List.length_cons, outs_len e1]
  | .fz _ :: _, [], _, h => by cases h
  | .un :: _, _, _, h => by cases h
  | .ow false _ :: _, _, _, h => by cases h
  | .ow true _ :: _, [], _, h => by cases h
  | .ow true _ :: _, .un :: _, _, h => by cases h
  | .ow true _ :: _, .fz _ :: _, _, h => by cases h
  | .ow true _ :: _, .ow false _ :: _, _, h => by cases h
theorem outs_get : ∀ {ss s ss' : List Slot}, outs ss s = some ss' → ∀ (i : Nat) (x : Slot), ss'[i]? = some x → (∃ d, x = .fz d ∧ ss[i]? = some (.fz d)) ∨ (∃ k, x = .ow true k ∧ s[i]? = some (.ow true k))
  | [], _, _, h, i, x, e => by
    cases h
    cases e
  | .fz d :: r, _ :: r', _, h, i, x, e => by
    obtain ⟨t, e1, e2⟩ := bnd (x := outs r r') h
    cases e2
    cases i with
    | zero =>
      cases e
      exact .inl ⟨d, rfl, rfl⟩
    | succ i => exact outs_get e1 i x e
  | .ow true _ :: r, .ow true k :: r', _, h, i, x, e => by
    obtain ⟨t, e1, e2⟩ := bnd (x := outs r r') h
    cases e2
    cases i with
    | zero =>
      cases e
      exact .inr ⟨k, rfl, rfl⟩
    | succ i => exact outs_get e1 i x e
  | .fz _ :: _, [], _, h, _, _, _ => by cases h
  | .un :: _, _, _, h, _, _, _ => by cases h
  | .ow false _ :: _, _, _, h, _, _, _ => by cases h
  | .ow true _ :: _, [], _, h, _, _, _ => by cases h
  | .ow true _ :: _, .un :: _, _, h, _, _, _ => by cases h
  | .ow true _ :: _, .fz _ :: _, _, h, _, _, _ => by cases h
  | .ow true _ :: _, .ow false _ :: _, _, h, _, _, _ => by cases h
variable {c : Cfg K} {w w' : W} {σ σ' : St} {s s' ss ss' : List Slot} {o o' : Op} {v : V} {d : D} {vs : List V}
theorem Rel.pad (R : Rel c w σ s) (m : Nat) : Rel c w (σ ++ List.replicate m none) (s ++ List.replicate m .un) := by
  have un : ∀ (i : Nat) (x : Slot), (s ++ List.replicate m .un)[i]? = some x → x = .un ∨ s[i]? = some x := fun i x h => by
    by_cases q : i < s.length
    · rw [List.getElem?_append_left q] at h
      exact .inr h
    · rw [List.getElem?_append_right (by omega), List.getElem?_replicate] at h
      split at h
      · cases h
        exact .inl rfl
      · cases h
  have up : ∀ (i : Nat) (v : V), σ[i]? = some (some v) → (σ ++ List.replicate m none)[i]? = some (some v) := fun i v h => by
    rw [List.getElem?_append_left (List.getElem?_eq_some_iff.mp h).1]
    exact h
  refine ⟨by rw [List.length_append, List.length_append, List.length_replicate, List.length_replicate, R.len], R.sub, R.out, fun i d h => ?_, fun i p k h => ?_, R.dis, fun i h => ?_, R.tb⟩
  · rcases un i _ h with q | q
    · cases q
    · obtain ⟨v, h1, h2⟩ := R.fz i d q
      exact ⟨v, up i v h1, h2⟩
  · rcases un i _ h with q | q
    · cases q
    · obtain ⟨v, h1, h2⟩ := R.ow i p k q
      exact ⟨v, up i v h1, h2⟩
  · refine R.non i fun p k q => h p k ?_
    rw [List.getElem?_append_left (List.getElem?_eq_some_iff.mp q).1]
    exact q
theorem Rel.leave (R0 : Rel c w (vs.map some) ss) {m : Nat} (l : Le w w') (R : Rel c w' σ' s') (kp : Kp (vs.map some ++ List.replicate m none) (ss ++ List.replicate m .un) σ' s') (e : outs ss s' = some ss') :
    ∃ w'', w''.H = w'.H ∧ Le w w'' ∧ Rel c w'' (vs.map some) ss' ∧ ∀ o o' v, conv ss s' o = some o' → RepO c w.H w' σ' o v → RepO c w.H w'' (vs.map some) o' v := by
  have hφ : ∀ i a, a ∈ (if isOw ss'[i]? = true then w'.φ i else []) → a ∈ w'.φ i ∧ ∃ k, ss'[i]? = some (.ow true k) ∧ s'[i]? = some (.ow true k) := fun i a h => by
    split at h
    · rename_i q
      refine ⟨h, ?_⟩
      cases hx : ss'[i]? with
      | none =>
        rw [hx] at q
        cases q
      | some x =>
        rw [hx] at q
        rcases outs_get e i x hx with ⟨d, rfl, _⟩ | ⟨k, rfl, h2⟩
        · cases q
        · exact ⟨k, rfl, h2⟩
    · cases h
  have hvs : ∀ (j : Nat) (x : Slot), ss'[j]? = some x → (vs.map some ++ List.replicate m none)[j]? = (vs.map some)[j]? := fun j x h => by
    have h1 := (List.getElem?_eq_some_iff.mp h).1
    rw [outs_len e, ← R0.len] at h1
    exact List.getElem?_append_left h1
  refine ⟨{ w' with φ := fun i => if isOw ss'[i]? = true then w'.φ i else [] }, rfl, ⟨l.f, fun a x h n => l.h a x h n, fun i a h => l.p i a (hφ i a h).1, l.t, l.x⟩, ⟨by rw [outs_len e]; exact R0.len, R.sub, fun i a h => R.out i a (hφ i a h).1, fun i d h => ?_, fun i p k h => ?_, fun i j a h1 h2 => R.dis i j a (hφ i a h1).1 (hφ j a h2).1, fun i h => ?_, ⟨R.tb.1, fun a ha => ⟨(R.tb.2 a ha).1, (R.tb.2 a ha).2.1, fun i z => (R.tb.2 a ha).2.2 i (hφ i a z).1⟩⟩⟩, ?_⟩
  · rcases outs_get e i _ h with ⟨d', q, h2⟩ | ⟨k, q, _⟩
    · cases q
      obtain ⟨v, h3, h4⟩ := R0.fz i d h2
      exact ⟨v, h3, dp_mono l.f _ _ h4⟩
    · cases q
  · rcases outs_get e i _ h with ⟨d', q, h2⟩ | ⟨k', q, h2⟩
    · cases q
    · cases q
      obtain ⟨v, h3, h4⟩ := R.ow i true k h2
      obtain ⟨h5, _⟩ := kp i k h2
      refine ⟨v, ?_, ?_⟩
      · rw [← hvs i _ h, ← h5]
        exact h3
      · show Own c w'.F w'.H v k (if isOw ss'[i]? = true then w'.φ i else [])
        rw [h, if_pos (show isOw (some (Slot.ow true k)) = true from rfl)]
        exact h4
  · show (if isOw ss'[i]? = true then w'.φ i else []) = []
    rw [if_neg]
    intro q
    cases hx : ss'[i]? with
    | none =>
      rw [hx] at q
      cases q
    | some x =>
      rw [hx] at q
      cases x with
      | ow p k => exact h p k hx
      | un => cases q
      | fz d => cases q
  · intro o o' v hc ho
    have nofp : ∀ (fp : List Addr), (∀ a ∈ fp, w.H a = none ∧ w'.F a = none ∧ w'.no a ∧ ∃ o, w'.H a = some o) → ∀ a ∈ fp, w.H a = none ∧ w'.F a = none ∧ ((∀ i, a ∉ (if isOw ss'[i]? = true then w'.φ i else [])) ∧ a ∉ w'.T) ∧ ∃ o, w'.H a = some o := fun fp h a ha => ⟨(h a ha).1, (h a ha).2.1, ⟨fun i z => (h a ha).2.2.1.1 i (hφ i a z).1, (h a ha).2.2.1.2⟩, (h a ha).2.2.2⟩
    cases o with
    | ex n => cases hc
    | v d =>
      cases hc
      exact ho
    | nw k =>
      cases hc
      obtain ⟨fp, h1, h2⟩ := ho
      exact ⟨fp, h1, nofp fp h2⟩
    | sl i =>
      have ho : σ'[i]? = some (some v) := ho
      have hc : (match s'[i]? with | some (.fz d) => some (Op.v d) | some (.ow false k) => if isOw ss[i]? = true then none else some (.nw k) | _ => none) = some o' := hc
      cases hx : s'[i]? with
      | none =>
        rw [hx] at hc
        cases hc
      | some x =>
        rw [hx] at hc
        cases x with
        | un => cases hc
        | fz d =>
          cases hc
          obtain ⟨u, h1, h2⟩ := R.fz i d hx
          rw [ho] at h1
          cases h1
          exact h2
        | ow p k =>
          cases p with
          | true => cases hc
          | false =>
            have hc : (if isOw ss[i]? = true then none else some (Op.nw k)) = some o' := hc
            split at hc
            · cases hc
            · rename_i no
              cases hc
              obtain ⟨u, h1, h2⟩ := R.ow i false k hx
              rw [ho] at h1
              cases h1
              have e0 : w.φ i = [] := R0.non i fun p k q => no (by rw [q]; rfl)
              refine ⟨w'.φ i, h2, fun a ha => ⟨?_, (R.out i a ha).1, ⟨fun j z => ?_, fun z => (R.tb.2 a z).2.2 i ha⟩, (R.out i a ha).2⟩⟩
              · rcases l.p i a ha with q | q
                · rw [e0] at q
                  cases q
                · exact q
              · obtain ⟨z1, k2, _, z2⟩ := hφ j a z
                have e := R.dis i j a ha z1
                subst e
                rw [hx] at z2
                cases z2
theorem conv_sl {ss s : List Slot} {o o' : Op} (h : conv ss s o = some o') : ∀ i, o' ≠ .sl i := by
  intro i z
  subst z
  cases o with
  | ex n => cases h
  | v d => cases h
  | nw k => cases h
  | sl j =>
    have h : (match s[j]? with | some (.fz d) => some (Op.v d) | some (.ow false k) => if isOw ss[j]? = true then none else some (.nw k) | _ => none) = some (Op.sl i) := h
    cases hx : s[j]? with
    | none =>
      rw [hx] at h
      cases h
    | some x =>
      rw [hx] at h
      cases x with
      | un => cases h
      | fz d => cases h
      | ow p k =>
        cases p with
        | true => cases h
        | false =>
          have h : (if isOw ss[j]? = true then none else some (Op.nw k)) = some (.sl i) := h
          split at h
          · cases h
          · cases h
end
/-- THE RULE for a def -/
theorem fn_sem {P : Program} {w : World} {K : PySem.W.Frag} {mg : Str → Option Value} {base : Heap} {x qual : Str} {st : Stmt} {f : Addr} {fd : FuncData} {N ps : List Str} {k l n : Nat} {c : Cfg K} {m : MS} (F : Fun K x qual st f fd) (S : FnScope N ps (defScope st)) (hN : N.length = l) (hn : ps.length = n)
    (hb : ∀ (cdv : Value) (A : Around) (outer : List Env) (s : Shared) (H : Hp) (E : XK), Room k (A.deeper (PyProof.Rows.envOfC qual (defScope st) s.heap.objs.size f cdv)) →
      PSs (cxOf CX0 P w K mg base N qual (defScope st) f cdv A outer s H E).nox (defBody st) (liftS c m)) : FnOk P w K mg base CX0 (k + 1) f fd ps (spF c n (bodyF l m)) := by
  subst hN hn
  refine F.ok S (fun vs H Q E h => h.1) (fun cdv A outer s H vs Q E hr h => ⟨_, hb cdv A outer s H E hr, ?_⟩)
  obtain ⟨hl, w1, ss, rfl, R, o, ss', e, ns, q⟩ := h
  obtain ⟨out, e1, e⟩ := bnd e
  have hlen : vs.length = ss.length := by
    have := R.len
    rw [List.length_map] at this
    exact this
  have R1 : Rel c w1 (L2.start N vs) (ss ++ List.replicate (N.length - ss.length) .un) := by
    unfold L2.start
    rw [hlen]
    exact R.pad _
  refine ⟨w1, _, rfl, R1, out, e1, ?_⟩
  have kp' : ∀ {σ' : St} {s' : List Slot}, Kp (L2.start N vs) (ss ++ List.replicate (N.length - ss.length) .un) σ' s' → Kp (vs.map some ++ List.replicate (N.length - ss.length) none) (ss ++ List.replicate (N.length - ss.length) .un) σ' s' := fun {σ' s'} h => by
    unfold L2.start at h
    rw [hlen] at h
    exact h
  cases out with
  | nx s' =>
    obtain ⟨ss2, e2, e⟩ := bnd (x := outs ss s') e
    cases e
    intro σ' w' l R' kp
    obtain ⟨w2, hh, l2, R2, _⟩ := R.leave l R' (kp' kp) e2
    show Q .non w'.H
    rw [← hh]
    exact q _ w2 l2 R2 .non
  | rt o1 s' =>
    obtain ⟨o2, e2, e⟩ := bnd (x := conv ss s' o1) e
    obtain ⟨ss2, e3, e⟩ := bnd e
    cases e
    intro v σ' w' l R' kp ho
    obtain ⟨w2, hh, l2, R2, hc⟩ := R.leave l R' (kp' kp) e3
    show Q v w'.H
    rw [← hh]
    exact q _ w2 l2 R2 (hc o1 _ v e2 ho)
  | bk s' => cases e
  | ct s' => cases e
  | ex n s' => trivial
/-! ### calls -/
def pass (s : List Slot) : List Op → Option (List Slot)
  | [] => some []
  | .v d :: r => (pass s r).bind fun t => some (.fz d :: t)
  | .nw _ :: _ => none
  | .sl i :: r => match s[i]? with
    | some (.fz d) => (pass s r).bind fun t => some (.fz d :: t)
    | some (.ow _ k) => (pass s r).bind fun t => some (.ow true k :: t)
    | _ => none
  | .ex _ :: _ => none
def jOf : List Op → Nat → Option Nat
  | [], _ => none
  | .sl k :: r, i => if k = i then some 0 else (jOf r i).map (· + 1)
  | .v _ :: r, i => (jOf r i).map (· + 1)
  | .nw _ :: r, i => (jOf r i).map (· + 1)
  | .ex _ :: r, i => (jOf r i).map (· + 1)
def dst (s : List Slot) : List Op → Bool
  | [] => true
  | .sl i :: r => (!isOw s[i]? || (jOf r i).isNone) && dst s r
  | .v _ :: r => dst s r
  | .nw _ :: r => dst s r
  | .ex _ :: r => dst s r
def shp : List Slot → List Slot → Bool
  | [], [] => true
  | .fz _ :: r, .fz _ :: r' => shp r r'
  | .ow _ _ :: r, .ow true _ :: r' => shp r r'
  | _, _ => false
def wb2 (p : Bool) : Option Slot → Slot
  | some (.ow _ k) => .ow p k
  | _ => .un
def wb1 (p : Bool) (k : Cont) (ss' : List Slot) : Option Nat → Slot
  | some j => wb2 p ss'[j]?
  | none => .ow p k
def wb (os : List Op) (ss' : List Slot) (i : Nat) : Slot → Slot
  | .ow p k => wb1 p k ss' (jOf os i)
  | x => x
theorem wb2_ow {p p' : Bool} {k : Cont} {x : Option Slot} (h : wb2 p x = .ow p' k) : p' = p ∧ ∃ q, x = some (.ow q k) := by
  cases x with
  | none => cases h
  | some x =>
    cases x with
    | un => cases h
    | fz d => cases h
    | ow q k' =>
      cases h
      exact ⟨rfl, q, rfl⟩
theorem wb2_fz {p : Bool} {d : D} {x : Option Slot} (h : wb2 p x = .fz d) : False := by
  cases x with
  | none => cases h
  | some x => cases x <;> cases h
theorem wb_fz {os : List Op} {ss' : List Slot} {i : Nat} {d : D} {y : Slot} (h : .fz d = wb os ss' i y) : y = .fz d := by
  cases y with
  | un => cases h
  | fz d' =>
    cases h
    rfl
  | ow p k =>
    have h : Slot.fz d = wb1 p k ss' (jOf os i) := h
    cases z : jOf os i with
    | none =>
      rw [z] at h
      cases h
    | some j =>
      rw [z] at h
      exact (wb2_fz h.symm).elim
theorem wb_ow {os : List Op} {ss' : List Slot} {i : Nat} {p : Bool} {k : Cont} {y : Slot} (h : .ow p k = wb os ss' i y) : ∃ k', y = .ow p k' ∧ ((jOf os i = none ∧ k' = k) ∨ ∃ j q, jOf os i = some j ∧ ss'[j]? = some (.ow q k)) := by
  cases y with
  | un => cases h
  | fz d' => cases h
  | ow p' k' =>
    have h : Slot.ow p k = wb1 p' k' ss' (jOf os i) := h
    cases z : jOf os i with
    | none =>
      rw [z] at h
      cases h
      exact ⟨_, rfl, .inl ⟨rfl, rfl⟩⟩
    | some j =>
      rw [z] at h
      obtain ⟨rfl, q, hq⟩ := wb2_ow h.symm
      exact ⟨_, rfl, .inr ⟨j, q, rfl, hq⟩⟩
/-- neither a value nor a new object -/
def Op.isSl : Op → Bool
  | .sl _ => true
  | .ex _ => true
  | _ => false
theorem Op.not_sl {o : Op} (h : o.isSl = false) : ∀ i, o ≠ .sl i := fun i z => by
  subst z
  cases h
def Op.isS : Op → Bool
  | .sl _ => true
  | _ => false
theorem Op.not_s {o : Op} (h : o.isS = false) : ∀ i, o ≠ .sl i := fun i z => by
  subst z
  cases h
def mCallF (f : SemF) (ma : MA) : M := fun s => (ma s).bind fun p => (pass p.2 p.1).bind fun ss => if dst p.2 p.1 = true then (f ss).bind fun r => if (shp ss r.2 && !r.1.isSl) = true then some (r.1, p.2.mapIdx (wb p.1 r.2)) else none else none
theorem jOf_some : ∀ {os : List Op} {i j : Nat}, jOf os i = some j → os[j]? = some (.sl i)
  | [], _, _, h => by cases h
  | .sl k :: r, i, j, h => by
    unfold jOf at h
    split at h
    · rename_i q
      cases h
      rw [q]
      rfl
    · cases q : jOf r i with
      | none =>
        rw [q] at h
        cases h
      | some j' =>
        rw [q] at h
        cases h
        exact jOf_some (os := r) q
  | .v _ :: r, i, j, h => by
    unfold jOf at h
    cases q : jOf r i with
    | none =>
      rw [q] at h
      cases h
    | some j' =>
      rw [q] at h
      cases h
      exact jOf_some (os := r) q
  | .nw _ :: r, i, j, h => by
    unfold jOf at h
    cases q : jOf r i with
    | none =>
      rw [q] at h
      cases h
    | some j' =>
      rw [q] at h
      cases h
      exact jOf_some (os := r) q
  | .ex _ :: r, i, j, h => by
    unfold jOf at h
    cases q : jOf r i with
    | none =>
      rw [q] at h
      cases h
    | some j' =>
      rw [q] at h
      cases h
      exact jOf_some (os := r) q
theorem jOf_none : ∀ {os : List Op} {i : Nat}, jOf os i = none → ∀ (j : Nat), os[j]? ≠ some (Op.sl i)
  | [], _, _, j => by simp
  | .sl k :: r, i, h, j => by
    unfold jOf at h
    split at h
    · cases h
    · rename_i q
      cases j with
      | zero =>
        intro z
        cases z
        exact q rfl
      | succ j =>
        have h' : jOf r i = none := by
          cases q : jOf r i with
          | none => rfl
          | some j' =>
            rw [q] at h
            cases h
        exact jOf_none (os := r) h' j
  | .v _ :: r, i, h, j => by
    unfold jOf at h
    cases j with
    | zero => intro z; cases z
    | succ j =>
      have h' : jOf r i = none := by
        cases q : jOf r i with
        | none => rfl
        | some j' =>
          rw [q] at h
          cases h
      exact jOf_none (os := r) h' j
  | .nw _ :: r, i, h, j => by
    unfold jOf at h
    cases j with
    | zero => intro z; cases z
    | succ j =>
      have h' : jOf r i = none := by
        cases q : jOf r i with
        | none => rfl
        | some j' =>
          rw [q] at h
          cases h
      exact jOf_none (os := r) h' j
  | .ex _ :: r, i, h, j => by
    unfold jOf at h
    cases j with
    | zero => intro z; cases z
    | succ j =>
      have h' : jOf r i = none := by
        cases q : jOf r i with
        | none => rfl
        | some j' =>
          rw [q] at h
          cases h
      exact jOf_none (os := r) h' j
theorem dst_uniq {s : List Slot} : ∀ {os : List Op}, dst s os = true → ∀ {i j j' : Nat}, isOw s[i]? = true → os[j]? = some (.sl i) → os[j']? = some (.sl i) → j = j'
  | [], _, _, _, _, _, h, _ => by simp at h
  | o :: r, hd, i, j, j', ho, h1, h2 => by
    have hr : dst s r = true := by
      cases o with
      | sl k =>
        have hd : ((!isOw s[k]? || (jOf r k).isNone) && dst s r) = true := hd
        exact (Bool.and_eq_true_iff.mp hd).2
      | v d => exact hd
      | nw k => exact hd
      | ex n => exact hd
    have key : ∀ {j : Nat}, o = .sl i → r[j]? = some (.sl i) → False := fun {j} e h => by
      subst e
      have hd : ((!isOw s[i]? || (jOf r i).isNone) && dst s r) = true := hd
      have h3 := (Bool.and_eq_true_iff.mp hd).1
      rw [ho] at h3
      have h4 : (jOf r i).isNone = true := h3
      exact jOf_none (Option.isNone_iff_eq_none.mp h4) j h
    cases j with
    | zero =>
      cases j' with
      | zero => rfl
      | succ j' => exact (key (Option.some.inj h1) h2).elim
    | succ j =>
      cases j' with
      | zero => exact (key (Option.some.inj h2) h1).elim
      | succ j' => rw [dst_uniq hr ho h1 h2]
theorem pass_len {s : List Slot} : ∀ {os : List Op} {ss : List Slot}, pass s os = some ss → ss.length = os.length
  | [], _, h => by
    cases h
    rfl
  | .v d :: r, _, h => by
    obtain ⟨t, e1, e⟩ := bnd (x := pass s r) h
    cases e
    rw [List.length_cons, List.length_cons, pass_len e1]
  | .nw _ :: _, _, h => by cases h
  | .ex _ :: _, _, h => by cases h
  | .sl i :: r, _, h => by
    unfold pass at h
    cases q : s[i]? with
    | none =>
      rw [q] at h
      cases h
    | some x =>
      rw [q] at h
      cases x with
      | un => cases h
      | fz d =>
        obtain ⟨t, e1, e⟩ := bnd (x := pass s r) h
        cases e
        rw [List.length_cons, List.length_cons, pass_len e1]
      | ow p k =>
        obtain ⟨t, e1, e⟩ := bnd (x := pass s r) h
        cases e
        rw [List.length_cons, List.length_cons, pass_len e1]
theorem pass_get {s : List Slot} : ∀ {os : List Op} {ss : List Slot}, pass s os = some ss → ∀ (j : Nat) (x : Slot), ss[j]? = some x →
    (∃ d, x = .fz d ∧ (os[j]? = some (.v d) ∨ ∃ i, os[j]? = some (.sl i) ∧ s[i]? = some (.fz d))) ∨ (∃ i p k, x = .ow true k ∧ os[j]? = some (.sl i) ∧ s[i]? = some (.ow p k))
  | [], _, h, j, x, e => by
    cases h
    cases e
  | .v d :: r, _, h, j, x, e => by
    obtain ⟨t, e1, e2⟩ := bnd (x := pass s r) h
    cases e2
    cases j with
    | zero =>
      cases e
      exact .inl ⟨d, rfl, .inl rfl⟩
    | succ j => exact pass_get e1 j x e
  | .nw _ :: _, _, h, _, _, _ => by cases h
  | .ex _ :: _, _, h, _, _, _ => by cases h
  | .sl i :: r, _, h, j, x, e => by
    unfold pass at h
    cases q : s[i]? with
    | none =>
      rw [q] at h
      cases h
    | some y =>
      rw [q] at h
      cases y with
      | un => cases h
      | fz d =>
        obtain ⟨t, e1, e2⟩ := bnd (x := pass s r) h
        cases e2
        cases j with
        | zero =>
          cases e
          exact .inl ⟨d, rfl, .inr ⟨i, rfl, q⟩⟩
        | succ j => exact pass_get e1 j x e
      | ow p k =>
        obtain ⟨t, e1, e2⟩ := bnd (x := pass s r) h
        cases e2
        cases j with
        | zero =>
          cases e
          exact .inr ⟨i, p, k, rfl, rfl, q⟩
        | succ j => exact pass_get e1 j x e
theorem shp_get : ∀ {ss ss' : List Slot}, shp ss ss' = true → ∀ (j : Nat) (x : Slot), ss'[j]? = some x → (∃ d d', x = .fz d' ∧ ss[j]? = some (.fz d)) ∨ (∃ p k k', x = .ow true k' ∧ ss[j]? = some (.ow p k))
  | [], [], _, j, x, e => by cases e
  | .fz d :: r, .fz d' :: r', h, j, x, e => by
    cases j with
    | zero =>
      cases e
      exact .inl ⟨d, d', rfl, rfl⟩
    | succ j => exact shp_get (ss := r) (ss' := r') h j x e
  | .ow p k :: r, .ow true k' :: r', h, j, x, e => by
    cases j with
    | zero =>
      cases e
      exact .inr ⟨p, k, k', rfl, rfl⟩
    | succ j => exact shp_get (ss := r) (ss' := r') h j x e
  | .un :: _, _, h, _, _, _ => by cases h
  | [], _ :: _, h, _, _, _ => by cases h
  | .fz _ :: _, [], h, _, _, _ => by cases h
  | .fz _ :: _, .un :: _, h, _, _, _ => by cases h
  | .fz _ :: _, .ow _ _ :: _, h, _, _, _ => by cases h
  | .ow _ _ :: _, [], h, _, _, _ => by cases h
  | .ow _ _ :: _, .un :: _, h, _, _, _ => by cases h
  | .ow _ _ :: _, .fz _ :: _, h, _, _, _ => by cases h
  | .ow _ _ :: _, .ow false _ :: _, h, _, _, _ => by cases h
theorem paired_get {α β : Type} {R : α → β → Prop} : ∀ {xs : List α} {ys : List β}, Paired R xs ys → ∀ {j : Nat} {x : α}, xs[j]? = some x → ∃ y, ys[j]? = some y ∧ R x y
  | _, _, .nil, _, _, h => by simp at h
  | _, _, .cons r t, 0, _, h => by
    cases h
    exact ⟨_, rfl, r⟩
  | _, _, .cons r t, j + 1, _, h => paired_get (j := j) t h
section
variable {K : PySem.W.Frag} {c : Cfg K} {w w' : W} {σ σ' : St} {s s' ss ss' : List Slot} {o o' : Op} {v : V} {d : D} {vs : List V} {os : List Op} {B : Hp}
/-- what a callee gets -/
def subφ (w : W) (os : List Op) : Nat → List Addr := fun j => match os[j]? with
  | some (.sl i) => w.φ i
  | _ => []
theorem mem_subφ {w : W} {os : List Op} {j : Nat} {a : Addr} (h : a ∈ subφ w os j) : ∃ i, os[j]? = some (.sl i) ∧ a ∈ w.φ i := by
  unfold subφ at h
  cases q : os[j]? with
  | none =>
    rw [q] at h
    cases h
  | some x =>
    rw [q] at h
    cases x with
    | v d => cases h
    | nw k => cases h
    | ex n => cases h
    | sl i => exact ⟨i, rfl, h⟩
theorem Rel.ow_of (R : Rel c w σ s) {i : Nat} {a : Addr} (h : a ∈ w.φ i) : ∃ p k, s[i]? = some (.ow p k) := by
  cases q : s[i]? with
  | none =>
    have z := R.non i fun p k e => by
      rw [q] at e
      cases e
    rw [z] at h
    cases h
  | some x =>
    cases x with
    | ow p k => exact ⟨p, k, rfl⟩
    | un =>
      have z := R.non i fun p k e => by
        rw [q] at e
        cases e
      rw [z] at h
      cases h
    | fz d =>
      have z := R.non i fun p k e => by
        rw [q] at e
        cases e
      rw [z] at h
      cases h
theorem Rel.enter (R : Rel c w σ s) (q : RepOs c B w σ os vs) (e : pass s os = some ss) (hd : dst s os = true) : Rel c { w with φ := subφ w os } (vs.map some) ss := by
  have hl : vs.length = os.length := q.length.symm
  have val : ∀ {j : Nat} {x : Op}, os[j]? = some x → ∃ v, (vs.map some)[j]? = some (some v) ∧ RepO c B w σ x v := fun {j x} h => by
    obtain ⟨v, h1, h2⟩ := paired_get q h
    exact ⟨v, by rw [List.getElem?_map, h1]; rfl, h2⟩
  refine ⟨by rw [List.length_map, pass_len e, hl], R.sub, fun j a h => ?_, fun j d h => ?_, fun j p k h => ?_, fun j j' a h1 h2 => ?_, fun j h => ?_, ⟨R.tb.1, fun a ha => ⟨(R.tb.2 a ha).1, (R.tb.2 a ha).2.1, fun j z => let ⟨i, _, h1⟩ := mem_subφ z; (R.tb.2 a ha).2.2 i h1⟩⟩⟩
  · obtain ⟨i, _, h1⟩ := mem_subφ h
    exact R.out i a h1
  · rcases pass_get e j _ h with ⟨d', z, h1⟩ | ⟨i, p, k, z, _⟩
    · cases z
      rcases h1 with h1 | ⟨i, h1, h2⟩
      · obtain ⟨v, h3, h4⟩ := val h1
        exact ⟨v, h3, h4⟩
      · obtain ⟨v, h3, h4⟩ := val h1
        have h4 : σ[i]? = some (some v) := h4
        obtain ⟨u, h5, h6⟩ := R.fz i d h2
        rw [h4] at h5
        cases h5
        exact ⟨v, h3, h6⟩
    · cases z
  · rcases pass_get e j _ h with ⟨d', z, h1⟩ | ⟨i, p', k', z, h1, h2⟩
    · cases z
    · cases z
      obtain ⟨v, h3, h4⟩ := val h1
      have h4 : σ[i]? = some (some v) := h4
      obtain ⟨u, h5, h6⟩ := R.ow i p' k h2
      rw [h4] at h5
      cases h5
      refine ⟨v, h3, ?_⟩
      show Own c w.F w.H v k (subφ w os j)
      unfold subφ
      rw [h1]
      exact h6
  · obtain ⟨i, h3, h4⟩ := mem_subφ h1
    obtain ⟨i', h5, h6⟩ := mem_subφ h2
    have z := R.dis i i' a h4 h6
    subst z
    obtain ⟨p, k, h7⟩ := R.ow_of h4
    exact dst_uniq hd (by rw [h7]; rfl) h3 h5
  · cases hx : subφ w os j with
    | nil => exact hx
    | cons a r =>
      obtain ⟨i, h1, h2⟩ := mem_subφ (w := w) (os := os) (j := j) (a := a) (by rw [hx]; exact List.mem_cons_self)
      obtain ⟨p, k, h3⟩ := R.ow_of h2
      exfalso
      have hj : j < ss.length := by
        rw [pass_len e]
        exact (List.getElem?_eq_some_iff.mp h1).1
      rcases pass_get e j ss[j] (List.getElem?_eq_getElem hj) with ⟨d', z, h4⟩ | ⟨i', p', k', z, _⟩
      · rcases h4 with h4 | ⟨i', h4, h5⟩
        · rw [h1] at h4
          cases h4
        · rw [h1] at h4
          cases h4
          rw [h3] at h5
          cases h5
      · exact h true k' (by rw [List.getElem?_eq_getElem hj, z])
theorem wb_get {s : List Slot} {os : List Op} {ss' : List Slot} {i : Nat} {x : Slot} (h : (s.mapIdx (wb os ss'))[i]? = some x) : ∃ y, s[i]? = some y ∧ x = wb os ss' i y := by
  rw [List.getElem?_mapIdx] at h
  cases q : s[i]? with
  | none =>
    rw [q] at h
    cases h
  | some y =>
    rw [q] at h
    cases h
    exact ⟨y, rfl, rfl⟩
theorem Rel.back (R : Rel c w σ s) (q : RepOs c B w σ os vs) (e : pass s os = some ss) (hd : dst s os = true) (l : Le { w with φ := subφ w os } w') (R' : Rel c w' (vs.map some) ss') (hs : shp ss ss' = true) :
    ∃ w2, w2.H = w'.H ∧ w2.F = w'.F ∧ Le w w2 ∧ Rel c w2 σ (s.mapIdx (wb os ss')) ∧ Keep s (s.mapIdx (wb os ss')) ∧ ∀ a, w.H a = none → w'.no a → w2.no a := by
  -- the slots that were handed over
  let φ2 : Nat → List Addr := fun i => match jOf os i with
    | some j => w'.φ j
    | none => w.φ i
  have hφ : ∀ i a, a ∈ φ2 i → (∃ j, jOf os i = some j ∧ a ∈ w'.φ j) ∨ (jOf os i = none ∧ a ∈ w.φ i) := fun i a h => by
    have h : a ∈ (match jOf os i with | some j => w'.φ j | none => w.φ i) := h
    cases z : jOf os i with
    | none =>
      rw [z] at h
      exact .inr ⟨rfl, h⟩
    | some j =>
      rw [z] at h
      exact .inl ⟨j, rfl, h⟩
  have noc : ∀ i a, jOf os i = none → a ∈ w.φ i → ∀ j, a ∉ subφ w os j := fun i a h1 h2 j h3 => by
    obtain ⟨i', h4, h5⟩ := mem_subφ h3
    have z := R.dis i i' a h2 h5
    subst z
    exact jOf_none h1 j h4
  have keepu : ∀ i a, jOf os i = none → a ∈ w.φ i → ∀ o, w.H a = some o → w'.H a = some o ∧ w'.F a = w.F a := fun i a h1 h2 o h3 => l.h a o h3 ⟨noc i a h1 h2, fun z => (R.tb.2 a z).2.2 i h2⟩
  have cross : ∀ i i' a j, jOf os i = some j → a ∈ w'.φ j → jOf os i' = none → a ∈ w.φ i' → False := fun i i' a j h1 h2 h3 h4 => by
    obtain ⟨_, o, h5⟩ := R.out i' a h4
    rcases l.p j a h2 with z | z
    · exact noc i' a h3 h4 j z
    · have z : w.H a = none := z
      rw [h5] at z
      cases z
  have hval : ∀ {j : Nat} {i : Nat} {v : V}, os[j]? = some (.sl i) → (vs.map some)[j]? = some (some v) → σ[i]? = some (some v) := fun {j i v} h1 h2 => by
    obtain ⟨u, h3, h4⟩ := paired_get q h1
    rw [List.getElem?_map, h3] at h2
    cases h2
    exact h4
  have lew : Le w { w' with φ := φ2 } := ⟨l.f, fun a o h n => l.h a o h ⟨fun j z => by
    obtain ⟨i, _, h2⟩ := mem_subφ z
    exact n.1 i h2, n.2⟩, fun i a h => by
    rcases hφ i a h with ⟨j, h1, h2⟩ | ⟨h1, h2⟩
    · rcases l.p j a h2 with z | z
      · obtain ⟨i', h3, h4⟩ := mem_subφ z
        have h5 := jOf_some h1
        rw [h3] at h5
        cases h5
        exact .inl h4
      · exact .inr z
    · exact .inl h2, l.t, l.x⟩
  refine ⟨{ w' with φ := φ2 }, rfl, rfl, lew, ⟨by rw [List.length_mapIdx]; exact R.len, R'.sub, fun i a h => ?_, fun i d h => ?_, fun i p k h => ?_, fun i i' a h1 h2 => ?_, fun i h => ?_, ⟨R'.tb.1, fun a ha => ⟨(R'.tb.2 a ha).1, (R'.tb.2 a ha).2.1, fun i z => ?_⟩⟩⟩, fun j k h => ?_, fun a h1 h2 => ⟨fun i h3 => ?_, h2.2⟩⟩
  · rcases hφ i a h with ⟨j, h1, h2⟩ | ⟨h1, h2⟩
    · exact R'.out j a h2
    · obtain ⟨h3, o, h4⟩ := R.out i a h2
      obtain ⟨h5, h6⟩ := keepu i a h1 h2 o h4
      exact ⟨h6.trans h3, o, h5⟩
  · obtain ⟨y, h1, h2⟩ := wb_get h
    have hy := wb_fz h2
    subst hy
    obtain ⟨v, h3, h4⟩ := R.fz i d h1
    exact ⟨v, h3, dp_mono l.f _ _ h4⟩
  · obtain ⟨y, h1, h2⟩ := wb_get h
    obtain ⟨k', hy, h9⟩ := wb_ow h2
    subst hy
    rcases h9 with ⟨z, z0⟩ | ⟨j, q', z, z2⟩
    · subst z0
      obtain ⟨v, h3, h4⟩ := R.ow i p _ h1
      refine ⟨v, h3, ?_⟩
      have e0 : φ2 i = w.φ i := by
        show (match jOf os i with | some j => w'.φ j | none => w.φ i) = w.φ i
        rw [z]
      show Own c w'.F w'.H v _ (φ2 i)
      rw [e0]
      exact h4.mono l.f fun a ha o ho => (keepu i a z ha o ho).1
    · obtain ⟨v, h3, h4⟩ := R'.ow j q' k z2
      refine ⟨v, hval (jOf_some z) h3, ?_⟩
      have e0 : φ2 i = w'.φ j := by
        show (match jOf os i with | some j => w'.φ j | none => w.φ i) = w'.φ j
        rw [z]
      show Own c w'.F w'.H v k (φ2 i)
      rw [e0]
      exact h4
  · rcases hφ i a h1 with ⟨j, h3, h4⟩ | ⟨h3, h4⟩
    · rcases hφ i' a h2 with ⟨j', h5, h6⟩ | ⟨h5, h6⟩
      · have z := R'.dis j j' a h4 h6
        subst z
        have e1 := jOf_some h3
        rw [jOf_some h5] at e1
        cases e1
        rfl
      · exact (cross i i' a j h3 h4 h5 h6).elim
    · rcases hφ i' a h2 with ⟨j', h5, h6⟩ | ⟨h5, h6⟩
      · exact (cross i' i a j' h5 h6 h3 h4).elim
      · exact R.dis i i' a h4 h6
  · show (match jOf os i with | some j => w'.φ j | none => w.φ i) = []
    cases z : jOf os i with
    | none =>
      refine R.non i fun p k h1 => h p k ?_
      rw [List.getElem?_mapIdx, h1]
      show some (wb1 p k ss' (jOf os i)) = _
      rw [z]
      rfl
    | some j =>
      show w'.φ j = []
      refine R'.non j fun p k h1 => ?_
      rcases shp_get hs j _ h1 with ⟨d, d', z1, _⟩ | ⟨p2, k2, k3, z1, z2⟩
      · cases z1
      · rcases pass_get e j _ z2 with ⟨d', z3, _⟩ | ⟨i2, p3, k4, z3, z4, z5⟩
        · cases z3
        · rw [jOf_some z] at z4
          cases z4
          refine h p3 k ?_
          rw [List.getElem?_mapIdx, z5]
          show some (wb1 p3 k4 ss' (jOf os i)) = _
          rw [z]
          show some (wb2 p3 ss'[j]?) = _
          rw [h1]
          rfl
  · rcases hφ i a z with ⟨j, _, h4⟩ | ⟨_, h4⟩
    · exact (R'.tb.2 a ha).2.2 j h4
    · exact (R.tb.2 a (by have := l.x.1; rw [← this]; exact ha)).2.2 i h4
  · obtain ⟨y, h1, h2⟩ := wb_get h
    obtain ⟨k', hy, _⟩ := wb_ow h2
    subst hy
    exact ⟨k', h1⟩
  · rcases hφ i a h3 with ⟨j, _, h4⟩ | ⟨_, h4⟩
    · exact h2.1 j h4
    · obtain ⟨_, o, h5⟩ := R.out i a h4
      rw [h1] at h5
      cases h5
/-- a call, told by what the callee is worth -/
theorem lift_callF {f : SemF} {n : Nat} {ma : MA} {σ : St} {H : Hp} {Q : VK} {E : XK} (hn : ∀ s p, ma s = some p → p.1.length = n) (h : liftE c (mCallF f ma) σ H Q) : liftA c ma σ H fun vs H1 => spF c n f (vs ++ []) H1 Q E := by
  obtain ⟨w, s, rfl, R, o, s', e, k⟩ := h
  obtain ⟨⟨os, s1⟩, e1, e⟩ := bnd e
  obtain ⟨ss, e2, e⟩ := bnd e
  by_cases hd : dst s1 os = true
  · have e : ((f ss).bind fun r => if (shp ss r.2 && !r.1.isSl) = true then some (r.1, s1.mapIdx (wb os r.2)) else none) = some (o, s') := by
      rw [← e]
      show _ = if dst s1 os = true then _ else _
      rw [if_pos hd]
    obtain ⟨⟨o1, ss'⟩, e3, e⟩ := bnd e
    by_cases hb : (shp ss ss' && !o1.isSl) = true
    · have e : some (o1, s1.mapIdx (wb os ss')) = some (o, s') := by
        rw [← e]
        show _ = if (shp ss ss' && !o1.isSl) = true then _ else _
        rw [if_pos hb]
      cases e
      obtain ⟨hs, hns⟩ := Bool.and_eq_true_iff.mp hb
      have ns : ∀ i, o ≠ .sl i := Op.not_sl (by
        cases z : o.isSl with
        | false => rfl
        | true =>
          rw [z] at hns
          cases hns)
      refine ⟨w, s, rfl, R, os, s1, e1, fun vs w1 l1 R1 k1 q1 => ?_⟩
      show spF c n f (vs ++ []) w1.H Q E
      rw [List.append_nil]
      refine ⟨by rw [← q1.length]; exact hn _ _ e1, { w1 with φ := subφ w1 os }, ss, rfl, R1.enter q1 e2 hd, o, ss', e3, ns, fun v w' l' R' ho => ?_⟩
      obtain ⟨w2, hh, hf, l2, R2, kp, hno⟩ := R1.back q1 e2 hd l' R' hs
      rw [← hh]
      refine k v w2 (l1.trans l2) R2 (k1.trans kp) ?_
      cases o with
      | v d =>
        show Dp K w2.F v d
        rw [hf]
        exact ho
      | nw kk =>
        obtain ⟨fp, h1, h2⟩ := ho
        refine ⟨fp, ?_, fun a ha => ?_⟩
        · rw [hf, hh]
          exact h1
        · obtain ⟨z1, z2, z3, z4⟩ := h2 a ha
          have z1 : w1.H a = none := z1
          refine ⟨l1.back z1, ?_, hno a z1 z3, ?_⟩
          · rw [hf]
            exact z2
          · rw [hh]
            exact z4
      | sl i => exact absurd rfl (ns i)
      | ex n => exact ho.elim
    · exfalso
      have e : (none : Option (Op × List Slot)) = some (o, s') := by
        rw [← e]
        show _ = if (shp ss ss' && !o1.isSl) = true then _ else _
        rw [if_neg hb]
      cases e
  · exfalso
    have e : (none : Option (Op × List Slot)) = some (o, s') := by
      rw [← e]
      show _ = if dst s1 os = true then _ else _
      rw [if_neg hd]
    cases e
end
end Sh
-- Sh5.lean
set_option Elab.async false
set_option linter.all false
set_option maxRecDepth 100000
set_option maxHeartbeats 1000000
/-! Sh5: calls as rules, loops, comprehensions. -/
namespace Sh
open PySem L2
theorem mfz_v {m : M} {s s' : List Slot} {o : Op} (h : mFz m s = some (o, s')) : ∃ d, o = .v d := by
  obtain ⟨⟨o0, s0⟩, e4, e5⟩ := bnd h
  obtain ⟨⟨d0, s00⟩, e6, e7⟩ := bnd e5
  cases e7
  exact ⟨d0, rfl⟩
def Len (ma : MA) (n : Nat) : Prop := ∀ s p, ma s = some p → p.1.length = n
theorem len_nil : Len mANil 0 := fun s p h => by
  cases h
  rfl
theorem len_cons {m : M} {ma : MA} {n : Nat} (h : Len ma n) : Len (mACons m ma) (n + 1) := fun s p e => by
  obtain ⟨⟨o1, s1⟩, e1, e⟩ := bnd e
  obtain ⟨⟨os, s2⟩, e2, e⟩ := bnd e
  cases e
  show (o1 :: os).length = n + 1
  rw [List.length_cons, h _ _ e2]
/-- a def of the module, told by f -/
structure Fn (P : Program) (w : World) (K : PySem.W.Frag) (mg : Str → Option Value) (base : Heap) (c : Cfg K) (k : Nat) (x : Str) (n : Nat) (f : SemF) : Prop where
  ex : ∃ (fa : Addr) (fd : FuncData) (ps : List Str), FnOk P w K mg base CX0 k fa fd ps (spF c n f) ∧ mg x = some (.ref fa) ∧ PySem.W.keepIn K (.ref fa) = true ∧ Binds K fd ps []
theorem Fn.mono {P : Program} {w : World} {K : PySem.W.Frag} {mg : Str → Option Value} {base : Heap} {c : Cfg K} {j k : Nat} {x : Str} {n : Nat} {f : SemF} (F : Fn P w K mg base c j x n f) (h : j ≤ k) : Fn P w K mg base c k x n f := by
  obtain ⟨fa, fd, ps, h1, h2⟩ := F.ex
  exact ⟨fa, fd, ps, h1.mono h, h2⟩
/-- the same def, told otherwise -/
theorem Fn.to {P : Program} {w : World} {K : PySem.W.Frag} {mg : Str → Option Value} {base : Heap} {c : Cfg K} {k : Nat} {x : Str} {n : Nat} {f g : SemF} (F : Fn P w K mg base c k x n f) (h : ∀ ss r, g ss = some r → f ss = some r) : Fn P w K mg base c k x n g := by
  obtain ⟨fa, fd, ps, h1, h2⟩ := F.ex
  refine ⟨fa, fd, ps, h1.imp fun vs H Q E q => ?_, h2⟩
  obtain ⟨hl, w1, ss, e1, R, o, ss', e, q⟩ := q
  exact ⟨hl, w1, ss, e1, R, o, ss', h _ _ e, q⟩
section
variable {X : Cx} {c : Cfg X.K} {pos p : Pos} {x : Str} {e : Expr} {es : List Expr} {ma : MA} {k n : Nat} {f : SemF}
theorem she_call (G : Fn X.prog X.w X.K X.mg X.base c k x n f) (hr : Room k X.A) (hg : Gl X x) (ha : PA X (e :: es) (liftA c ma)) (hn : Len ma n) (hdb : (x == ("__debug__" : Str)) = false := by decide)
    (he : starEach (e :: es) X.env = (false, eval e X.env) :: starEach es X.env := by rfl) (hpl : (backTo pos (starEach es X.env)).any (·.1) = false := by rfl) : PE X (.Call (.Name x p) (e :: es) [] pos) (liftE c (mCallF f ma)) := by
  obtain ⟨fa, fd, ps, h1, h2, h3, h4⟩ := G.ex
  exact (pe_call h1 hr hg h2 h3 h4 .nil pass0 ha hdb he hpl).imp fun _ _ _ q => lift_callF hn q
theorem she_callB {r : List V → Hp → VK → Prop} {g : List D → Option Res} {id : String} (hc : CallR X (.builtin id) r) (hs : SemC X.K r g) (hg : Gl X x) (hm : X.mg x = none) (hv : bootBuiltins x = some (.builtin id)) (ha : PA X (e :: es) (liftA c ma)) (h : PE X (.Call (.Name x p) (e :: es) [] pos) (tCB r (liftA c ma))) :
    PE X (.Call (.Name x p) (e :: es) [] pos) (liftE c (mCall g ma)) := h.imp fun _ _ _ q => lift_call hs q
end
/-! ### what is walked -/
def Walks {K : PySem.W.Frag} (J : It) (ds : List D) (w : W) : Prop := ∀ w', Le w w' → Sub w'.F w'.H → (∀ i d, ds[i]? = some d → J.go i w'.H ∧ ∀ x H', J.yld i w'.H x H' → ∃ w'', w''.H = H' ∧ Gr w' w'' ∧ Dp K w''.F x d) ∧ J.stop ds.length w'.H
section
variable {K : PySem.W.Frag} {w : W}
theorem walks_list {a : Addr} {xs : List V} {ds : List D} (h : SqL K w.F a xs) (hd : DpAll K w.F xs ds) : Walks (K := K) (Itl K a) ds w := fun w' l sb => by
  have h' : SqL K w'.H a xs := sqL_mono sb (sqL_mono l.f h)
  refine ⟨fun i d e => ?_, xs, h', by rw [dpa_len hd]; exact Nat.le_refl _⟩
  obtain ⟨v, h1, h2⟩ := dpa_get hd e
  refine ⟨⟨xs, v, h', h1⟩, fun x H' ⟨e1, y⟩ => ?_⟩
  subst e1
  have z := y xs h'
  rw [h1] at z
  cases z
  exact ⟨w', rfl, Gr.refl sb, dp_mono l.f _ _ h2⟩
theorem walks_tup {a : Addr} {xs : List V} {ds : List D} (h : SqT K w.F a xs) (hd : DpAll K w.F xs ds) : Walks (K := K) (Itt K a) ds w := fun w' l sb => by
  have h' : SqT K w'.H a xs := sqT_mono sb (sqT_mono l.f h)
  refine ⟨fun i d e => ?_, xs, h', by rw [dpa_len hd]; exact Nat.le_refl _⟩
  obtain ⟨v, h1, h2⟩ := dpa_get hd e
  refine ⟨⟨xs, v, h', h1⟩, fun x H' ⟨e1, y⟩ => ?_⟩
  subst e1
  have z := y xs h'
  rw [h1] at z
  cases z
  exact ⟨w', rfl, Gr.refl sb, dp_mono l.f _ _ h2⟩
def rngD (lo : Int) (n : Nat) : List D := (List.range n).map fun (i : Nat) => .int (lo + (i : Int))
theorem rngD_len (lo : Int) (n : Nat) : (rngD lo n).length = n := by
  unfold rngD
  rw [List.length_map, List.length_range]
theorem rngD_get {lo : Int} {n i : Nat} {d : D} (h : (rngD lo n)[i]? = some d) : i < n ∧ d = .int (lo + (i : Int)) := by
  have hi := (List.getElem?_eq_some_iff.mp h).1
  rw [rngD_len] at hi
  unfold rngD at h
  rw [List.getElem?_map, List.getElem?_range hi] at h
  cases h
  exact ⟨hi, rfl⟩
theorem walks_rng {lo : Int} {n : Nat} : Walks (K := K) (Itr lo n) (rngD lo n) w := fun w' l sb => by
  refine ⟨fun i d e => ?_, by rw [rngD_len]; exact Nat.le_refl _⟩
  obtain ⟨hi, rfl⟩ := rngD_get e
  refine ⟨hi, fun x H' ⟨e1, y⟩ => ?_⟩
  subst e1 y
  exact ⟨w', rfl, Gr.refl sb, .int _⟩
def enumD (ds : List D) : List D := ds.mapIdx fun i d => .tuple [.int (i : Int), d]
theorem enumD_get {ds : List D} {i : Nat} {d : D} (h : (enumD ds)[i]? = some d) : ∃ d', ds[i]? = some d' ∧ d = .tuple [.int (i : Int), d'] := by
  unfold enumD at h
  rw [List.getElem?_mapIdx] at h
  cases q : ds[i]? with
  | none =>
    rw [q] at h
    cases h
  | some d' =>
    rw [q] at h
    cases h
    exact ⟨d', rfl, rfl⟩
theorem enumD_len (ds : List D) : (enumD ds).length = ds.length := by
  unfold enumD
  rw [List.length_mapIdx]
end
/-! ### targets -/
abbrev Tgt := D → List Slot → Option (List Slot)
def TgtOk {K : PySem.W.Frag} (c : Cfg K) (g : TG) (t : Tgt) : Prop := ∀ (w₀ w : W) (σ : St) (s s' : List Slot) (v : V) (d : D), Le w₀ w → Rel c w σ s → Dp K w.F v d → t d s = some s' → ∀ Q : St → Hp → Prop,
  (∀ σ' w', w'.H = w.H → Le w₀ w' → Rel c w' σ' s' → Kp σ s σ' s' → Q σ' w'.H) → g v σ w.H Q
def tName (i : Nat) : Tgt := fun d s => put s i (.v d)
abbrev Tgts := List D → List Slot → Option (List Slot)
def TgtsOk {K : PySem.W.Frag} (c : Cfg K) (g : TGs) (t : Tgts) : Prop := ∀ (w₀ w : W) (σ : St) (s s' : List Slot) (vs : List V) (ds : List D), Le w₀ w → Rel c w σ s → DpAll K w.F vs ds → t ds s = some s' → ∀ Q : St → Hp → Prop,
  (∀ σ' w', w'.H = w.H → Le w₀ w' → Rel c w' σ' s' → Kp σ s σ' s' → Q σ' w'.H) → g vs σ w.H Q
def tNilT : Tgts := fun ds s => match ds with
  | [] => some s
  | _ => none
def tConsT (t : Tgt) (u : Tgts) : Tgts := fun ds s => match ds with
  | d :: r => (t d s).bind fun s1 => u r s1
  | [] => none
def tTupT (n : Nat) (u : Tgts) : Tgt := fun d s => match d with
  | .tuple ds => if ds.length = n then u ds s else none
  | _ => none
section
variable {K : PySem.W.Frag} {c : Cfg K}
theorem Rel.put_f {w₀ w : W} {σ : St} {s s' : List Slot} {v : V} {d : D} (R : Rel c w σ s) (l : Le w₀ w) (h : Dp K w.F v d) {i : Nat} (e : Sh.put s i (.v d) = some s') : ∃ w', w'.H = w.H ∧ w'.F = w.F ∧ Le w₀ w' ∧ Rel c w' (σ.set i (some v)) s' ∧ Kp σ s (σ.set i (some v)) s' := by
  unfold Sh.put at e
  by_cases hc : can s i = true
  · rw [if_pos hc] at e
    cases e
    have hil := can_lt hc
    obtain ⟨w2, h2, f2, l2, R2⟩ := R.setF l i hil h
    refine ⟨w2, h2, f2, l2, R2, fun j k hj => ?_⟩
    by_cases z : j = i
    · subst z
      rw [List.getElem?_set_self hil] at hj
      cases hj
    · rw [List.getElem?_set_ne (Ne.symm z)] at hj
      exact ⟨by rw [List.getElem?_set_ne (Ne.symm z)], k, hj⟩
  · rw [if_neg hc] at e
    cases e
theorem tgt_name (i : Nat) : TgtOk c (gName i) (tName i) := fun w₀ w σ s s' v d l R h e Q k => by
  obtain ⟨w', hh, _, l', R', kp⟩ := R.put_f l h e
  show Q (σ.set i (some v)) w.H
  rw [← hh]
  exact k _ w' hh l' R' kp
theorem tgts_nil : TgtsOk c gNil tNilT := fun w₀ w σ s s' vs ds l R h e Q k => by
  cases ds with
  | nil =>
    cases h
    cases e
    exact ⟨rfl, k σ w rfl l R (Kp.refl σ s)⟩
  | cons d r => cases e
/-- names in a row -/
theorem tgts_cons {u : TGs} {tu : Tgts} (i : Nat) (hu : TgtsOk c u tu) : TgtsOk c (gCons (gName i) u) (tConsT (tName i) tu) := fun w₀ w σ s s' vs ds l R h e Q k => by
  cases ds with
  | nil => cases e
  | cons d r =>
    cases h with
    | cons h1 h2 =>
      obtain ⟨s1, e1, e2⟩ := bnd e
      refine ⟨_, _, rfl, ?_⟩
      obtain ⟨w1, hh, hf, l1, R1, k1⟩ := R.put_f l h1 e1
      show u _ (σ.set i (some _)) w.H Q
      rw [← hh]
      exact hu w₀ w1 _ s1 s' _ r l1 R1 (by rw [hf]; exact h2) e2 Q fun σ' w' hh' l' R' k' => k σ' w' (hh'.trans hh) l' R' (k1.trans k')
theorem tgt_tup {n : Nat} {u : TGs} {tu : Tgts} (hu : TgtsOk c u tu) : TgtOk c (gTup K n u) (tTupT n tu) := fun w₀ w σ s s' v d l R h e Q k => by
  cases d with
  | tuple ds =>
    have e : (if ds.length = n then tu ds s else none) = some s' := e
    split at e
    · rename_i hn
      cases h with
      | tup h1 h2 => exact ⟨_, _, rfl, sqT_mono R.sub h1, by rw [dpa_len h2]; exact hn, hu w₀ w σ s s' _ ds l R h2 e Q k⟩
    · cases e
  | _ => cases e
/-! ### for -/
def loopF (t : Tgt) (m : MS) : List D → List Slot → Option Out
  | [], s => some (.nx s)
  | d :: r, s => (t d s).bind fun s1 => (m s1).bind fun out => match out with
    | .nx s2 => loopF t m r s2
    | .ct s2 => loopF t m r s2
    | .bk s2 => some (.nx s2)
    | .rt o s2 => some (.rt o s2)
    | .ex n s2 => some (.ex n s2)
theorem lift_loop {g : TG} {t : Tgt} {mb : MS} {J : It} {ds : List D} {w : W} {σ : St} {s : List Slot} {D' : Ends} {out : Out} (hg : TgtOk c g t) (hw : Walks (K := K) J ds w) (R : Rel c w σ s) (e : loopF t mb ds s = some out) (k : EndOk c D' w σ s out) :
    ∃ Wv : Nat → Nat → St → Hp → Prop, (∃ m, Wv 0 m σ w.H) ∧ ∀ i m σ H, Wv i m σ H →
      (J.stop i H ∧ D'.nx σ H) ∨ (J.go i H ∧ ∃ N : St → Hp → Prop, (∀ σ' H', N σ' H' → ∃ m', m' < m ∧ Wv (i + 1) m' σ' H') ∧ ∀ x H', J.yld i H x H' → g x σ H' fun σ2 H2 => liftS c mb { D' with nx := N, ct := N, bk := D'.nx } σ2 H2) := by
  refine ⟨fun i m σ' H' => m = ds.length - i ∧ i ≤ ds.length ∧ ∃ w' s', w'.H = H' ∧ Le w w' ∧ Rel c w' σ' s' ∧ Kp σ s σ' s' ∧ loopF t mb (ds.drop i) s' = some out, ⟨ds.length, by simp, Nat.zero_le _, w, s, rfl, Le.refl w, R, Kp.refl σ s, e⟩, ?_⟩
  rintro i m σ' H' ⟨rfl, hi, w', s', rfl, l', R', k', e'⟩
  obtain ⟨hgo, hstop⟩ := hw w' l' R'.sub
  by_cases hlt : i < ds.length
  · refine .inr ?_
    have hd : ds[i]? = some ds[i] := List.getElem?_eq_getElem hlt
    obtain ⟨h1, h2⟩ := hgo i _ hd
    rw [List.drop_eq_getElem_cons hlt] at e'
    obtain ⟨s1, e1, e2⟩ := bnd (x := t ds[i] s') e'
    obtain ⟨out1, e3, e4⟩ := bnd e2
    refine ⟨h1, fun σ2 H2 => ∃ w2 s2, w2.H = H2 ∧ Le w w2 ∧ Rel c w2 σ2 s2 ∧ Kp σ s σ2 s2 ∧ loopF t mb (ds.drop (i + 1)) s2 = some out, fun σ2 H2 ⟨w2, s2, z⟩ => ⟨ds.length - (i + 1), by omega, rfl, hlt, w2, s2, z⟩, fun x H'' hy => ?_⟩
    obtain ⟨w1, rfl, g1, dx⟩ := h2 x H'' hy
    have R1 := R'.grow g1
    refine hg w w1 σ' s' s1 x ds[i] (l'.trans g1.le) R1 dx e1 _ fun σ2 w2 hh l2 R2 k2 => ?_
    refine ⟨w2, s1, rfl, R2, out1, e3, ?_⟩
    cases out1 with
    | ex n s2 => trivial
    | nx s2 => exact fun σ3 w3 l3 R3 k3 => ⟨w3, s2, rfl, l2.trans l3, R3, k'.trans (k2.trans k3), e4⟩
    | ct s2 => exact fun σ3 w3 l3 R3 k3 => ⟨w3, s2, rfl, l2.trans l3, R3, k'.trans (k2.trans k3), e4⟩
    | bk s2 =>
      cases e4
      exact fun σ3 w3 l3 R3 k3 => k σ3 w3 (l2.trans l3) R3 (k'.trans (k2.trans k3))
    | rt o s2 =>
      cases e4
      exact fun v σ3 w3 l3 R3 k3 ho => k v σ3 w3 (l2.trans l3) R3 (k'.trans (k2.trans k3)) (ho.back l2)
  · have e0 : i = ds.length := by omega
    subst e0
    rw [List.drop_length] at e'
    cases e'
    exact .inl ⟨hstop, k σ' w' l' R' k'⟩
def selL : D → Option (List D)
  | .list ds => some ds
  | _ => none
def selT : D → Option (List D)
  | .tuple ds => some ds
  | _ => none
def mFor (sel : D → Option (List D)) (ml : M) (t : Tgt) (mb : MS) : MS := fun s => (mFz ml s).bind fun p => (cD p.2 p.1).bind fun d => (sel d).bind fun ds => loopF t mb ds p.2
theorem lift_forL {ml : M} {g : TG} {t : Tgt} {mb : MS} {D' : Ends} {σ : St} {H : Hp} (hg : TgtOk c g t) (h : liftS c (mFor selL ml t mb) D' σ H) : tFor (iList K (liftE c (mFz ml))) g (liftS c mb) D' σ H := by
  obtain ⟨w, s, rfl, R, out, e, k⟩ := h
  obtain ⟨⟨o1, s1⟩, e1, e⟩ := bnd e
  obtain ⟨d, e2, e⟩ := bnd e
  obtain ⟨ds, e3, e⟩ := bnd e
  refine ⟨w, s, rfl, R, o1, s1, e1, fun v w1 l1 R1 k1 q1 => ?_⟩
  obtain ⟨d1, rfl⟩ := mfz_v e1
  cases e2
  cases d with
  | list ds' =>
    cases e3
    have q1 : Dp K w1.F v (.list ds) := q1
    cases q1 with
    | lst h1 h2 => exact ⟨_, rfl, ⟨_, sqL_mono R1.sub h1⟩, lift_loop hg (walks_list h1 h2) R1 e (k.back l1 k1.kp)⟩
  | _ => cases e3
theorem lift_forT {ml : M} {g : TG} {t : Tgt} {mb : MS} {D' : Ends} {σ : St} {H : Hp} (hg : TgtOk c g t) (h : liftS c (mFor selT ml t mb) D' σ H) : tFor (iTup K (liftE c (mFz ml))) g (liftS c mb) D' σ H := by
  obtain ⟨w, s, rfl, R, out, e, k⟩ := h
  obtain ⟨⟨o1, s1⟩, e1, e⟩ := bnd e
  obtain ⟨d, e2, e⟩ := bnd e
  obtain ⟨ds, e3, e⟩ := bnd e
  refine ⟨w, s, rfl, R, o1, s1, e1, fun v w1 l1 R1 k1 q1 => ?_⟩
  obtain ⟨d1, rfl⟩ := mfz_v e1
  cases e2
  cases d with
  | tuple ds' =>
    cases e3
    have q1 : Dp K w1.F v (.tuple ds) := q1
    cases q1 with
    | tup h1 h2 => exact ⟨_, rfl, ⟨_, sqT_mono R1.sub h1⟩, lift_loop hg (walks_tup h1 h2) R1 e (k.back l1 k1.kp)⟩
  | _ => cases e3
def mForR1 (m : M) (t : Tgt) (mb : MS) : MS := fun s => (m s).bind fun p => (cD p.2 p.1).bind fun d => match d with
  | .int n => if -(2 ^ 62) ≤ n ∧ n < 2 ^ 62 then loopF t mb (rngD 0 n.toNat) p.2 else none
  | _ => none
theorem lift_forR1 {m : M} {g : TG} {t : Tgt} {mb : MS} {D' : Ends} {σ : St} {H : Hp} (hg : TgtOk c g t) (h : liftS c (mForR1 m t mb) D' σ H) : tFor (iRng1 (liftA c (mACons m mANil))) g (liftS c mb) D' σ H := by
  obtain ⟨w, s, rfl, R, out, e, k⟩ := h
  obtain ⟨⟨o1, s1⟩, e1, e⟩ := bnd e
  obtain ⟨d, e2, e⟩ := bnd e
  cases d with
  | int n =>
    have e : (if -(2 ^ 62) ≤ n ∧ n < 2 ^ 62 then loopF t mb (rngD 0 n.toNat) s1 else none) = some out := e
    split at e
    · rename_i hn
      refine ⟨w, s, rfl, R, [o1], s1, ?_, fun vs w1 l1 R1 k1 q1 => ?_⟩
      · unfold mACons mANil
        rw [e1]
        rfl
      · cases q1 with
        | cons h1 h2 =>
          cases h2
          have z : Dp K w1.F _ (.int n) := R1.view h1 e2
          cases z
          exact ⟨n, rfl, hn.1, hn.2, lift_loop hg walks_rng R1 e (k.back l1 k1.kp)⟩
    · cases e
  | _ => cases e
theorem walks_enum {w : W} {a : Addr} {xs : List V} {ds : List D} (h : SqL K w.F a xs) (hd : DpAll K w.F xs ds) : Walks (K := K) (Ite K a) (enumD ds) w := fun w' l sb => by
  have h' : SqL K w'.H a xs := sqL_mono sb (sqL_mono l.f h)
  refine ⟨fun i d e => ?_, xs, h', by rw [enumD_len, dpa_len hd]; exact Nat.le_refl _⟩
  obtain ⟨d', e1, rfl⟩ := enumD_get e
  obtain ⟨v, h1, h2⟩ := dpa_get hd e1
  refine ⟨⟨xs, v, h', h1⟩, fun x H' ⟨T, x', ex, hT, eH, y⟩ => ?_⟩
  subst ex eH
  have z : v = x' := Option.some.inj (h1.symm.trans (y xs h'))
  subst z
  have g := gr_fix (w := w') (x := .tup [.int (i : Int), v]) sb hT
  exact ⟨_, rfl, g, .tup (.of upd_same) (.cons (.int _) (.cons (dp_mono g.f _ _ (dp_mono l.f _ _ h2)) .nil))⟩
def mForE (ml : M) (t : Tgt) (mb : MS) : MS := fun s => (mFz ml s).bind fun p => (cD p.2 p.1).bind fun d => (selL d).bind fun ds => loopF t mb (enumD ds) p.2
theorem lift_forE {ml : M} {g : TG} {t : Tgt} {mb : MS} {D' : Ends} {σ : St} {H : Hp} (hg : TgtOk c g t) (h : liftS c (mForE ml t mb) D' σ H) : tFor (iEnum K (liftA c (mACons (mFz ml) mANil))) g (liftS c mb) D' σ H := by
  obtain ⟨w, s, rfl, R, out, e, k⟩ := h
  obtain ⟨⟨o1, s1⟩, e1, e⟩ := bnd e
  obtain ⟨d, e2, e⟩ := bnd e
  obtain ⟨ds, e3, e⟩ := bnd e
  refine ⟨w, s, rfl, R, [o1], s1, ?_, fun vs w1 l1 R1 k1 q1 => ?_⟩
  · unfold mACons mANil
    rw [e1]
    rfl
  · obtain ⟨d1, rfl⟩ := mfz_v e1
    cases e2
    cases d with
    | list ds' =>
      cases e3
      cases q1 with
      | cons h1 h2 =>
        cases h2
        have q1 : Dp K w1.F _ (.list ds) := h1
        cases q1 with
        | lst h3 h4 => exact ⟨_, _, rfl, sqL_mono R1.sub h3, lift_loop hg (walks_enum h3 h4) R1 e (k.back l1 k1.kp)⟩
    | _ => cases e3
end
section
variable {X : Cx} {c : Cfg X.K} {pos : Pos} {tg it : Expr} {body : List Stmt} {g : TG} {t : Tgt} {mb : MS} {ml : M}
theorem shs_forL (hp : PassesOwn (model X.prog X.w) X.A X.env X.xe) (hc : X.calm = true) (hi : PE X it (liftE c ml)) (hg : PG X tg g) (ht : TgtOk c g t) (hb : PSs X body (liftS c mb)) (hs : ∀ x, foldedSetIterable it X.env x = pure x := by intro _; rfl) :
    PS X (.For tg it body [] pos) (liftS c (mFor selL ml t mb)) := (ps_for hp hc (pi_list (she_fz hi)) hg hb hs).imp fun _ _ _ h => lift_forL ht h
theorem shs_forT (hp : PassesOwn (model X.prog X.w) X.A X.env X.xe) (hc : X.calm = true) (hi : PE X it (liftE c ml)) (hg : PG X tg g) (ht : TgtOk c g t) (hb : PSs X body (liftS c mb)) (hs : ∀ x, foldedSetIterable it X.env x = pure x := by intro _; rfl) :
    PS X (.For tg it body [] pos) (liftS c (mFor selT ml t mb)) := (ps_for hp hc (pi_tup (she_fz hi)) hg hb hs).imp fun _ _ _ h => lift_forT ht h
theorem shs_forR1 {a : Expr} {p pos' : Pos} (hp : PassesOwn (model X.prog X.w) X.A X.env X.xe) (hc : X.calm = true) (hgl : Gl X "range") (hm : X.mg "range" = none) (hi : PE X a (liftE c ml)) (hg : PG X tg g) (ht : TgtOk c g t) (hb : PSs X body (liftS c mb)) (hs : starEach [a] X.env = [(false, eval a X.env)] := by rfl)
    (hf : ∀ x, foldedSetIterable (.Call (.Name "range" p) [a] [] pos') X.env x = pure x := by intro _; rfl) : PS X (.For tg (.Call (.Name "range" p) [a] [] pos') body [] pos) (liftS c (mForR1 ml t mb)) :=
  (ps_for hp hc (pi_range1 hgl hm (sha_cons hi sha_nil hs) hs) hg hb hf).imp fun _ _ _ h => lift_forR1 ht h
theorem shs_forE {a : Expr} {p pos' tpos : Pos} {elts : List Expr} {kk : Nat} (hp : PassesOwn (model X.prog X.w) X.A X.env X.xe) (hc : X.calm = true) (hgl : Gl X "enumerate") (hm : X.mg "enumerate" = none) (hi : PE X a (liftE c ml)) (hg : PG X (.Tuple elts kk tpos) g) (ht : TgtOk c g t) (hb : PSs X body (liftS c mb))
    (hs : starEach [a] X.env = [(false, eval a X.env)] := by rfl) (hf : ∀ x, foldedSetIterable (.Call (.Name "enumerate" p) [a] [] pos') X.env x = pure x := by intro _; rfl) : PS X (.For (.Tuple elts kk tpos) (.Call (.Name "enumerate" p) [a] [] pos') body [] pos) (liftS c (mForE ml t mb)) :=
  (ps_for hp hc (pi_enum hgl hm (sha_cons (she_fz hi) sha_nil hs) hs) hg hb hf).imp fun _ _ _ h => lift_forE ht h
end
end Sh
-- Sh6.lean
set_option Elab.async false
set_option linter.all false
set_option maxRecDepth 100000
set_option maxHeartbeats 1000000
/-! Sh6: comprehensions. -/
namespace Sh
open PySem L2
theorem wipe_get (σ : St) : ∀ (vs : List Nat) (i : Nat), (wipe σ vs)[i]? = if i ∈ vs then (σ[i]?).map (fun _ => none) else σ[i]?
  | [], i => by rw [if_neg (by simp)]; rfl
  | v :: vs, i => by
    show ((wipe σ vs).set v none)[i]? = _
    have ih := wipe_get σ vs i
    by_cases h : v = i
    · subst h
      rw [if_pos List.mem_cons_self, List.getElem?_set, if_pos rfl]
      by_cases hl : v < (wipe σ vs).length
      · rw [if_pos hl]
        rw [wipe_length] at hl
        rw [List.getElem?_eq_getElem hl]
        rfl
      · rw [if_neg hl]
        rw [wipe_length] at hl
        rw [List.getElem?_eq_none (by omega)]
        rfl
    · rw [List.getElem?_set_ne h, ih]
      by_cases hm : i ∈ vs
      · rw [if_pos hm, if_pos (List.mem_cons_of_mem _ hm)]
      · rw [if_neg hm, if_neg (fun z => by
          rcases List.mem_cons.mp z with z | z
          · exact h z.symm
          · exact hm z)]
/-- the targets change the slots ts alone -/
def TgtC {K : PySem.W.Frag} (c : Cfg K) (g : TG) (t : Tgt) (ts : List Nat) : Prop := ∀ (w₀ w : W) (σ : St) (s s' : List Slot) (v : V) (d : D), Le w₀ w → Rel c w σ s → Dp K w.F v d → t d s = some s' → ∀ Q : St → Hp → Prop,
  (∀ σ' w', w'.H = w.H → Le w₀ w' → Rel c w' σ' s' → Kp σ s σ' s' → σ'.length = σ.length → (∀ i, i ∉ ts → σ'[i]? = σ[i]?) → Q σ' w'.H) → g v σ w.H Q
def TgtsC {K : PySem.W.Frag} (c : Cfg K) (g : TGs) (t : Tgts) (ts : List Nat) : Prop := ∀ (w₀ w : W) (σ : St) (s s' : List Slot) (vs : List V) (ds : List D), Le w₀ w → Rel c w σ s → DpAll K w.F vs ds → t ds s = some s' → ∀ Q : St → Hp → Prop,
  (∀ σ' w', w'.H = w.H → Le w₀ w' → Rel c w' σ' s' → Kp σ s σ' s' → σ'.length = σ.length → (∀ i, i ∉ ts → σ'[i]? = σ[i]?) → Q σ' w'.H) → g vs σ w.H Q
section
variable {K : PySem.W.Frag} {c : Cfg K}
theorem tgc_name (i : Nat) : TgtC c (gName i) (tName i) [i] := fun w₀ w σ s s' v d l R h e Q k => by
  obtain ⟨w', hh, _, l', R', kp⟩ := R.put_f l h e
  show Q (σ.set i (some v)) w.H
  rw [← hh]
  refine k _ w' hh l' R' kp List.length_set fun j hj => List.getElem?_set_ne ?_
  intro z
  exact hj (by rw [z]; exact List.mem_cons_self)
theorem tgcs_nil : TgtsC c gNil tNilT [] := fun w₀ w σ s s' vs ds l R h e Q k => by
  cases ds with
  | nil =>
    cases h
    cases e
    exact ⟨rfl, k σ w rfl l R (Kp.refl σ s) rfl fun _ _ => rfl⟩
  | cons d r => cases e
theorem tgcs_cons {u : TGs} {tu : Tgts} {ts : List Nat} (i : Nat) (hu : TgtsC c u tu ts) : TgtsC c (gCons (gName i) u) (tConsT (tName i) tu) (i :: ts) := fun w₀ w σ s s' vs ds l R h e Q k => by
  cases ds with
  | nil => cases e
  | cons d r =>
    cases h with
    | cons h1 h2 =>
      obtain ⟨s1, e1, e2⟩ := bnd e
      refine ⟨_, _, rfl, ?_⟩
      obtain ⟨w1, hh, hf, l1, R1, k1⟩ := R.put_f l h1 e1
      show u _ (σ.set i (some _)) w.H Q
      rw [← hh]
      refine hu w₀ w1 _ s1 s' _ r l1 R1 (by rw [hf]; exact h2) e2 Q fun σ' w' hh' l' R' k' hl hs => k σ' w' (hh'.trans hh) l' R' (k1.trans k') (hl.trans List.length_set) fun j hj => ?_
      rw [hs j (fun z => hj (List.mem_cons_of_mem _ z))]
      refine List.getElem?_set_ne fun z => hj ?_
      rw [z]
      exact List.mem_cons_self
theorem tgc_tup {n : Nat} {u : TGs} {tu : Tgts} {ts : List Nat} (hu : TgtsC c u tu ts) : TgtC c (gTup K n u) (tTupT n tu) ts := fun w₀ w σ s s' v d l R h e Q k => by
  cases d with
  | tuple ds =>
    have e : (if ds.length = n then tu ds s else none) = some s' := e
    split at e
    · rename_i hn
      cases h with
      | tup h1 h2 => exact ⟨_, _, rfl, sqT_mono R.sub h1, by rw [dpa_len h2]; exact hn, hu w₀ w σ s s' _ ds l R h2 e Q k⟩
    · cases e
  | _ => cases e
def unw (vs : List Nat) (s : List Slot) : Option (List Slot) := if vs.all (fun v => !isOw s[v]?) = true then some (s.mapIdx fun i x => if i ∈ vs then .un else x) else none
def rst (vs : List Nat) (s₀ s : List Slot) : List Slot := s.mapIdx fun i x => if i ∈ vs then s₀[i]?.getD .un else x
theorem unw_get {vs : List Nat} {s s' : List Slot} (h : unw vs s = some s') : (∀ v ∈ vs, isOw s[v]? = false) ∧ s'.length = s.length ∧ ∀ i x, s'[i]? = some x → (i ∈ vs ∧ x = .un) ∨ (i ∉ vs ∧ s[i]? = some x) := by
  unfold unw at h
  split at h
  · rename_i q
    cases h
    refine ⟨fun v hv => ?_, List.length_mapIdx, fun i x hx => ?_⟩
    · have z := List.all_eq_true.mp q v hv
      simpa using z
    · rw [List.getElem?_mapIdx] at hx
      cases e : s[i]? with
      | none =>
        rw [e] at hx
        cases hx
      | some y =>
        rw [e] at hx
        have hx : (if i ∈ vs then Slot.un else y) = x := Option.some.inj hx
        by_cases hi : i ∈ vs
        · rw [if_pos hi] at hx
          exact .inl ⟨hi, hx.symm⟩
        · rw [if_neg hi] at hx
          exact .inr ⟨hi, by rw [hx]⟩
  · cases h
theorem Rel.wipe {w : W} {σ : St} {s s' : List Slot} (R : Rel c w σ s) {vs : List Nat} (h : unw vs s = some s') : Rel c w (L2.wipe σ vs) s' := by
  obtain ⟨h1, h2, h3⟩ := unw_get h
  have wp : ∀ i, i ∉ vs → (L2.wipe σ vs)[i]? = σ[i]? := fun i hi => by rw [wipe_get, if_neg hi]
  refine ⟨by rw [wipe_length, h2]; exact R.len, R.sub, R.out, fun i d hd => ?_, fun i p k hd => ?_, R.dis, fun i hi => ?_, R.tb⟩
  · rcases h3 i _ hd with ⟨_, z⟩ | ⟨z1, z2⟩
    · cases z
    · obtain ⟨v, q1, q2⟩ := R.fz i d z2
      exact ⟨v, (wp i z1).trans q1, q2⟩
  · rcases h3 i _ hd with ⟨_, z⟩ | ⟨z1, z2⟩
    · cases z
    · obtain ⟨v, q1, q2⟩ := R.ow i p k z2
      exact ⟨v, (wp i z1).trans q1, q2⟩
  · refine R.non i fun p k q => ?_
    by_cases hv : i ∈ vs
    · have z := h1 i hv
      rw [q] at z
      cases z
    · have hl : i < s'.length := by
        rw [h2]
        exact (List.getElem?_eq_some_iff.mp q).1
      rcases h3 i _ (List.getElem?_eq_getElem hl) with ⟨z, _⟩ | ⟨_, z⟩
      · exact hv z
      · rw [q] at z
        exact hi p k (by rw [List.getElem?_eq_getElem hl]; exact z.symm)
theorem Rel.unwipe {w₀ w : W} {σ : St} {s₀ s : List Slot} {vs : List Nat} (R0 : Rel c w₀ σ s₀) (l : Le w₀ w) (R : Rel c w (L2.wipe σ vs) s) (hn : ∀ v ∈ vs, isOw s₀[v]? = false) : Rel c w σ (rst vs s₀ s) := by
  have wp : ∀ i, i ∉ vs → (L2.wipe σ vs)[i]? = σ[i]? := fun i hi => by rw [wipe_get, if_neg hi]
  have wn : ∀ i v, i ∈ vs → (L2.wipe σ vs)[i]? ≠ some (some v) := fun i v hi z => (wipe_some z).2 hi
  have hl0 : s.length = s₀.length := by
    rw [← R.len, wipe_length, R0.len]
  have get : ∀ i x, (rst vs s₀ s)[i]? = some x → (i ∈ vs ∧ s₀[i]? = some x) ∨ (i ∉ vs ∧ s[i]? = some x) := fun i x hx => by
    unfold rst at hx
    rw [List.getElem?_mapIdx] at hx
    cases e : s[i]? with
    | none =>
      rw [e] at hx
      cases hx
    | some y =>
      rw [e] at hx
      have hx : (if i ∈ vs then s₀[i]?.getD .un else y) = x := Option.some.inj hx
      have hi0 : i < s₀.length := by
        rw [← hl0]
        exact (List.getElem?_eq_some_iff.mp e).1
      by_cases hi : i ∈ vs
      · rw [if_pos hi, List.getElem?_eq_getElem hi0] at hx
        exact .inl ⟨hi, by rw [List.getElem?_eq_getElem hi0]; exact congrArg some hx⟩
      · rw [if_neg hi] at hx
        exact .inr ⟨hi, by rw [hx]⟩
  refine ⟨?_, R.sub, R.out, fun i d hd => ?_, fun i p k hd => ?_, R.dis, fun i hi => ?_, R.tb⟩
  · show _ = (s.mapIdx _).length
    rw [List.length_mapIdx, hl0]
    exact R0.len
  · rcases get i _ hd with ⟨_, z⟩ | ⟨z1, z2⟩
    · obtain ⟨v, q1, q2⟩ := R0.fz i d z
      exact ⟨v, q1, dp_mono l.f _ _ q2⟩
    · obtain ⟨v, q1, q2⟩ := R.fz i d z2
      exact ⟨v, (wp i z1).symm.trans q1, q2⟩
  · rcases get i _ hd with ⟨z1, z⟩ | ⟨z1, z2⟩
    · have z2 := hn i z1
      rw [z] at z2
      cases z2
    · obtain ⟨v, q1, q2⟩ := R.ow i p k z2
      exact ⟨v, (wp i z1).symm.trans q1, q2⟩
  · refine R.non i fun p k q => ?_
    by_cases hv : i ∈ vs
    · obtain ⟨v, q1, _⟩ := R.ow i p k q
      exact wn i v hv q1
    · refine hi p k ?_
      unfold rst
      rw [List.getElem?_mapIdx, q]
      show some (if i ∈ vs then _ else _) = _
      rw [if_neg hv]
/-- an object that no slot owns and that is not fixed changes -/
theorem Rel.mutD {w : W} {σ : St} {s : List Slot} (R : Rel c w σ s) {a : Addr} {o : HO} (h1 : w.no a) (h2 : w.F a = none) (h3 : ∃ o, w.H a = some o) : Rel c { w with H := upd w.H a o } σ s := by
  refine ⟨R.len, fun b u q => ?_, fun i b hb => ?_, fun i d hd => R.fz i d hd, fun i p k hd => ?_, R.dis, R.non, ⟨R.tb.1, fun b hb => ⟨?_, (R.tb.2 b hb).2⟩⟩⟩
  · show upd w.H a o b = some u
    rw [upd_ne (ne_of_none q h2)]
    exact R.sub b u q
  · obtain ⟨q1, u, q2⟩ := R.out i b hb
    refine ⟨q1, u, ?_⟩
    show upd w.H a o b = some u
    rw [upd_ne (fun z => h1.1 i (by rw [← z]; exact hb))]
    exact q2
  · obtain ⟨v, q1, q2⟩ := R.ow i p k hd
    refine ⟨v, q1, q2.mono (fun _ _ z => z) fun b hb u hu => ?_⟩
    show upd w.H a o b = some u
    rw [upd_ne (fun z => h1.1 i (by rw [← z]; exact hb))]
    exact hu
  · obtain ⟨ps, q1, q2⟩ := (R.tb.2 b hb).1
    refine ⟨ps, ?_, q2⟩
    show upd w.H a o b = _
    rw [upd_ne (fun z => h1.2 (by rw [← z]; exact hb))]
    exact q1
theorem Le.mutD {w₀ w : W} (l : Le w₀ w) {a : Addr} {o : HO} (h : w₀.H a = none) : Le w₀ { w with H := upd w.H a o } := by
  refine ⟨l.f, fun b u q n => ?_, l.p, fun b u q => ?_, ⟨l.x.1, fun b hb hz => ⟨?_, (l.x.2 b hb hz).2⟩⟩⟩
  · obtain ⟨h1, h2⟩ := l.h b u q n
    refine ⟨?_, h2⟩
    show upd w.H a o b = some u
    rw [upd_ne (ne_of_none q h)]
    exact h1
  · obtain ⟨u', h1⟩ := l.t b u q
    refine ⟨u', ?_⟩
    show upd w.H a o b = some u'
    rw [upd_ne (ne_of_none q h)]
    exact h1
  · obtain ⟨ps, q1, q2⟩ := (l.x.2 b hb hz).1
    refine ⟨ps, ?_, q2⟩
    show upd w.H a o b = _
    rw [upd_ne (fun z => by obtain ⟨ps0, q3, _⟩ := hz; rw [z, h] at q3; cases q3)]
    exact q1
def vD : Op → Option D
  | .v d => some d
  | _ => none
def loopC (t : Tgt) (mt : MT) (me : M) (vs : List Nat) : List D → List Slot → Option (List D × List Slot)
  | [], s => some ([], s)
  | d :: r, s => (t d s).bind fun s1 => (mt s1).bind fun p => if p.1 = true then (mFz me p.2).bind fun q => (vD q.1).bind fun d' => (unw vs q.2).bind fun s4 => (loopC t mt me vs r s4).bind fun z => some (d' :: z.1, z.2) else (unw vs p.2).bind fun s4 => loopC t mt me vs r s4
def endC (vs : List Nat) (s₁ : List Slot) (z : List D × List Slot) : Option (Op × List Slot) := if z.1.length ≤ 100000 then some (.nw (.lst z.1), rst vs s₁ z.2) else none
theorem keep_rst {vs : List Nat} {s₁ s : List Slot} (hn : ∀ v ∈ vs, isOw s₁[v]? = false) (h : Keep s₁ s) : Keep s₁ (rst vs s₁ s) := fun j k q => by
  unfold rst at q
  rw [List.getElem?_mapIdx] at q
  cases e : s[j]? with
  | none =>
    rw [e] at q
    cases q
  | some y =>
    rw [e] at q
    have q : (if j ∈ vs then s₁[j]?.getD .un else y) = .ow true k := Option.some.inj q
    by_cases hj : j ∈ vs
    · rw [if_pos hj] at q
      have z := hn j hj
      cases e2 : s₁[j]? with
      | none =>
        rw [e2] at q
        cases q
      | some x =>
        rw [e2] at q z
        have q : x = .ow true k := q
        rw [q] at z
        cases z
    · rw [if_neg hj] at q
      exact h j k (by rw [e, q])
theorem keep_unw {vs : List Nat} {s s' : List Slot} (h : unw vs s = some s') : Keep s s' := fun j k q => by
  rcases (unw_get h).2.2 j _ q with ⟨_, z⟩ | ⟨_, z⟩
  · cases z
  · exact ⟨k, z⟩
theorem lift_lc {g : TG} {t : Tgt} {ts vs : List Nat} {mt : MT} {me : M} {J : It} {ds : List D} {w : W} {σ : St} {s s2 : List Slot} {z : List D × List Slot} {Q : VK} (hg : TgtC c g t ts) (hts : ∀ i ∈ ts, i ∈ vs) (hw : Walks (K := K) J ds w) (R : Rel c w σ s) (hu : unw vs s = some s2)
    (e : loopC t mt me vs ds s2 = some z) (hz : z.1.length ≤ 100000) (k : ∀ v w', Le w w' → Rel c w' σ (rst vs s z.2) → Keep s (rst vs s z.2) → RepO c w.H w' σ (.nw (.lst z.1)) v → Q v w'.H) (D' : Addr) (hD : w.H D' = none) :
    ∃ Wv : Nat → Nat → Hp → Prop, (∃ m, Wv 0 m (upd w.H D' (.lst []))) ∧ ∀ i m H, Wv i m H →
      (J.stop i H ∧ Q (.ref D') H) ∨ (J.go i H ∧ ∃ Nx : Hp → Prop, (∀ H', Nx H' → ∃ m', m' < m ∧ Wv (i + 1) m' H') ∧ ∀ x H', J.yld i H x H' → g x (L2.wipe σ vs) H' fun σ2 H2 => L2.wipe σ2 vs = L2.wipe σ vs ∧ liftT c mt σ2 H2 fun b H3 =>
        if b = true then liftE c (mFz me) σ2 H3 fun y H4 => ∃ acc, H4 D' = some (.lst acc) ∧ acc.length < sizeLine ∧ Nx (upd H4 D' (.lst (acc ++ [y]))) else Nx H3) := by
  have hn := (unw_get hu).1
  let In : Nat → Hp → Prop := fun i H => ∃ w' s' das acc z', w'.H = H ∧ Le w w' ∧ Rel c w' (L2.wipe σ vs) s' ∧ Keep s s' ∧ w'.H D' = some (.lst acc) ∧ DpAll K w'.F acc das ∧ w'.F D' = none ∧ w'.no D' ∧ loopC t mt me vs (ds.drop i) s' = some z' ∧ das ++ z'.1 = z.1 ∧ z'.2 = z.2
  refine ⟨fun i m H => m = ds.length - i ∧ i ≤ ds.length ∧ In i H, ⟨ds.length, by simp, Nat.zero_le _, ?_⟩, ?_⟩
  · have gl := gr_lay (x := .lst []) R.sub hD
    refine ⟨_, s2, [], [], z, rfl, gl.le, (R.wipe hu).grow gl, keep_unw hu, upd_same, .nil, none_of_sub R.sub hD, ⟨fun i h => ?_, fun h => ?_⟩, e, rfl, rfl⟩
    · obtain ⟨_, o, h2⟩ := R.out i D' h
      rw [hD] at h2
      cases h2
    · obtain ⟨⟨_, h2, _⟩, _⟩ := R.tb.2 D' h
      rw [hD] at h2
      cases h2
  · rintro i m H ⟨rfl, hi, w', s', das, acc, z', rfl, l', R', k', hA, dA, fD, nD, e', ez, ez2⟩
    obtain ⟨hgo, hstop⟩ := hw w' l' R'.sub
    by_cases hlt : i < ds.length
    · refine .inr ?_
      obtain ⟨h1, h2⟩ := hgo i _ (List.getElem?_eq_getElem hlt)
      rw [List.drop_eq_getElem_cons hlt] at e'
      obtain ⟨s1, e1, e2⟩ := bnd (x := t ds[i] s') e'
      obtain ⟨⟨b, s3⟩, e3, e4⟩ := bnd e2
      refine ⟨h1, In (i + 1), fun H' q => ⟨ds.length - (i + 1), by omega, rfl, hlt, q⟩, fun x H'' hy => ?_⟩
      obtain ⟨w1, rfl, g1, dx⟩ := h2 x H'' hy
      have R1 := R'.grow g1
      have hA1 : w1.H D' = some (.lst acc) := (g1.h D' _ hA).1
      have fD1 : w1.F D' = none := ((g1.h D' _ hA).2).trans fD
      have n1 : w1.no D' := ⟨fun j q => nD.1 j (by rw [g1.p] at q; exact q), by rw [g1.t]; exact nD.2⟩
      have dA1 := dpAll_mono g1.f _ _ dA
      have l1 : Le w w1 := l'.trans g1.le
      -- what stays of the list that grows
      have stay : ∀ w3, Le w1 w3 → w3.H D' = some (.lst acc) ∧ w3.F D' = none ∧ w3.no D' ∧ DpAll K w3.F acc das := fun w3 l3 => by
        obtain ⟨q1, q2⟩ := l3.h D' _ hA1 n1
        exact ⟨q1, q2.trans fD1, l3.np hA1 n1, dpAll_mono l3.f _ _ dA1⟩
      refine hg w1 w1 _ s' s1 x ds[i] (Le.refl w1) R1 dx e1 _ fun σ2 w2 hh l2 R2 k2 hl2 hs2 => ?_
      have hwp : L2.wipe σ2 vs = L2.wipe σ vs := by
        apply List.ext_getElem?
        intro j
        rw [wipe_get, wipe_get]
        by_cases hj : j ∈ vs
        · rw [if_pos hj, if_pos hj]
          rw [wipe_length] at hl2
          by_cases hjl : j < σ.length
          · rw [List.getElem?_eq_getElem hjl, List.getElem?_eq_getElem (by omega)]
            rfl
          · rw [List.getElem?_eq_none (by omega), List.getElem?_eq_none (by omega)]
        · rw [if_neg hj, if_neg hj, hs2 j (fun q => hj (hts j q)), wipe_get, if_neg hj]
      have kk2 : Keep s' s1 := fun j kc q => (k2 j kc q).2
      refine ⟨hwp, w2, s1, rfl, R2, b, s3, e3, fun w3 l3 R3 k3 => ?_⟩
      cases b with
      | true =>
        obtain ⟨⟨o4, s4⟩, e5, e6⟩ := bnd (x := mFz me s3) e4
        obtain ⟨d', e7, e8⟩ := bnd e6
        obtain ⟨s5, e9, e10⟩ := bnd e8
        obtain ⟨z2, e11, e12⟩ := bnd e10
        have e12 := Option.some.inj e12
        subst e12
        rw [if_pos rfl]
        refine ⟨w3, s3, rfl, R3, o4, s4, e5, fun y w4 l4 R4 k4 q4 => ?_⟩
        have l14 : Le w1 w4 := (l2.trans l3).trans l4
        obtain ⟨y1, y2, y3, y4⟩ := stay w4 l14
        have dy : Dp K w4.F y d' := by
          cases o4 with
          | v d4 =>
            cases e7
            exact q4
          | nw _ => cases e7
          | sl _ => cases e7
          | ex _ => cases e7
        have ez' : das ++ (d' :: z2.1) = z.1 := ez
        have hzl := congrArg List.length ez'
        rw [List.length_append, List.length_cons] at hzl
        refine ⟨acc, y1, ?_, ?_⟩
        · rw [dpa_len y4]
          exact Evl.sz_lt (by omega)
        · have Rw := R4.wipe e9
          rw [hwp] at Rw
          refine ⟨{ w4 with H := upd w4.H D' (.lst (acc ++ [y])) }, s5, das ++ [d'], acc ++ [y], z2, rfl, (l1.trans l14).mutD hD, Rw.mutD y3 y2 ⟨_, y1⟩, k'.trans (kk2.trans (k3.trans (k4.trans (keep_unw e9)))), upd_same, dpa_app y4 (dpa_one dy), y2, y3, e11, ?_, ez2⟩
          rw [← ez', List.append_assoc]
          rfl
      | false =>
        obtain ⟨s5, e9, e10⟩ := bnd (x := unw vs s3) e4
        have l13 : Le w1 w3 := l2.trans l3
        obtain ⟨y1, y2, y3, y4⟩ := stay w3 l13
        have Rw := R3.wipe e9
        rw [hwp] at Rw
        rw [if_neg Bool.false_ne_true]
        exact ⟨w3, s5, das, acc, z', rfl, l1.trans l13, Rw, k'.trans (kk2.trans (k3.trans (keep_unw e9))), y1, y4, y2, y3, e10, ez, ez2⟩
    · have e0 : i = ds.length := by omega
      subst e0
      rw [List.drop_length] at e'
      cases e'
      have ez : das ++ [] = z.1 := ez
      rw [List.append_nil] at ez
      subst ez
      refine .inl ⟨hstop, k (.ref D') w' l' ?_ ?_ ⟨[D'], ⟨D', acc, rfl, rfl, hA, dA⟩, fun a ha => ?_⟩⟩
      · rw [← ez2]
        exact R.unwipe l' R' hn
      · rw [← ez2]
        exact keep_rst hn k'
      · have ea : a = D' := List.mem_singleton.mp ha
        subst ea
        exact ⟨hD, fD, nD, _, hA⟩
def mLc (sel : D → Option (List D)) (ml : M) (t : Tgt) (mt : MT) (me : M) (vs : List Nat) : M := fun s => (mFz ml s).bind fun p => (cD p.2 p.1).bind fun d => (sel d).bind fun ds => (unw vs p.2).bind fun s2 => (loopC t mt me vs ds s2).bind fun z => endC vs p.2 z
theorem endC_le {vs : List Nat} {s₁ : List Slot} {z : List D × List Slot} {r : Op × List Slot} (h : endC vs s₁ z = some r) : z.1.length ≤ 100000 ∧ r = (.nw (.lst z.1), rst vs s₁ z.2) := by
  unfold endC at h
  split at h
  · rename_i q
    cases h
    exact ⟨q, rfl⟩
  · cases h
theorem lift_lcL {ml : M} {g : TG} {t : Tgt} {ts vs : List Nat} {mt : MT} {me : M} {σ : St} {H : Hp} {Q : VK} (hg : TgtC c g t ts) (hts : ∀ i ∈ ts, i ∈ vs) (h : liftE c (mLc selL ml t mt me vs) σ H Q) : tLc (iList K (liftE c (mFz ml))) g (liftT c mt) (liftE c (mFz me)) vs σ H Q := by
  obtain ⟨w, s, rfl, R, o, s', e, k⟩ := h
  obtain ⟨⟨o1, s1⟩, e1, e⟩ := bnd e
  obtain ⟨d, e2, e⟩ := bnd e
  obtain ⟨ds, e3, e⟩ := bnd e
  obtain ⟨s2, e4, e⟩ := bnd e
  obtain ⟨z, e5, e⟩ := bnd e
  obtain ⟨hz, e⟩ := endC_le e
  cases e
  refine ⟨w, s, rfl, R, o1, s1, e1, fun v w1 l1 R1 k1 q1 => ?_⟩
  obtain ⟨d1, rfl⟩ := mfz_v e1
  cases e2
  cases d with
  | list ds' =>
    cases e3
    have q1 : Dp K w1.F v (.list ds) := q1
    cases q1 with
    | lst h1 h2 => exact ⟨_, rfl, ⟨_, sqL_mono R1.sub h1⟩, lift_lc hg hts (walks_list h1 h2) R1 e4 e5 hz fun v w' l' R' k' q => k v w' (l1.trans l') R' (k1.trans k') (q.back l1)⟩
  | _ => cases e3
theorem lift_lcT {ml : M} {g : TG} {t : Tgt} {ts vs : List Nat} {mt : MT} {me : M} {σ : St} {H : Hp} {Q : VK} (hg : TgtC c g t ts) (hts : ∀ i ∈ ts, i ∈ vs) (h : liftE c (mLc selT ml t mt me vs) σ H Q) : tLc (iTup K (liftE c (mFz ml))) g (liftT c mt) (liftE c (mFz me)) vs σ H Q := by
  obtain ⟨w, s, rfl, R, o, s', e, k⟩ := h
  obtain ⟨⟨o1, s1⟩, e1, e⟩ := bnd e
  obtain ⟨d, e2, e⟩ := bnd e
  obtain ⟨ds, e3, e⟩ := bnd e
  obtain ⟨s2, e4, e⟩ := bnd e
  obtain ⟨z, e5, e⟩ := bnd e
  obtain ⟨hz, e⟩ := endC_le e
  cases e
  refine ⟨w, s, rfl, R, o1, s1, e1, fun v w1 l1 R1 k1 q1 => ?_⟩
  obtain ⟨d1, rfl⟩ := mfz_v e1
  cases e2
  cases d with
  | tuple ds' =>
    cases e3
    have q1 : Dp K w1.F v (.tuple ds) := q1
    cases q1 with
    | tup h1 h2 => exact ⟨_, rfl, ⟨_, sqT_mono R1.sub h1⟩, lift_lc hg hts (walks_tup h1 h2) R1 e4 e5 hz fun v w' l' R' k' q => k v w' (l1.trans l') R' (k1.trans k') (q.back l1)⟩
  | _ => cases e3
def mLcR1 (m : M) (t : Tgt) (mt : MT) (me : M) (vs : List Nat) : M := fun s => (m s).bind fun p => (cD p.2 p.1).bind fun d => match d with
  | .int n => if -(2 ^ 62) ≤ n ∧ n < 2 ^ 62 then (unw vs p.2).bind fun s2 => (loopC t mt me vs (rngD 0 n.toNat) s2).bind fun z => endC vs p.2 z else none
  | _ => none
theorem lift_lcR1 {m : M} {g : TG} {t : Tgt} {ts vs : List Nat} {mt : MT} {me : M} {σ : St} {H : Hp} {Q : VK} (hg : TgtC c g t ts) (hts : ∀ i ∈ ts, i ∈ vs) (h : liftE c (mLcR1 m t mt me vs) σ H Q) : tLc (iRng1 (liftA c (mACons m mANil))) g (liftT c mt) (liftE c (mFz me)) vs σ H Q := by
  obtain ⟨w, s, rfl, R, o, s', e, k⟩ := h
  obtain ⟨⟨o1, s1⟩, e1, e⟩ := bnd e
  obtain ⟨d, e2, e⟩ := bnd e
  cases d with
  | int n =>
    have e : (if -(2 ^ 62) ≤ n ∧ n < 2 ^ 62 then (unw vs s1).bind fun s2 => (loopC t mt me vs (rngD 0 n.toNat) s2).bind fun z => endC vs s1 z else none) = some (o, s') := e
    split at e
    · rename_i hn
      obtain ⟨s2, e4, e⟩ := bnd e
      obtain ⟨z, e5, e⟩ := bnd e
      obtain ⟨hz, e⟩ := endC_le e
      cases e
      refine ⟨w, s, rfl, R, [o1], s1, ?_, fun vs w1 l1 R1 k1 q1 => ?_⟩
      · unfold mACons mANil
        rw [e1]
        rfl
      · cases q1 with
        | cons h1 h2 =>
          cases h2
          have q : Dp K w1.F _ (.int n) := R1.view h1 e2
          cases q
          exact ⟨n, rfl, hn.1, hn.2, lift_lc hg hts walks_rng R1 e4 e5 hz fun v w' l' R' k' q => k v w' (l1.trans l') R' (k1.trans k') (q.back l1)⟩
    · cases e
  | _ => cases e
end
def mYes : MT := fun s => some (true, s)
theorem _root_.L2.PTs.imp {X : Cx} {e : List Expr} {t t' : TT} (h : PTs X e t) (i : ∀ σ H Q, t' σ H Q → t σ H Q) : PTs X e t' := ⟨fun pins s σ H Q I q => h.run pins s σ H Q I (i _ _ _ q)⟩
theorem shts_nil {X : Cx} {c : Cfg X.K} : PTs X [] (liftT c mYes) := pts_nil.imp fun σ H Q q => by
  obtain ⟨w, s, rfl, R, b, s', e, k⟩ := q
  cases e
  exact k w (Le.refl w) R (Keep.refl _)
theorem shts_one {X : Cx} {c : Cfg X.K} {e : Expr} {m : MT} (h : PT X e (liftT c m)) : PTs X [e] (liftT c m) := pts_one h
section
variable {X : Cx} {c : Cfg X.K} {elt tg iter : Expr} {ifs : List Expr} {scope : Scope} {own : List (Str × Nat)} {pos : Pos} {g : TG} {t : Tgt} {ts : List Nat} {mt : MT} {me ml : M}
abbrev Blk (X : Cx) (scope : Scope) (p : Cx → Prop) : Prop := ∀ (s : Shared) (H : Hp) (C : Addr) (cl : List (Str × Addr)) (fp : List Addr), p (X.blk s H scope (compEnvC scope cl C X.env) fp)
theorem she_lcL (hc : X.calm = true) (hN : X.N.Nodup) (hi : PE X iter (liftE c ml)) (ok : BlkOk X.N X.env.scope scope own) (hg : ∀ (s : Shared) (H : Hp) (C : Addr) (cl : List (Str × Addr)) (fp : List Addr), PG (X.blk s H scope (compEnvC scope cl C X.env) fp) tg g) (hg' : TgtC c g t ts) (hts : ∀ i ∈ ts, i ∈ own.map (·.2))
    (ht : ∀ (s : Shared) (H : Hp) (C : Addr) (cl : List (Str × Addr)) (fp : List Addr), PTs (X.blk s H scope (compEnvC scope cl C X.env) fp) ifs (liftT c mt)) (he : ∀ (s : Shared) (H : Hp) (C : Addr) (cl : List (Str × Addr)) (fp : List Addr), PE (X.blk s H scope (compEnvC scope cl C X.env) fp) elt (liftE c me)) (hs : ∀ x, foldedSetIterable iter X.env x = pure x := by intro _; rfl) :
    PE X (.ListComp elt [⟨tg, iter, ifs, 0⟩] scope pos) (liftE c (mLc selL ml t mt me (own.map (·.2)))) := (pe_lc hc hN (pi_list (she_fz hi)) ok hg ht (fun s H C cl fp => she_fz (he s H C cl fp)) hs).imp fun _ _ _ h => lift_lcL hg' hts h
theorem she_lcT (hc : X.calm = true) (hN : X.N.Nodup) (hi : PE X iter (liftE c ml)) (ok : BlkOk X.N X.env.scope scope own) (hg : ∀ (s : Shared) (H : Hp) (C : Addr) (cl : List (Str × Addr)) (fp : List Addr), PG (X.blk s H scope (compEnvC scope cl C X.env) fp) tg g) (hg' : TgtC c g t ts) (hts : ∀ i ∈ ts, i ∈ own.map (·.2))
    (ht : ∀ (s : Shared) (H : Hp) (C : Addr) (cl : List (Str × Addr)) (fp : List Addr), PTs (X.blk s H scope (compEnvC scope cl C X.env) fp) ifs (liftT c mt)) (he : ∀ (s : Shared) (H : Hp) (C : Addr) (cl : List (Str × Addr)) (fp : List Addr), PE (X.blk s H scope (compEnvC scope cl C X.env) fp) elt (liftE c me)) (hs : ∀ x, foldedSetIterable iter X.env x = pure x := by intro _; rfl) :
    PE X (.ListComp elt [⟨tg, iter, ifs, 0⟩] scope pos) (liftE c (mLc selT ml t mt me (own.map (·.2)))) := (pe_lc hc hN (pi_tup (she_fz hi)) ok hg ht (fun s H C cl fp => she_fz (he s H C cl fp)) hs).imp fun _ _ _ h => lift_lcT hg' hts h
theorem she_lcR1 {a : Expr} {p pos' : Pos} (hc : X.calm = true) (hN : X.N.Nodup) (hgl : Gl X "range") (hm : X.mg "range" = none) (hi : PE X a (liftE c ml)) (ok : BlkOk X.N X.env.scope scope own) (hg : ∀ (s : Shared) (H : Hp) (C : Addr) (cl : List (Str × Addr)) (fp : List Addr), PG (X.blk s H scope (compEnvC scope cl C X.env) fp) tg g) (hg' : TgtC c g t ts) (hts : ∀ i ∈ ts, i ∈ own.map (·.2))
    (ht : ∀ (s : Shared) (H : Hp) (C : Addr) (cl : List (Str × Addr)) (fp : List Addr), PTs (X.blk s H scope (compEnvC scope cl C X.env) fp) ifs (liftT c mt)) (he : ∀ (s : Shared) (H : Hp) (C : Addr) (cl : List (Str × Addr)) (fp : List Addr), PE (X.blk s H scope (compEnvC scope cl C X.env) fp) elt (liftE c me)) (hs : starEach [a] X.env = [(false, eval a X.env)] := by rfl)
    (hf : ∀ x, foldedSetIterable (.Call (.Name "range" p) [a] [] pos') X.env x = pure x := by intro _; rfl) : PE X (.ListComp elt [⟨tg, .Call (.Name "range" p) [a] [] pos', ifs, 0⟩] scope pos) (liftE c (mLcR1 ml t mt me (own.map (·.2)))) :=
  (pe_lc hc hN (pi_range1 hgl hm (sha_cons hi sha_nil hs) hs) ok hg ht (fun s H C cl fp => she_fz (he s H C cl fp)) hf).imp fun _ _ _ h => lift_lcR1 hg' hts h
/-- y = [..] on one line -/
theorem shs_setLc {i : Nat} {y : Str} {py : Pos} {spos : Pos} {wi : TI} {te : TE} {tt : TT} {m : M} (hc : X.calm = true) (hN : X.N.Nodup) (hy : X.N[i]? = some y) (hyl : X.env.scope.names.lookup y = some .local)
    (hsw : swapsWith (.ListComp elt [⟨tg, iter, ifs, 0⟩] scope pos) (some (.Name y py)) spos.line X.env = pure true) (hi : PI X tg iter wi) (ok : BlkOk X.N X.env.scope scope own)
    (hg : ∀ (s : Shared) (H : Hp) (C : Addr) (cl : List (Str × Addr)) (fp : List Addr), PG (X.blk s H scope (compEnvC scope cl C X.env) fp) tg g) (ht : ∀ (s : Shared) (H : Hp) (C : Addr) (cl : List (Str × Addr)) (fp : List Addr), PTs (X.blk s H scope (compEnvC scope cl C X.env) fp) ifs tt)
    (he : ∀ (s : Shared) (H : Hp) (C : Addr) (cl : List (Str × Addr)) (fp : List Addr), PE (X.blk s H scope (compEnvC scope cl C X.env) fp) elt te) (hl : ∀ σ H Q, liftE c m σ H Q → tLc wi g tt te (own.map (·.2)) σ H Q) (hs : ∀ x, foldedSetIterable iter X.env x = pure x := by intro _; rfl) :
    PS X (.Assign [.Name y py] (.ListComp elt [⟨tg, iter, ifs, 0⟩] scope pos) spos) (liftS c (mAsg m i)) := (ps_setLc hc hN hy hyl hsw hi ok hg ht he hs).imp fun D σ H h => hl σ H _ (lift_asg h)
end
end Sh
-- Sh7.lean
set_option Elab.async false
set_option linter.all false
set_option maxRecDepth 100000
set_option maxHeartbeats 1000000
/-! Sh7: what the operations are worth. -/
namespace Sh
open PySem L2
section
variable {K : PySem.W.Frag}
theorem vd_int {w : W} {v : V} {i : Int} (h : VD (K := K) w v (.int i)) : v = .int i := by
  have h : Dp K w.F v (.int i) := h
  cases h
  rfl
theorem vd_str {w : W} {v : V} {i : Str} (h : VD (K := K) w v (.str i)) : v = .str i := by
  have h : Dp K w.F v (.str i) := h
  cases h
  rfl
theorem vd_bool {w : W} {v : V} {i : Bool} (h : VD (K := K) w v (.bool i)) : v = .bl i := by
  have h : Dp K w.F v (.bool i) := h
  cases h
  rfl
theorem vd_none {w : W} {v : V} (h : VD (K := K) w v .none) : v = .non := by
  have h : Dp K w.F v .none := h
  cases h
  rfl
theorem vd_tup {w : W} {v : V} {ds : List D} (h : VD (K := K) w v (.tuple ds)) : ∃ a xs, v = .ref a ∧ SqT K w.F a xs ∧ DpAll K w.F xs ds := by
  have h : Dp K w.F v (.tuple ds) := h
  cases h with
  | tup h1 h2 => exact ⟨_, _, rfl, h1, h2⟩
/-- two ints -/
def fI (C : Int → Int → Bool) (g : Int → Int → D) : D → D → Option Res
  | .int i, .int j => if C i j = true then some (.d (g i j)) else none
  | _, _ => none
theorem sem_I {C : Int → Int → Prop} {Cb : Int → Int → Bool} {g : Int → Int → V} {g' : Int → Int → D} (hC : ∀ i j, Cb i j = true → C i j) (hg : ∀ F i j, Dp K F (g i j) (g' i j)) : Sem2 K (rI C g) (fI Cb g') := fun w x y d e res sb vx vy q Q k => by
  cases d with
  | int i =>
    cases e with
    | int j =>
      have q : (if Cb i j = true then some (Res.d (g' i j)) else none) = some res := q
      split at q
      · rename_i hc
        cases q
        exact ⟨i, j, vd_int vx, vd_int vy, hC i j hc, k.val sb (hg _ i j)⟩
      · cases q
    | _ => cases q
  | _ => cases q
def fI0 (g : Int → Int → D) : D → D → Option Res
  | .int i, .int j => some (.d (g i j))
  | _, _ => none
theorem sem_I0 {g : Int → Int → V} {g' : Int → Int → D} (hg : ∀ F i j, Dp K F (g i j) (g' i j)) : Sem2 K (rI0 g) (fI0 g') := fun w x y d e res sb vx vy q Q k => by
  cases d with
  | int i =>
    cases e with
    | int j =>
      cases q
      exact ⟨i, j, vd_int vx, vd_int vy, k.val sb (hg _ i j)⟩
    | _ => cases q
  | _ => cases q
instance (i j : Int) : Decidable (CMul i j) := inferInstanceAs (Decidable ((-(2 ^ 64) < i ∧ i < 2 ^ 64) ∨ (-(2 ^ 64) < j ∧ j < 2 ^ 64)))
def fAddI := fI0 fun i j => .int (i + j)
def fSub := fI0 fun i j => .int (i - j)
def fMulI := fI (fun i j => decide (CMul i j)) fun i j => .int (i * j)
def fDiv := fI (fun _ j => decide (0 < j) && decide (j < 1073741824)) fun i j => .int (i / j)
def fMod := fI (fun _ j => decide (0 < j)) fun i j => .int (i % j)
def fPow := fI (fun i j => decide (0 ≤ j) && decide (j ≤ 1000000) && decide (i.natAbs < 2 ^ 64)) fun i j => .int (i ^ j.toNat)
def fLt := fI0 fun i j => .bool (decide (i < j))
def fLe := fI0 fun i j => .bool (decide (i ≤ j))
def fGt := fI0 fun i j => .bool (decide (j < i))
def fGe := fI0 fun i j => .bool (decide (j ≤ i))
theorem sem_addI : Sem2 K (rI0 fun i j => .int (i + j)) fAddI := sem_I0 fun _ _ _ => .int _
theorem sem_sub : Sem2 K (rI0 fun i j => .int (i - j)) fSub := sem_I0 fun _ _ _ => .int _
theorem sem_mulI : Sem2 K (rI CMul fun i j => .int (i * j)) fMulI := sem_I (fun _ _ h => of_decide_eq_true h) fun _ _ _ => .int _
theorem sem_div : Sem2 K (rI CDiv fun i j => .int (i / j)) fDiv := sem_I (fun _ _ h => by
  have z := Bool.and_eq_true_iff.mp h
  exact ⟨of_decide_eq_true z.1, of_decide_eq_true z.2⟩) fun _ _ _ => .int _
theorem sem_mod : Sem2 K (rI (fun _ j => 0 < j) fun i j => .int (i % j)) fMod := sem_I (fun _ _ h => of_decide_eq_true h) fun _ _ _ => .int _
theorem sem_pow : Sem2 K (rI CPow fun i j => .int (i ^ j.toNat)) fPow := sem_I (fun _ _ h => by
  have z := Bool.and_eq_true_iff.mp h
  have z2 := Bool.and_eq_true_iff.mp z.1
  exact ⟨of_decide_eq_true z2.1, of_decide_eq_true z2.2, of_decide_eq_true z.2⟩) fun _ _ _ => .int _
theorem sem_lt : Sem2 K (rI0 fun i j => .bl (decide (i < j))) fLt := sem_I0 fun _ _ _ => .bl _
theorem sem_le : Sem2 K (rI0 fun i j => .bl (decide (i ≤ j))) fLe := sem_I0 fun _ _ _ => .bl _
theorem sem_gt : Sem2 K (rI0 fun i j => .bl (decide (j < i))) fGt := sem_I0 fun _ _ _ => .bl _
theorem sem_ge : Sem2 K (rI0 fun i j => .bl (decide (j ≤ i))) fGe := sem_I0 fun _ _ _ => .bl _
def fNeg : D → Option Res
  | .int i => some (.d (.int (-i)))
  | _ => none
theorem sem_neg : Sem1 K (rU fun i => .int (-i)) fNeg := fun w x d res sb vx q Q k => by
  cases d with
  | int i =>
    cases q
    exact ⟨i, vd_int vx, k.val sb (.int _)⟩
  | _ => cases q
/-- == -/
def fEq : D → D → Option Res
  | .int i, .int j => some (.d (.bool (decide (i = j))))
  | .str x, .str y => some (.d (.bool (decide (x = y))))
  | .bool a, .bool b => some (.d (.bool (decide (a = b))))
  | d, e => if (SeqAt.shaped d && SeqAt.shaped e) = true then some (.d (.bool (PyData.eqv d e))) else none
def fNe : D → D → Option Res
  | .int i, .int j => some (.d (.bool (!decide (i = j))))
  | .str x, .str y => some (.d (.bool (!decide (x = y))))
  | .bool a, .bool b => some (.d (.bool (!decide (a = b))))
  | d, e => if (SeqAt.shaped d && SeqAt.shaped e) = true then some (.d (.bool (!PyData.eqv d e))) else none
theorem dec_V {α : Type} [DecidableEq α] {f : α → V} (hf : ∀ a b, f a = f b → a = b) (a b : α) : decide (f a = f b) = decide (a = b) := by
  by_cases h : a = b
  · subst h
    rw [decide_eq_true rfl, decide_eq_true rfl]
  · rw [decide_eq_false h, decide_eq_false fun q => h (hf _ _ q)]
theorem sem_eq : Sem2 K (fun x y H Q => rEq x y H Q ∨ rEqD K x y H Q) fEq := fun w x y d e res sb vx vy q Q k => by
  have gen : (if (SeqAt.shaped d && SeqAt.shaped e) = true then some (Res.d (.bool (PyData.eqv d e))) else none) = some res → rEq x y w.H Q ∨ rEqD K x y w.H Q := fun q => by
    split at q
    · rename_i h
      cases q
      obtain ⟨h1, h2⟩ := Bool.and_eq_true_iff.mp h
      exact .inr ⟨d, e, vx.dp sb, vy.dp sb, h1, h2, k.val sb (.bl _)⟩
    · cases q
  unfold fEq at q
  split at q
  · cases q
    rw [vd_int vx, vd_int vy]
    refine .inl ⟨rfl, ?_⟩
    rw [dec_V fun _ _ => V.int.inj]
    exact k.val sb (.bl _)
  · cases q
    rw [vd_str vx, vd_str vy]
    refine .inl ⟨rfl, ?_⟩
    rw [dec_V fun _ _ => V.str.inj]
    exact k.val sb (.bl _)
  · cases q
    rw [vd_bool vx, vd_bool vy]
    refine .inl ⟨rfl, ?_⟩
    rw [dec_V fun _ _ => V.bl.inj]
    exact k.val sb (.bl _)
  · exact gen q
theorem sem_ne : Sem2 K (fun x y H Q => rNe x y H Q ∨ rNeD K x y H Q) fNe := fun w x y d e res sb vx vy q Q k => by
  have gen : (if (SeqAt.shaped d && SeqAt.shaped e) = true then some (Res.d (.bool (!PyData.eqv d e))) else none) = some res → rNe x y w.H Q ∨ rNeD K x y w.H Q := fun q => by
    split at q
    · rename_i h
      cases q
      obtain ⟨h1, h2⟩ := Bool.and_eq_true_iff.mp h
      exact .inr ⟨d, e, vx.dp sb, vy.dp sb, h1, h2, k.val sb (.bl _)⟩
    · cases q
  unfold fNe at q
  split at q
  · cases q
    rw [vd_int vx, vd_int vy]
    refine .inl ⟨rfl, ?_⟩
    rw [dec_V fun _ _ => V.int.inj]
    exact k.val sb (.bl _)
  · cases q
    rw [vd_str vx, vd_str vy]
    refine .inl ⟨rfl, ?_⟩
    rw [dec_V fun _ _ => V.str.inj]
    exact k.val sb (.bl _)
  · cases q
    rw [vd_bool vx, vd_bool vy]
    refine .inl ⟨rfl, ?_⟩
    rw [dec_V fun _ _ => V.bl.inj]
    exact k.val sb (.bl _)
  · exact gen q
def isNoneD : D → Bool
  | .none => true
  | _ => false
theorem isNone_dp {F : Hp} {v : V} {d : D} (h : Dp K F v d) : decide (v = .non) = isNoneD d := by
  cases h <;> first | rfl | exact decide_eq_false (fun q => nomatch q) | exact decide_eq_true rfl
def fIsN : D → D → Option Res
  | d, .none => some (.d (.bool (isNoneD d)))
  | _, _ => none
def fNotN : D → D → Option Res
  | d, .none => some (.d (.bool (!isNoneD d)))
  | _, _ => none
theorem sem_isN : Sem2 K (fun x y H Q => y = .non ∧ Q (.bl (decide (x = .non))) H) fIsN := fun w x y d e res sb vx vy q Q k => by
  cases e with
  | none =>
    cases q
    refine ⟨vd_none vy, ?_⟩
    rw [isNone_dp (vx.dp sb)]
    exact k.val sb (.bl _)
  | _ => cases q
theorem sem_notN : Sem2 K (fun x y H Q => y = .non ∧ Q (.bl (!decide (x = .non))) H) fNotN := fun w x y d e res sb vx vy q Q k => by
  cases e with
  | none =>
    cases q
    refine ⟨vd_none vy, ?_⟩
    rw [isNone_dp (vx.dp sb)]
    exact k.val sb (.bl _)
  | _ => cases q
/-- in, over flat items -/
def flatD : D → Bool
  | .none => true
  | .bool _ => true
  | .int _ => true
  | .str _ => true
  | _ => false
theorem flat_dp {F : Hp} {v : V} {d : D} (h : Dp K F v d) (f : flatD d = true) : flatV v = true := by
  cases h <;> first | rfl | cases f
theorem flats_dp {F : Hp} : ∀ {vs : List V} {ds : List D}, DpAll K F vs ds → ds.all flatD = true → vs.all flatV = true
  | _, [], h, _ => by
    cases h
    rfl
  | _, d :: ds, h, f => by
    cases h with
    | cons h1 h2 =>
      rw [List.all_cons, Bool.and_eq_true_iff] at f
      rw [List.all_cons, flat_dp h1 f.1, flats_dp h2 f.2]
      rfl
theorem eqV_dp {F : Hp} {v u : V} {d e : D} (h : Dp K F v d) (g : Dp K F u e) (fd : flatD d = true) (fe : flatD e = true) : eqV v u = PyData.eqv d e := by
  cases h <;> first | (cases g <;> first | rfl | cases fe) | cases fd
theorem inV_dp {F : Hp} {u : V} {e : D} (g : Dp K F u e) (fe : flatD e = true) : ∀ {vs : List V} {ds : List D}, DpAll K F vs ds → ds.all flatD = true → inV u vs = ds.any fun d => PyData.eqv d e
  | _, [], h, _ => by
    cases h
    rfl
  | _, d :: ds, h, f => by
    cases h with
    | cons h1 h2 =>
      rw [List.all_cons, Bool.and_eq_true_iff] at f
      have ih := inV_dp g fe h2 f.2
      unfold inV at ih ⊢
      rw [List.any_cons, List.any_cons, ih, eqV_dp h1 g f.1 fe]
def seqD : D → Option (List D)
  | .list ds => some ds
  | .tuple ds => some ds
  | _ => none
def fIn (neg : Bool) (d e : D) : Option Res := (seqD e).bind fun ds => if (flatD d && ds.all flatD) = true then some (.d (.bool (if neg then !(ds.any fun z => PyData.eqv z d) else ds.any fun z => PyData.eqv z d))) else none
theorem sem_in {neg : Bool} : Sem2 K (rIn K neg) (fIn neg) := fun w x y d e res sb vx vy q Q k => by
  obtain ⟨ds, e1, q⟩ := bnd q
  split at q
  · rename_i h
    cases q
    obtain ⟨h1, h2⟩ := Bool.and_eq_true_iff.mp h
    have dx := vx.dp sb
    have fin : ∀ (p : Addr) (xs : List V), y = .ref p → (SqL K w.H p xs ∨ SqT K w.H p xs) → DpAll K w.F xs ds → rIn K neg x y w.H Q := fun p xs ey hs hd => by
      refine ⟨p, xs, ey, hs, flat_dp dx h1, flats_dp hd h2, ?_⟩
      rw [inV_dp dx h1 (dpAll_mono sb _ _ hd) h2]
      exact k.val sb (.bl _)
    cases e with
    | list es =>
      cases e1
      obtain ⟨a, xs, ey, h3, h4⟩ := vy
      exact fin a xs ey (.inl h3) h4
    | tuple es =>
      cases e1
      obtain ⟨a, xs, ey, h3, h4⟩ := vd_tup vy
      exact fin a xs ey (.inr (sqT_mono sb h3)) h4
    | _ => cases e1
  · cases q
/-- items -/
def fIx (d e : D) : Option Res := match e with
  | .int i => match d with
    | .list ds => (atI ds i).bind fun z => some (.d z)
    | .tuple ds => (atI ds i).bind fun z => some (.d z)
    | .str z => if z.length ≤ 100000 then (atI z.cps.toList i).bind fun ch => some (.d (.str ⟨#[ch]⟩)) else none
    | _ => none
  | _ => none
theorem at_dp {F : Hp} {vs : List V} {ds : List D} (h : DpAll K F vs ds) {i : Int} {d : D} (e : atI ds i = some d) : ∃ v, atI vs i = some v ∧ Dp K F v d := by
  unfold atI at e ⊢
  rw [dpa_len h]
  cases q : ixN ds.length i with
  | none =>
    rw [q] at e
    cases e
  | some j =>
    rw [q] at e
    exact dpa_get h e
def rIxA (K : PySem.W.Frag) : R2 := fun x y H Q => rIxL K x y H Q ∨ (rIxT K x y H Q ∨ rIxS x y H Q)
theorem sem_ix : Sem2 K (rIxA K) fIx := fun w x y d e res sb vx vy q Q k => by
  cases e with
  | int i =>
    have ey := vd_int vy
    cases d with
    | list ds =>
      obtain ⟨z, e1, q⟩ := bnd (x := atI ds i) q
      cases q
      obtain ⟨a, xs, ex, h1, h2⟩ := vx
      obtain ⟨v, h3, h4⟩ := at_dp h2 e1
      exact .inl ⟨a, xs, i, v, ex, ey, h1, h3, k.val sb h4⟩
    | tuple ds =>
      obtain ⟨z, e1, q⟩ := bnd (x := atI ds i) q
      cases q
      obtain ⟨a, xs, ex, h1, h2⟩ := vd_tup vx
      obtain ⟨v, h3, h4⟩ := at_dp h2 e1
      exact .inr (.inl ⟨a, xs, i, v, ex, ey, sqT_mono sb h1, h3, k.val sb h4⟩)
    | str z =>
      have q : (if z.length ≤ 100000 then (atI z.cps.toList i).bind fun ch => some (Res.d (.str ⟨#[ch]⟩)) else none) = some res := q
      split at q
      · rename_i hz
        obtain ⟨ch, e1, q⟩ := bnd q
        cases q
        exact .inr (.inr ⟨z, i, ch, vd_str vx, ey, Evl.sz_of hz, e1, k.val sb (.str _)⟩)
      · cases q
    | _ => cases q
  | _ => cases q
end
theorem ix_all {X : Cx} : IxR X (rIxA X.K) := IxR.or ix_list (IxR.or ix_tup ix_str)
theorem op_eqA {X : Cx} (hu : X.A.units + 64 < cLine) : OpR X (compareOp .Eq) (fun x y H Q => rEq x y H Q ∨ rEqD X.K x y H Q) := OpR.or op_eq (op_eqD hu)
theorem op_neA {X : Cx} (hu : X.A.units + 64 < cLine) : OpR X (compareOp .NotEq) (fun x y H Q => rNe x y H Q ∨ rNeD X.K x y H Q) := OpR.or op_ne (op_neD hu)
/-! ### built-ins -/
section
variable {K : PySem.W.Frag}
def f1 (f : D → Option Res) : List D → Option Res
  | [d] => f d
  | _ => none
theorem vds1 {w : W} {xs : List V} {d : D} (h : VDs K w xs [d]) : ∃ x, xs = [x] ∧ VD (K := K) w x d := by
  cases h with
  | cons h1 h2 =>
    cases h2
    exact ⟨_, rfl, h1⟩
theorem sem_1 {r : List V → Hp → VK → Prop} {f : D → Option Res} (h : ∀ (w : W) (x : V) (d : D) (res : Res), Sub w.F w.H → VD (K := K) w x d → f d = some res → ∀ Q : VK, Fin K w Q res → r [x] w.H Q) : SemC K r (f1 f) := fun w xs ds res sb vx q Q k => by
  match ds, q with
  | [d], q =>
    obtain ⟨x, rfl, hx⟩ := vds1 vx
    exact h w x d res sb hx q Q k
def fLen : D → Option Res
  | .list ds => some (.d (.int ds.length))
  | .tuple ds => some (.d (.int ds.length))
  | .str z => if z.length ≤ 100000 then some (.d (.int z.length)) else none
  | _ => none
def rLenA (K : PySem.W.Frag) : List V → Hp → VK → Prop := fun xs H Q => (∃ p ys, xs = [.ref p] ∧ (SqL K H p ys ∨ SqT K H p ys) ∧ Q (.int ys.length) H) ∨ ∃ z, xs = [.str z] ∧ z.length ≤ sizeLine ∧ Q (.int z.length) H
theorem sem_len : SemC K (rLenA K) (f1 fLen) := sem_1 fun w x d res sb vx q Q k => by
  cases d with
  | list ds =>
    cases q
    obtain ⟨a, xs, rfl, h1, h2⟩ := vx
    exact .inl ⟨a, xs, rfl, .inl h1, k.val sb (by rw [dpa_len h2]; exact .int _)⟩
  | tuple ds =>
    cases q
    obtain ⟨a, xs, rfl, h1, h2⟩ := vd_tup vx
    exact .inl ⟨a, xs, rfl, .inr (sqT_mono sb h1), k.val sb (by rw [dpa_len h2]; exact .int _)⟩
  | str z =>
    have q : (if z.length ≤ 100000 then some (Res.d (.int z.length)) else none) = some res := q
    split at q
    · rename_i hz
      cases q
      exact .inr ⟨z, by rw [vd_str vx], Evl.sz_of hz, k.val sb (.int _)⟩
    · cases q
  | _ => cases q
def fInt : D → Option Res
  | .int i => some (.d (.int i))
  | .bool b => some (.d (.int (if b then 1 else 0)))
  | _ => none
theorem sem_int : SemC K (fun xs H Q => (∃ i, xs = [.int i] ∧ Q (.int i) H) ∨ ∃ k, xs = [.bl k] ∧ Q (.int (if k then 1 else 0)) H) (f1 fInt) := sem_1 fun w x d res sb vx q Q k => by
  cases d with
  | int i =>
    cases q
    exact .inl ⟨i, by rw [vd_int vx], k.val sb (.int _)⟩
  | bool b =>
    cases q
    exact .inr ⟨b, by rw [vd_bool vx], k.val sb (.int _)⟩
  | _ => cases q
def fList : D → Option Res
  | .list ds => some (.nl ds)
  | .tuple ds => some (.nl ds)
  | _ => none
theorem sem_list : SemC K (fun xs H Q => ∃ p ys, xs = [.ref p] ∧ (SqL K H p ys ∨ SqT K H p ys) ∧ ∀ l, H l = none → Q (.ref l) (upd H l (.lst ys))) (f1 fList) := sem_1 fun w x d res sb vx q Q k => by
  cases d with
  | list ds =>
    cases q
    obtain ⟨a, xs, rfl, h1, h2⟩ := vx
    exact ⟨a, xs, rfl, .inl h1, fun l hl => k.lst sb h2 hl⟩
  | tuple ds =>
    cases q
    obtain ⟨a, xs, rfl, h1, h2⟩ := vd_tup vx
    exact ⟨a, xs, rfl, .inr (sqT_mono sb h1), fun l hl => k.lst sb h2 hl⟩
  | _ => cases q
def fTuple : D → Option Res
  | .list ds => some (.d (.tuple ds))
  | .tuple ds => some (.d (.tuple ds))
  | _ => none
theorem sem_tuple : SemC K (fun xs H Q => ∃ p ys, xs = [.ref p] ∧ ((SqL K H p ys ∧ ∀ l, H l = none → Q (.ref l) (upd H l (.tup ys))) ∨ (SqT K H p ys ∧ Q (.ref p) H))) (f1 fTuple) := sem_1 fun w x d res sb vx q Q k => by
  cases d with
  | list ds =>
    cases q
    obtain ⟨a, xs, rfl, h1, h2⟩ := vx
    exact ⟨a, xs, rfl, .inl ⟨h1, fun l hl => k.tup sb h2 hl⟩⟩
  | tuple ds =>
    cases q
    obtain ⟨a, xs, rfl, h1, h2⟩ := vd_tup vx
    exact ⟨a, xs, rfl, .inr ⟨sqT_mono sb h1, k.val sb (.tup h1 h2)⟩⟩
  | _ => cases q
def intsD : List D → Option (List Int)
  | [] => some []
  | .int i :: r => (intsD r).bind fun t => some (i :: t)
  | _ :: _ => none
theorem intsD_map : ∀ (ns : List Int), intsD (ns.map PyData.int) = some ns
  | [] => rfl
  | n :: ns => by
    show (intsD (ns.map PyData.int)).bind _ = _
    rw [intsD_map ns]
    rfl
theorem intsD_eq : ∀ {ds : List D} {ns : List Int}, intsD ds = some ns → ds = ns.map PyData.int
  | [], _, h => by
    cases h
    rfl
  | .int i :: r, _, h => by
    obtain ⟨t, e1, e⟩ := bnd (x := intsD r) h
    cases e
    rw [intsD_eq e1]
    rfl
  | .none :: _, _, h => by cases h
  | .bool _ :: _, _, h => by cases h
  | .str _ :: _, _, h => by cases h
  | .list _ :: _, _, h => by cases h
  | .tuple _ :: _, _, h => by cases h
  | .dict _ :: _, _, h => by cases h
def fInts (f : List Int → Option Res) : D → Option Res
  | .list ds => (intsD ds).bind f
  | _ => none
theorem sem_ints {r : List V → Hp → VK → Prop} {f : List Int → Option Res} (h : ∀ (w : W) (a : Addr) (ns : List Int) (res : Res), Sub w.F w.H → SqL K w.H a (ns.map V.int) → f ns = some res → ∀ Q : VK, Fin K w Q res → r [.ref a] w.H Q) : SemC K r (f1 (fInts f)) := sem_1 fun w x d res sb vx q Q k => by
  cases d with
  | list ds =>
    obtain ⟨ns, e1, e2⟩ := bnd (x := intsD ds) q
    obtain ⟨a, xs, rfl, h1, h2⟩ := vx
    rw [intsD_eq e1] at h2
    rw [dpAll_ints h2] at h1
    exact h w a ns res sb h1 e2 Q k
  | _ => cases q
def fSum := fInts fun ns => some (.d (.int ns.sum))
theorem sem_sum : SemC K (rSum K) (f1 fSum) := sem_ints fun w a ns res sb h q Q k => by
  cases q
  exact ⟨a, ns, rfl, h, k.val sb (.int _)⟩
def leastL : List Int → Option Int
  | [] => none
  | n :: ns => some (ns.foldl min n)
def mostL : List Int → Option Int
  | [] => none
  | n :: ns => some (ns.foldl max n)
theorem foldl_min_le : ∀ (ns : List Int) (n : Int), ns.foldl min n ≤ n ∧ (∀ x ∈ ns, ns.foldl min n ≤ x) ∧ (ns.foldl min n = n ∨ ns.foldl min n ∈ ns)
  | [], n => ⟨Int.le_refl _, (fun _ h => by cases h), Or.inl rfl⟩
  | y :: r, n => by
    obtain ⟨h1, h2, h3⟩ := foldl_min_le r (min n y)
    have e : (y :: r).foldl min n = r.foldl min (min n y) := rfl
    rw [e]
    refine ⟨by omega, fun x hx => ?_, ?_⟩
    · rcases List.mem_cons.mp hx with rfl | hx
      · omega
      · exact h2 x hx
    · rcases h3 with h3 | h3
      · by_cases h : n ≤ y
        · left; omega
        · right
          rw [h3, Int.min_eq_right (by omega)]
          exact List.mem_cons_self
      · right
        exact List.mem_cons_of_mem _ h3
theorem foldl_max_ge : ∀ (ns : List Int) (n : Int), n ≤ ns.foldl max n ∧ (∀ x ∈ ns, x ≤ ns.foldl max n) ∧ (ns.foldl max n = n ∨ ns.foldl max n ∈ ns)
  | [], n => ⟨Int.le_refl _, (fun _ h => by cases h), Or.inl rfl⟩
  | y :: r, n => by
    obtain ⟨h1, h2, h3⟩ := foldl_max_ge r (max n y)
    have e : (y :: r).foldl max n = r.foldl max (max n y) := rfl
    rw [e]
    refine ⟨by omega, fun x hx => ?_, ?_⟩
    · rcases List.mem_cons.mp hx with rfl | hx
      · omega
      · exact h2 x hx
    · rcases h3 with h3 | h3
      · by_cases h : y ≤ n
        · left; omega
        · right
          rw [h3, Int.max_eq_right (by omega)]
          exact List.mem_cons_self
      · right
        exact List.mem_cons_of_mem _ h3
def fMin := fInts fun ns => (leastL ns).bind fun m => some (.d (.int m))
def fMax := fInts fun ns => (mostL ns).bind fun m => some (.d (.int m))
def fSorted := fInts fun ns => some (.nl ((ns.mergeSort (· ≤ ·)).map PyData.int))
theorem least_uniq {ns : List Int} {m z : Int} (h : leastL ns = some m) (h1 : z ∈ ns) (h2 : ∀ x ∈ ns, z ≤ x) : z = m := by
  cases ns with
  | nil => cases h
  | cons n r =>
    cases h
    obtain ⟨q1, q2, q3⟩ := foldl_min_le r n
    have a : r.foldl min n ≤ z := by
      rcases List.mem_cons.mp h1 with rfl | h1
      · exact q1
      · exact q2 z h1
    have b : z ≤ r.foldl min n := by
      rcases q3 with q3 | q3
      · rw [q3]
        exact h2 n List.mem_cons_self
      · exact h2 _ (List.mem_cons_of_mem _ q3)
    omega
theorem most_uniq {ns : List Int} {m z : Int} (h : mostL ns = some m) (h1 : z ∈ ns) (h2 : ∀ x ∈ ns, x ≤ z) : z = m := by
  cases ns with
  | nil => cases h
  | cons n r =>
    cases h
    obtain ⟨q1, q2, q3⟩ := foldl_max_ge r n
    have a : z ≤ r.foldl max n := by
      rcases List.mem_cons.mp h1 with rfl | h1
      · exact q1
      · exact q2 z h1
    have b : r.foldl max n ≤ z := by
      rcases q3 with q3 | q3
      · rw [q3]
        exact h2 n List.mem_cons_self
      · exact h2 _ (List.mem_cons_of_mem _ q3)
    omega
theorem sem_min : SemC K (rMin K) (f1 fMin) := sem_ints fun w a ns res sb h q Q k => by
  obtain ⟨m, e1, e⟩ := bnd q
  cases e
  refine ⟨a, ns, rfl, h, ?_, fun z h1 h2 => ?_⟩
  · cases ns with
    | nil => cases e1
    | cons _ _ => exact Nat.succ_pos _
  · have e := least_uniq e1 h1 h2
    subst e
    exact k.val sb (.int _)
theorem sem_max : SemC K (rMax K) (f1 fMax) := sem_ints fun w a ns res sb h q Q k => by
  obtain ⟨m, e1, e⟩ := bnd q
  cases e
  refine ⟨a, ns, rfl, h, ?_, fun z h1 h2 => ?_⟩
  · cases ns with
    | nil => cases e1
    | cons _ _ => exact Nat.succ_pos _
  · have e := most_uniq e1 h1 h2
    subst e
    exact k.val sb (.int _)
theorem sort_uniq {ns ns' : List Int} (h1 : ns'.Perm ns) (h2 : ns'.Pairwise (· ≤ ·)) : ns' = ns.mergeSort (· ≤ ·) := by
  refine List.Perm.eq_of_pairwise (fun _ _ _ _ a b => Int.le_antisymm a b) h2 ?_ (h1.trans (List.mergeSort_perm ns _).symm)
  have z := List.pairwise_mergeSort (le := fun a b : Int => decide (a ≤ b)) (fun a b c h1 h2 => by
    have h1 := of_decide_eq_true h1
    have h2 := of_decide_eq_true h2
    exact decide_eq_true (Int.le_trans h1 h2)) (fun a b => by
    rcases Int.le_total a b with h | h
    · rw [decide_eq_true h]
      rfl
    · rw [decide_eq_true h, Bool.or_true]) ns
  exact z.imp fun h => of_decide_eq_true h
theorem sem_sorted : SemC K (rSortedI K) (f1 fSorted) := sem_ints fun w a ns res sb h q Q k => by
  cases q
  refine ⟨a, ns, rfl, h, fun ns' p h1 h2 hp => ?_⟩
  rw [sort_uniq h1 h2]
  exact k.lst sb (dpAll_of_ints _) hp
end
section
variable {X : Cx}
theorem call_lenA : CallR X (.builtin "len") (rLenA X.K) := by
  intro pins s σ H xs us Q I r h
  rcases h with h | h
  · exact call_len_seq pins s σ H xs us Q I r h
  · exact call_len_str pins s σ H xs us Q I r h
end
end Sh
-- Sh8.lean
set_option Elab.async false
set_option linter.all false
set_option maxRecDepth 100000
set_option maxHeartbeats 1000000
/-! Sh8: stores into objects of one's own, isinstance, and the like. -/
namespace Sh
open PySem L2
section
variable {K : PySem.W.Frag} {c : Cfg K} {w₀ w w' : W} {σ : St} {s s' : List Slot} {o : Op} {v : V} {d : D}
/-- the object of a slot's own changes -/
theorem Rel.mutS (R : Rel c w σ s) (l0 : Le w₀ w) {i : Nat} {p : Bool} {k k' : Cont} {a : Addr} {x : HO} (hs : s[i]? = some (.ow p k)) (ha : a ∈ w.φ i) (hk : ∀ v, σ[i]? = some (some v) → Own c w.F (upd w.H a x) v k' (w.φ i)) :
    ∃ w', w'.H = upd w.H a x ∧ w'.F = w.F ∧ w'.φ = w.φ ∧ Le w₀ w' ∧ Rel c w' σ (s.set i (.ow p k')) ∧ Keep s (s.set i (.ow p k')) := by
  obtain ⟨fa, o, oa⟩ := R.out i a ha
  have hil : i < s.length := (List.getElem?_eq_some_iff.mp hs).1
  have cases_a : w₀.H a = none ∨ a ∈ w₀.φ i := (l0.p i a ha).symm
  have other : ∀ j b, j ≠ i → b ∈ w.φ j → b ≠ a := fun j b hj hb z => hj (R.dis j i b hb (by rw [z]; exact ha))
  have keepT : ∀ b ∈ w.T, GxR.TabG w.H b → GxR.TabG (upd w.H a x) b := fun b hb h => by
    obtain ⟨ps, q1, q2⟩ := h
    refine ⟨ps, ?_, q2⟩
    rw [upd_ne (fun z => (R.tb.2 b hb).2.2 i (by rw [z]; exact ha))]
    exact q1
  refine ⟨{ w with H := upd w.H a x }, rfl, rfl, rfl, ⟨l0.f, fun b u q n => ?_, l0.p, fun b u q => ?_, ⟨l0.x.1, fun b hb hz => ⟨keepT b (by show b ∈ w.T; rw [l0.x.1]; exact hb) (l0.x.2 b hb hz).1, (l0.x.2 b hb hz).2⟩⟩⟩, ⟨by rw [List.length_set]; exact R.len, fun b u q => ?_, fun j b hb => ?_, fun j e hj => ?_, fun j p' k2 hj => ?_, R.dis, fun j hj => ?_, ⟨R.tb.1, fun b hb => ⟨keepT b hb (R.tb.2 b hb).1, (R.tb.2 b hb).2⟩⟩⟩, fun j k2 hj => ?_⟩
  · obtain ⟨q1, q2⟩ := l0.h b u q n
    refine ⟨?_, q2⟩
    show upd w.H a x b = some u
    rw [upd_ne (fun z => ?_)]
    · exact q1
    · subst z
      rcases cases_a with z | z
      · rw [z] at q
        cases q
      · exact n.1 i z
  · by_cases z : b = a
    · exact ⟨x, by subst z; exact upd_same⟩
    · obtain ⟨u', h⟩ := l0.t b u q
      exact ⟨u', by show upd w.H a x b = some u'; rw [upd_ne z]; exact h⟩
  · show upd w.H a x b = some u
    rw [upd_ne (ne_of_none q fa)]
    exact R.sub b u q
  · obtain ⟨q1, u, q2⟩ := R.out j b hb
    refine ⟨q1, ?_⟩
    by_cases z : b = a
    · exact ⟨x, by subst z; exact upd_same⟩
    · exact ⟨u, by show upd w.H a x b = some u; rw [upd_ne z]; exact q2⟩
  · by_cases z : j = i
    · subst z
      rw [List.getElem?_set_self hil] at hj
      cases hj
    · rw [List.getElem?_set_ne (Ne.symm z)] at hj
      exact R.fz j e hj
  · by_cases z : j = i
    · subst z
      rw [List.getElem?_set_self hil] at hj
      cases hj
      obtain ⟨v, q1, _⟩ := R.ow j p k hs
      exact ⟨v, q1, hk v q1⟩
    · rw [List.getElem?_set_ne (Ne.symm z)] at hj
      obtain ⟨v, q1, q2⟩ := R.ow j p' k2 hj
      refine ⟨v, q1, q2.mono (fun _ _ z => z) fun b hb u hu => ?_⟩
      show upd w.H a x b = some u
      rw [upd_ne (other j b z hb)]
      exact hu
  · by_cases z : j = i
    · subst z
      exact absurd (List.getElem?_set_self hil) (hj p k')
    · refine R.non j fun p2 k2 q => hj p2 k2 ?_
      rw [List.getElem?_set_ne (Ne.symm z)]
      exact q
  · by_cases z : j = i
    · subst z
      rw [List.getElem?_set_self hil] at hj
      cases hj
      exact ⟨k, hs⟩
    · rw [List.getElem?_set_ne (Ne.symm z)] at hj
      exact ⟨k2, hj⟩
theorem Rel.ow_list (R : Rel c w σ s) {i : Nat} {p : Bool} {ds : List D} (hs : s[i]? = some (.ow p (.lst ds))) : ∃ a xs, σ[i]? = some (some (.ref a)) ∧ w.φ i = [a] ∧ w.H a = some (.lst xs) ∧ DpAll K w.F xs ds := by
  obtain ⟨v, h1, a, xs, rfl, h2, h3, h4⟩ := R.ow i p _ hs
  exact ⟨a, xs, h1, h2, h3, h4⟩
/-- the list of a slot's own changes -/
theorem Rel.mutL (R : Rel c w σ s) (l0 : Le w₀ w) {i : Nat} {p : Bool} {ds ds' : List D} {a : Addr} {xs' : List V} (hs : s[i]? = some (.ow p (.lst ds))) (hv : σ[i]? = some (some (.ref a))) (hφ : w.φ i = [a]) (hd : DpAll K w.F xs' ds') :
    ∃ w', w'.H = upd w.H a (.lst xs') ∧ w'.F = w.F ∧ w'.φ = w.φ ∧ Le w₀ w' ∧ Rel c w' σ (s.set i (.ow p (.lst ds'))) ∧ Keep s (s.set i (.ow p (.lst ds'))) :=
  R.mutS l0 hs (by rw [hφ]; exact List.mem_cons_self) fun v hv' => by
    rw [hv] at hv'
    cases hv'
    exact ⟨a, xs', rfl, hφ, upd_same, hd⟩
end
/-- x.append(e) -/
def owL (s : List Slot) (i : Nat) : Option (Bool × List D) := match s[i]? with
  | some (.ow p (.lst ds)) => some (p, ds)
  | _ => none
theorem owL_get {s : List Slot} {i : Nat} {p : Bool} {ds : List D} (h : owL s i = some (p, ds)) : s[i]? = some (.ow p (.lst ds)) := by
  unfold owL at h
  split at h
  · rename_i q
    cases h
    exact q
  · cases h
def mApp (i : Nat) (me : M) : M := fun s => (owL s i).bind fun _ => (mFz me s).bind fun p => (vD p.1).bind fun d => (owL p.2 i).bind fun z => if z.2.length < 100000 then some (.v .none, p.2.set i (.ow z.1 (.lst (z.2 ++ [d])))) else none
/-- x.pop(e) -/
def mPopAt (i : Nat) (me : M) : M := fun s => (owL s i).bind fun _ => (me s).bind fun p => (cD p.2 p.1).bind fun d => (owL p.2 i).bind fun z => match d with
  | .int j => (ixN z.2.length j).bind fun k => (z.2[k]?).bind fun d' => if -(2 ^ 63) ≤ j ∧ j < 2 ^ 63 then some (.v d', p.2.set i (.ow z.1 (.lst (z.2.eraseIdx k)))) else none
  | _ => none
/-- x[j] = e -/
def mSetI (i : Nat) (mj me : M) : MS := fun s => (mFz me s).bind fun p => (vD p.1).bind fun d => (owL p.2 i).bind fun _ => (mj p.2).bind fun q => (cD q.2 q.1).bind fun dj => (owL q.2 i).bind fun z => match dj with
  | .int j => (ixN z.2.length j).bind fun k => some (.nx (q.2.set i (.ow z.1 (.lst (z.2.set k d)))))
  | _ => none
def mUnp (me : M) (t : Tgt) : MS := fun s => (mFz me s).bind fun p => (vD p.1).bind fun d => (t d p.2).bind fun s' => some (.nx s')
section
variable {K : PySem.W.Frag} {c : Cfg K}
theorem vd_op {B : Hp} {w : W} {σ : St} {o : Op} {d : D} {v : V} (h : RepO c B w σ o v) (e : vD o = some d) : Dp K w.F v d := by
  cases o with
  | v d' =>
    cases e
    exact h
  | _ => cases e
theorem lift_app {i : Nat} {me : M} {σ : St} {H : Hp} {Q : VK} (h : liftE c (mApp i me) σ H Q) : tBM K "list" rAppend (tVar i) (tCons (liftE c (mFz me)) tNil) σ H Q := by
  obtain ⟨w, s, rfl, R, o, s', e, k⟩ := h
  obtain ⟨⟨p0, ds0⟩, e0, e⟩ := bnd e
  obtain ⟨⟨o1, s1⟩, e1, e⟩ := bnd e
  obtain ⟨d, e2, e⟩ := bnd e
  obtain ⟨⟨p, ds⟩, e3, e⟩ := bnd e
  have e : (if ds.length < 100000 then some (Op.v .none, s1.set i (.ow p (.lst (ds ++ [d])))) else none) = some (o, s') := e
  split at e
  · rename_i hz
    cases e
    obtain ⟨a, xs0, hv, hφ, hH, hD⟩ := R.ow_list (owL_get e0)
    refine ⟨.ref a, hv, .inl ⟨rfl, xs0, SqL.of hH⟩, ?_⟩
    refine ⟨w, s, rfl, R, o1, s1, e1, fun v1 w1 l1 R1 k1 q1 => ?_⟩
    obtain ⟨a1, xs, hv1, hφ1, hH1, hD1⟩ := R1.ow_list (owL_get e3)
    rw [hv] at hv1
    cases hv1
    refine ⟨a, xs, v1, rfl, rfl, hH1, Evl.sz_lt (by rw [dpa_len hD1]; exact hz), ?_⟩
    obtain ⟨w2, hh, hF, _, l2, R2, k2⟩ := R1.mutL l1 (owL_get e3) hv hφ1 (dpa_app hD1 (dpa_one (vd_op q1 e2)))
    rw [← hh]
    exact k .non w2 l2 R2 (k1.trans k2) .non
  · cases e
theorem lift_popAt {i : Nat} {me : M} {σ : St} {H : Hp} {Q : VK} (h : liftE c (mPopAt i me) σ H Q) : tBM K "list" rPopAt (tVar i) (tCons (liftE c me) tNil) σ H Q := by
  obtain ⟨w, s, rfl, R, o, s', e, k⟩ := h
  obtain ⟨⟨p0, ds0⟩, e0, e⟩ := bnd e
  obtain ⟨⟨o1, s1⟩, e1, e⟩ := bnd e
  obtain ⟨d, e2, e⟩ := bnd e
  obtain ⟨⟨p, ds⟩, e3, e⟩ := bnd e
  cases d with
  | int j =>
    obtain ⟨n, e4, e⟩ := bnd (x := ixN ds.length j) e
    obtain ⟨d', e5, e⟩ := bnd e
    split at e
    · rename_i hj
      cases e
      obtain ⟨a, xs0, hv, hφ, hH, hD⟩ := R.ow_list (owL_get e0)
      refine ⟨.ref a, hv, .inl ⟨rfl, xs0, SqL.of hH⟩, ?_⟩
      refine ⟨w, s, rfl, R, o1, s1, e1, fun v1 w1 l1 R1 k1 q1 => ?_⟩
      obtain ⟨a1, xs, hv1, hφ1, hH1, hD1⟩ := R1.ow_list (owL_get e3)
      rw [hv] at hv1
      cases hv1
      have ev : v1 = .int j := vd_int (R1.view q1 e2)
      subst ev
      obtain ⟨y, y1, y2⟩ := dpa_get hD1 e5
      refine ⟨a, xs, j, n, y, rfl, rfl, hH1, hj.1, hj.2, ?_, y1, ?_⟩
      · rw [dpa_len hD1]
        exact (ixN_seq e4).1
      · obtain ⟨w2, hh, hF, _, l2, R2, k2⟩ := R1.mutL l1 (owL_get e3) hv hφ1 (dpa_erase n hD1)
        rw [← hh]
        refine k y w2 l2 R2 (k1.trans k2) ?_
        show Dp K w2.F y d'
        rw [hF]
        exact y2
    · cases e
  | _ => cases e
theorem lift_setI {i : Nat} {mj me : M} {D' : Ends} {σ : St} {H : Hp} (h : liftS c (mSetI i mj me) D' σ H) : tAsg (liftE c (mFz me)) (gSub (tVar i) (liftE c mj) rSetL) D' σ H := by
  obtain ⟨w, s, rfl, R, out, e, k⟩ := h
  obtain ⟨⟨o1, s1⟩, e1, e⟩ := bnd e
  obtain ⟨d, e2, e⟩ := bnd e
  obtain ⟨⟨p0, ds0⟩, e0, e⟩ := bnd e
  obtain ⟨⟨o2, s2⟩, e3, e⟩ := bnd e
  obtain ⟨dj, e4, e⟩ := bnd e
  obtain ⟨⟨p, ds⟩, e5, e⟩ := bnd e
  cases dj with
  | int j =>
    obtain ⟨n, e6, e⟩ := bnd (x := ixN ds.length j) e
    cases e
    refine ⟨w, s, rfl, R, o1, s1, e1, fun v1 w1 l1 R1 k1 q1 => ?_⟩
    obtain ⟨a, xs0, hv, hφ, hH, hD⟩ := R1.ow_list (owL_get e0)
    refine ⟨.ref a, hv, ?_⟩
    refine ⟨w1, s1, rfl, R1, o2, s2, e3, fun v2 w2 l2 R2 k2 q2 => ?_⟩
    obtain ⟨a1, xs, hv1, hφ1, hH1, hD1⟩ := R2.ow_list (owL_get e5)
    rw [hv] at hv1
    cases hv1
    have ev : v2 = .int j := vd_int (R2.view q2 e4)
    subst ev
    refine ⟨a, xs, j, n, rfl, rfl, hH1, ?_, ?_⟩
    · rw [dpa_len hD1]
      exact e6
    · obtain ⟨w3, hh, hF, _, l3, R3, k3⟩ := R2.mutL (l1.trans l2) (owL_get e5) hv hφ1 (dpa_set (dp_mono l2.f _ _ (vd_op q1 e2)) n hD1)
      rw [← hh]
      exact k σ w3 l3 R3 ((k1.trans k2).trans k3).kp
  | _ => cases e
theorem lift_unp {me : M} {t : Tgt} {g : TG} {D' : Ends} {σ : St} {H : Hp} (ht : TgtOk c g t) (h : liftS c (mUnp me t) D' σ H) : tAsg (liftE c (mFz me)) g D' σ H := by
  obtain ⟨w, s, rfl, R, out, e, k⟩ := h
  obtain ⟨⟨o1, s1⟩, e1, e⟩ := bnd e
  obtain ⟨d, e2, e⟩ := bnd e
  obtain ⟨s2, e3, e⟩ := bnd e
  cases e
  refine ⟨w, s, rfl, R, o1, s1, e1, fun v1 w1 l1 R1 k1 q1 => ?_⟩
  exact ht w w1 σ s1 s2 v1 d l1 R1 (vd_op q1 e2) e3 _ fun σ' w' _ l' R' k' => k σ' w' l' R' (k1.kp.trans k')
/-- isinstance(e, T), a built-in class -/
def tyD : D → String
  | .none => "NoneType"
  | .bool _ => "bool"
  | .int _ => "int"
  | .str _ => "str"
  | .list _ => "list"
  | .tuple _ => "tuple"
  | .dict _ => "dict"
def fIsi (T : String) (d : D) : Option Res := (kitB (tyD d) T).bind fun b => some (.d (.bool b))
theorem ty_dp {w : W} {v : V} {d : D} (sb : Sub w.F w.H) (h : VD (K := K) w v d) : TyX K w.H v (.type (tyD d)) := by
  have h := h.dp sb
  cases h with
  | non => exact .base .non
  | bl b => exact .base (.bl b)
  | int i => exact .base (.int i)
  | str x => exact .base (.str x)
  | lst h1 h2 =>
    rcases h1 with (h1 | ⟨o, h1⟩) | ⟨o, its, n, h1, h2, _⟩
    · exact .base (.lst h1)
    · exact .base (.frz h1)
    · exact .kList h1 h2
  | tup h1 h2 =>
    rcases h1 with (h1 | ⟨o, h1⟩) | ⟨o, its, n, h1, h2, _⟩
    · exact .base (.tup h1)
    · exact .fTuple h1
    · exact .kTuple h1 h2
theorem lift_isi {T : String} {m : M} {σ : St} {H : Hp} {Q : VK} (h : liftE c (mUn (fIsi T) m) σ H Q) : tCB (rIsi K) (tCons (liftE c m) (tCons (tC (.ty T)) tNil)) σ H Q := by
  obtain ⟨w, s, rfl, R, o, s', e, k⟩ := h
  obtain ⟨⟨o1, s1⟩, e1, e⟩ := bnd e
  obtain ⟨d, e2, e⟩ := bnd e
  obtain ⟨res, e3, e⟩ := bnd e
  obtain ⟨b, e4, e5⟩ := bnd e3
  cases e5
  cases e
  refine ⟨w, s, rfl, R, o1, s1, e1, fun v1 w1 l1 R1 k1 q1 => ?_⟩
  exact ⟨v1, .ty T, _, _, b, rfl, .ty T, ty_dp R1.sub (R1.view q1 e2), kit_ty e4, k _ w1 l1 R1 k1 (.bl b)⟩
/-- a list told by its own object -/
def cLn (s : List Slot) (o : Op) : Option (List D) := (cC s o).bind fun k => match k with
  | .lst ds => some ds
  | _ => none
theorem Rel.viewL {B : Hp} {w : W} {σ : St} {s : List Slot} {o : Op} {v : V} {ds : List D} (R : Rel c w σ s) (h : RepO c B w σ o v) (e : cLn s o = some ds) : ∃ a xs, v = .ref a ∧ w.H a = some (.lst xs) ∧ DpAll K w.F xs ds := by
  obtain ⟨k, e1, e2⟩ := bnd e
  obtain ⟨fp, h1⟩ := R.viewC h e1
  cases k with
  | lst ds' =>
    cases e2
    obtain ⟨a, xs, rfl, _, h2, h3⟩ := h1
    exact ⟨a, xs, rfl, h2, h3⟩
  | _ => cases e2
/-- xs * n -/
def mRep (ma mb : M) : M := fun s => (ma s).bind fun p => (mb p.2).bind fun q => (cLn q.2 p.1).bind fun ds => (cD q.2 q.1).bind fun e => match e with
  | .int n => if -(2 ^ 63) ≤ n ∧ n < 2 ^ 63 ∧ ds.length * n.toNat ≤ 100000 then some (.nw (.lst (List.replicate n.toNat ds).flatten), q.2) else none
  | _ => none
theorem dpa_rep {F : Hp} {xs : List V} {ds : List D} (h : DpAll K F xs ds) : ∀ n : Nat, DpAll K F (List.replicate n xs).flatten (List.replicate n ds).flatten
  | 0 => .nil
  | n + 1 => by
    rw [List.replicate_succ, List.replicate_succ, List.flatten_cons, List.flatten_cons]
    exact dpa_app h (dpa_rep h n)
theorem lift_rep {ma mb : M} {σ : St} {H : Hp} {Q : VK} (h : liftE c (mRep ma mb) σ H Q) : tOp rRep (liftE c ma) (liftE c mb) σ H Q := by
  obtain ⟨w, s, rfl, R, o, s', e, k⟩ := h
  obtain ⟨⟨o1, s1⟩, e1, e⟩ := bnd e
  obtain ⟨⟨o2, s2⟩, e2, e⟩ := bnd e
  obtain ⟨ds, e3, e⟩ := bnd e
  obtain ⟨d2, e4, e⟩ := bnd e
  cases d2 with
  | int n =>
    have e : (if -(2 ^ 63) ≤ n ∧ n < 2 ^ 63 ∧ ds.length * n.toNat ≤ 100000 then some (Op.nw (.lst (List.replicate n.toNat ds).flatten), s2) else none) = some (o, s') := e
    split at e
    · rename_i hn
      cases e
      refine ⟨w, s, rfl, R, o1, s1, e1, fun v1 w1 l1 R1 k1 q1 => ?_⟩
      refine ⟨w1, s1, rfl, R1, o2, _, e2, fun v2 w2 l2 R2 k2 q2 => ?_⟩
      obtain ⟨a, xs, rfl, h1, h2⟩ := R2.viewL (q1.go l2) e3
      have ev : v2 = .int n := vd_int (R2.view q2 e4)
      subst ev
      refine ⟨a, n, xs, rfl, rfl, h1, hn.1, hn.2.1, Evl.sz_of (by rw [dpa_len h2]; exact hn.2.2), fun p hp => ?_⟩
      exact Fin.lst R2.sub (Fin.go R2 (r := .nl _) fun v w' l' R' q => k v w' ((l1.trans l2).trans l') R' (k1.trans k2) (q.back (l1.trans l2))) (dpa_rep h2 n.toNat) hp
    · cases e
  | _ => cases e
/-- xs + ys -/
def mCat (ma mb : M) : M := fun s => (ma s).bind fun p => (mb p.2).bind fun q => (cLn q.2 p.1).bind fun ds => (cLn q.2 q.1).bind fun es => if ds.length + es.length ≤ 100000 then some (.nw (.lst (ds ++ es)), q.2) else none
theorem lift_cat {ma mb : M} {σ : St} {H : Hp} {Q : VK} (h : liftE c (mCat ma mb) σ H Q) : tOp rCat (liftE c ma) (liftE c mb) σ H Q := by
  obtain ⟨w, s, rfl, R, o, s', e, k⟩ := h
  obtain ⟨⟨o1, s1⟩, e1, e⟩ := bnd e
  obtain ⟨⟨o2, s2⟩, e2, e⟩ := bnd e
  obtain ⟨ds, e3, e⟩ := bnd e
  obtain ⟨es, e4, e⟩ := bnd e
  have e : (if ds.length + es.length ≤ 100000 then some (Op.nw (.lst (ds ++ es)), s2) else none) = some (o, s') := e
  split at e
  · rename_i hn
    cases e
    refine ⟨w, s, rfl, R, o1, s1, e1, fun v1 w1 l1 R1 k1 q1 => ?_⟩
    refine ⟨w1, s1, rfl, R1, o2, _, e2, fun v2 w2 l2 R2 k2 q2 => ?_⟩
    obtain ⟨a, xs, rfl, h1, h2⟩ := R2.viewL (q1.go l2) e3
    obtain ⟨b, ys, rfl, h3, h4⟩ := R2.viewL q2 e4
    refine ⟨a, b, xs, ys, rfl, rfl, h1, h3, Evl.sz_of (by rw [dpa_len h2, dpa_len h4]; exact hn), fun p hp => ?_⟩
    exact Fin.lst R2.sub (Fin.go R2 (r := .nl _) fun v w' l' R' q => k v w' ((l1.trans l2).trans l') R' (k1.trans k2) (q.back (l1.trans l2))) (dpa_app h2 h4) hp
  · cases e
/-- {k: n, ..}.get(e, f) with texts and numbers written -/
def kvK (kv : List (Str × Int)) : List (Key × V) := kv.map fun p => (Sum.inr p.1, V.int p.2)
def getS : List (Str × Int) → Str → Option Int
  | [], _ => none
  | p :: r, x => if p.1 = x then some p.2 else getS r x
theorem valV_kvK (x : Str) : ∀ kv : List (Str × Int), valV (kvK kv) (Sum.inr x) = (getS kv x).map V.int
  | [] => rfl
  | p :: r => by
    unfold getS
    by_cases h : p.1 = x
    · rw [if_pos h]
      show valV ((Sum.inr p.1, V.int p.2) :: kvK r) (Sum.inr x) = _
      rw [valV_pos (by rw [h])]
      rfl
    · rw [if_neg h]
      show valV ((Sum.inr p.1, V.int p.2) :: kvK r) (Sum.inr x) = _
      rw [valV_neg (fun z => h (Sum.inr.inj z))]
      exact valV_kvK x r
def iD : D → Option Int
  | .int n => some n
  | _ => none
def getD2 (kv : List (Str × Int)) (x : Str) (z : D) : Option Int := match getS kv x with
  | some n => some n
  | none => iD z
def mGetS (kv : List (Str × Int)) (me mf : M) : M := fun s => (me s).bind fun p => (mf p.2).bind fun q => (cD q.2 p.1).bind fun d => (cD q.2 q.1).bind fun z => match d with
  | .str x => (getD2 kv x z).bind fun n => some (.v (.int n), q.2)
  | _ => none
def trK (kv : List (Str × Int)) : List (TE × TE) := kv.map fun p => (tC (.str p.1), tC (.int p.2))
theorem pairs_k {σ : St} {H : Hp} : ∀ (kv : List (Str × Int)) {Q : List (V × V) → Hp → Prop}, Q (kv.map fun p => (V.str p.1, V.int p.2)) H → tPairs (trK kv) σ H Q
  | [], _, h => h
  | p :: r, Q, h => pairs_k r (Q := fun ps H3 => Q ((V.str p.1, V.int p.2) :: ps) H3) h
theorem lift_getS {kv : List (Str × Int)} {me mf : M} {σ : St} {H : Hp} {Q : VK} (hm : mergeK [] (kvK kv) = kvK kv) (h15 : kv.length ≤ 15) (h : liftE c (mGetS kv me mf) σ H Q) : tDGet2 (tDisp (trK kv)) (liftE c me) (liftE c mf) σ H Q := by
  obtain ⟨w, s, rfl, R, o, s', e, k⟩ := h
  obtain ⟨⟨o1, s1⟩, e1, e⟩ := bnd e
  obtain ⟨⟨o2, s2⟩, e2, e⟩ := bnd e
  obtain ⟨d, e3, e⟩ := bnd e
  obtain ⟨z, e4, e⟩ := bnd e
  refine fun p hp => pairs_k kv ⟨upd_same, kvK kv, ?_, ?_, ?_⟩
  · unfold kvK
    rw [List.map_map]
    rfl
  · unfold kvK
    rw [List.length_map]
    exact h15
  · rw [hm]
    have e0 : upd (upd w.H p (.dK [])) p (.dK (kvK kv)) = upd w.H p (.dK (kvK kv)) := upd_upd
    rw [e0]
    have g := gr_lay (x := .dK (kvK kv)) R.sub hp
    refine ⟨p, rfl, .inl ⟨_, .inl upd_same⟩, ?_⟩
    refine ⟨_, s, rfl, R.grow g, o1, s1, e1, fun v1 w1 l1 R1 k1 q1 => ?_⟩
    refine ⟨w1, s1, rfl, R1, o2, s2, e2, fun v2 w2 l2 R2 k2 q2 => ?_⟩
    have np := R.no_of hp
    have hp2 : w2.H p = some (.dK (kvK kv)) := ((l1.trans l2).h p _ upd_same np).1
    cases d with
    | str x =>
      have ev : v1 = .str x := vd_str (R2.view (q1.go l2) e3)
      subst ev
      refine ⟨valV (kvK kv) (Sum.inr x), .inl ⟨kvK kv, Sum.inr x, .inl hp2, rfl, rfl⟩, ?_⟩
      rw [valV_kvK]
      obtain ⟨n, e5, e6⟩ := bnd (x := getD2 kv x z) e
      cases e6
      have lw : Le w w2 := (g.le.trans l1).trans l2
      have fin : ∀ u : V, u = .int n → Q u w2.H := fun u hu => by
        subst hu
        exact k _ w2 lw R2 (k1.trans k2) (.int n)
      unfold getD2 at e5
      cases hg : getS kv x with
      | some m =>
        rw [hg] at e5
        cases e5
        exact fin _ rfl
      | none =>
        rw [hg] at e5
        cases z with
        | int m =>
          cases e5
          exact fin _ (vd_int (R2.view q2 e4))
        | _ => cases e5
    | _ => cases e
end
section
variable {X : Cx} {c : Cfg X.K} {pos apos cpos p px : Pos} {x : Str} {e a b f : Expr} {me ma mb mf mj : M} {i : Nat}
theorem she_app (hx : PE X (.Name x px) (tVar i)) (he : PE X e (liftE c me)) (h : PE X (.Call (.Attribute (.Name x px) "append" apos) [e] [] cpos) (tBM X.K "list" rAppend (tVar i) (tCons (liftE c (mFz me)) tNil))) : PE X (.Call (.Attribute (.Name x px) "append" apos) [e] [] cpos) (liftE c (mApp i me)) := h.imp fun _ _ _ q => lift_app q
theorem she_rep (ha : PE X a (liftE c ma)) (hb : PE X b (liftE c mb)) : PE X (.BinOp a .Mult b pos) (liftE c (mRep ma mb)) := (pe_op op_rep ha hb).imp fun _ _ _ h => lift_rep h
theorem she_cat (ha : PE X a (liftE c ma)) (hb : PE X b (liftE c mb)) : PE X (.BinOp a .Add b pos) (liftE c (mCat ma mb)) := (pe_op op_cat ha hb).imp fun _ _ _ h => lift_cat h
theorem shs_setI (ho : PE X a (tVar i)) (hj : PE X b (liftE c mj)) (he : PE X e (liftE c me)) (h : PS X (.Assign [.Subscript a b p] e pos) (tAsg (liftE c (mFz me)) (gSub (tVar i) (liftE c mj) rSetL))) : PS X (.Assign [.Subscript a b p] e pos) (liftS c (mSetI i mj me)) := h.imp fun _ _ _ q => lift_setI q
end
end Sh
-- Sh9.lean
set_option Elab.async false
set_option linter.all false
set_option maxRecDepth 100000
set_option maxHeartbeats 1000000
/-! Sh9: sums of any kind, what is walked of any kind, the ends. -/
namespace Sh
open PySem L2
section
variable {K : PySem.W.Frag} {c : Cfg K}
/-- ints, texts, tuples -/
def fAdd (d e : D) : Option Res := match d, e with
  | .int i, .int j => some (.d (.int (i + j)))
  | .str x, .str y => if x.length + y.length ≤ 100000 then some (.d (.str (x ++ y))) else none
  | .tuple xs, .tuple ys => if xs.length + ys.length ≤ 100000 then some (.d (.tuple (xs ++ ys))) else none
  | _, _ => none
def rAddU (K : PySem.W.Frag) : R2 := fun x y H Q => (∃ i j, x = .int i ∧ y = .int j ∧ Q (.int (i + j)) H) ∨ ((∃ i j, x = .str i ∧ y = .str j ∧ i.length + j.length ≤ sizeLine ∧ Q (.str (i ++ j)) H) ∨ rCatA K x y H Q)
theorem op_addU {X : Cx} : OpR X (binaryOp .Add) (rAddU X.K) := OpR.or op_add (OpR.or op_add_str op_catA)
theorem sem_add : Sem2 K (rAddU K) fAdd := fun w x y d e res sb vx vy q Q k => by
  unfold fAdd at q
  split at q
  · cases q
    exact .inl ⟨_, _, vd_int vx, vd_int vy, k.val sb (.int _)⟩
  · split at q
    · rename_i hz
      cases q
      exact .inr (.inl ⟨_, _, vd_str vx, vd_str vy, Evl.sz_of hz, k.val sb (.str _)⟩)
    · cases q
  · split at q
    · rename_i hz
      cases q
      obtain ⟨a, xs, rfl, h1, h2⟩ := vd_tup vx
      obtain ⟨b, ys, rfl, h3, h4⟩ := vd_tup vy
      have hd := dpa_app h2 h4
      refine .inr (.inr ⟨a, b, xs, ys, rfl, rfl, sqT_mono sb h1, sqT_mono sb h3, Evl.sz_of (by rw [dpa_len h2, dpa_len h4]; exact hz), fun e1 => ?_, fun _ e1 => ?_, fun _ _ p hp => k.tup sb hd hp⟩)
      · subst e1
        exact k.val sb (.tup h3 hd)
      · subst e1
        rw [List.append_nil] at hd
        exact k.val sb (.tup h1 hd)
    · cases q
  · cases q
/-! ### walks of a list or a tuple -/
def iSeq (K : PySem.W.Frag) (tl : TE) : TI := fun σ H R => iList K tl σ H R ∨ iTup K tl σ H R
theorem pi_seq {X : Cx} {tg l : Expr} {tl : TE} (hl : PE X l tl) : PI X tg l (iSeq X.K tl) := ⟨fun pins s σ H R I h => by
  rcases h with h | h
  · exact (pi_list hl).run pins s σ H R I h
  · exact (pi_tup hl).run pins s σ H R I h⟩
theorem lift_forS {ml : M} {g : TG} {t : Tgt} {mb : MS} {D' : Ends} {σ : St} {H : Hp} (hg : TgtOk c g t) (h : liftS c (mFor seqD ml t mb) D' σ H) : tFor (iSeq K (liftE c (mFz ml))) g (liftS c mb) D' σ H := by
  obtain ⟨w, s, rfl, R, out, e, k⟩ := h
  obtain ⟨⟨o1, s1⟩, e1, e⟩ := bnd e
  obtain ⟨d, e2, e⟩ := bnd e
  obtain ⟨ds, e3, e⟩ := bnd e
  have back : ∀ sel : D → Option (List D), sel d = some ds → liftS c (mFor sel ml t mb) D' σ w.H := fun sel hs => ⟨w, s, rfl, R, out, by
    show ((mFz ml s).bind fun p => (cD p.2 p.1).bind fun d => (sel d).bind fun ds => loopF t mb ds p.2) = some out
    rw [e1]
    show ((cD s1 o1).bind fun d => (sel d).bind fun ds => loopF t mb ds s1) = some out
    rw [show cD s1 o1 = some d from e2]
    show ((sel d).bind fun ds => loopF t mb ds s1) = some out
    rw [hs]
    exact e, k⟩
  cases d with
  | list _ =>
    cases e3
    exact .inl (lift_forL hg (back selL rfl))
  | tuple _ =>
    cases e3
    exact .inr (lift_forT hg (back selT rfl))
  | _ => cases e3
theorem lift_lcS {ml : M} {g : TG} {t : Tgt} {ts vs : List Nat} {mt : MT} {me : M} {σ : St} {H : Hp} {Q : VK} (hg : TgtC c g t ts) (hts : ∀ i ∈ ts, i ∈ vs) (h : liftE c (mLc seqD ml t mt me vs) σ H Q) : tLc (iSeq K (liftE c (mFz ml))) g (liftT c mt) (liftE c (mFz me)) vs σ H Q := by
  obtain ⟨w, s, rfl, R, o, s', e, k⟩ := h
  obtain ⟨⟨o1, s1⟩, e1, e⟩ := bnd e
  obtain ⟨d, e2, e⟩ := bnd e
  obtain ⟨ds, e3, e⟩ := bnd e
  have back : ∀ sel : D → Option (List D), sel d = some ds → liftE c (mLc sel ml t mt me vs) σ w.H Q := fun sel hs => ⟨w, s, rfl, R, o, s', by
    show ((mFz ml s).bind fun p => (cD p.2 p.1).bind fun d => (sel d).bind fun ds => (unw vs p.2).bind fun s2 => (loopC t mt me vs ds s2).bind fun z => endC vs p.2 z) = some (o, s')
    rw [e1]
    show ((cD s1 o1).bind fun d => (sel d).bind fun ds => (unw vs s1).bind fun s2 => (loopC t mt me vs ds s2).bind fun z => endC vs s1 z) = some (o, s')
    rw [show cD s1 o1 = some d from e2]
    show ((sel d).bind fun ds => (unw vs s1).bind fun s2 => (loopC t mt me vs ds s2).bind fun z => endC vs s1 z) = some (o, s')
    rw [hs]
    exact e, k⟩
  cases d with
  | list _ =>
    cases e3
    exact .inl (lift_lcL hg hts (back selL rfl))
  | tuple _ =>
    cases e3
    exact .inr (lift_lcT hg hts (back selT rfl))
  | _ => cases e3
/-- without the tables of codes -/
def noTab (H : Hp) : Hp := fun a => match H a with
  | some (.tbl _) => none
  | x => x
theorem noTab_sub (H : Hp) : Sub (noTab H) H := fun a o h => by
  unfold noTab at h
  split at h
  · cases h
  · exact h
theorem noTab_at {H : Hp} {P : Addr} (h : GxR.TabG H P) : noTab H P = none := by
  obtain ⟨ps, h1, _⟩ := h
  unfold noTab
  rw [h1]
theorem noTab_eq {H : Hp} {a : Addr} {o : HO} (h : H a = some o) (n : ∀ ps, o ≠ .tbl ps) : noTab H a = some o := by
  unfold noTab
  rw [h]
  split
  · rename_i ps e
    exact absurd (Option.some.inj e) (n ps)
  · rfl
theorem noTab_l {H : Hp} {a : Addr} {xs : List V} (h : SqL K H a xs) : SqL K (noTab H) a xs := by
  rcases h with (h | ⟨o, h⟩) | h
  · exact .inl (.inl (noTab_eq h (fun _ z => nomatch z)))
  · exact .inl (.inr ⟨o, noTab_eq h (fun _ z => nomatch z)⟩)
  · exact .inr h
/-- a law's own def, at its script -/
def spLaw (K : PySem.W.Frag) (T : List Addr) : Sp := fun vs H Q _ => ∃ (a : Addr) (ns : List Int), vs = [.ref a] ∧ SqL K H a (ns.map V.int) ∧ ns.length ≤ 63 ∧ (∀ P ∈ T, GxR.TabG H P) ∧ ∀ H', Q (.bl true) H'
theorem law_end {f : SemF} (h : ∀ ns : List Int, ns.length ≤ 63 → ∃ ss', f [.fz (.list (ns.map PyData.int))] = some (.v (.bool true), ss')) : ∀ vs H Q E, spLaw K c.T vs H Q E → spF c 1 f vs H Q E := fun vs H Q E q => by
  obtain ⟨a, ns, rfl, hS, hl, hT, q⟩ := q
  obtain ⟨ss', e⟩ := h ns hl
  refine ⟨rfl, ⟨noTab H, H, fun _ => [], c.T⟩, [.fz (.list (ns.map PyData.int))], rfl, ⟨rfl, noTab_sub H, (fun _ _ h => nomatch h), fun i d hi => ?_, fun i p k hi => ?_, (fun _ _ _ h => nomatch h), fun _ _ => rfl, ⟨fun _ h => h, fun P h => ⟨hT P h, noTab_at (hT P h), fun _ h => nomatch h⟩⟩⟩, _, ss', e, (fun i z => nomatch z), fun v w' l R' ho => ?_⟩
  · cases i with
    | zero =>
      cases hi
      exact ⟨.ref a, rfl, .lst (noTab_l hS) (dpAll_of_ints ns)⟩
    | succ i => cases hi
  · cases i with
    | zero => cases hi
    | succ i => cases hi
  · have z : Dp K w'.F v (.bool true) := ho
    cases z
    exact q _
def noCfg (K : PySem.W.Frag) : Cfg K := ⟨0, fun _ => 0, []⟩
end
end Sh
-- Sh10.lean
set_option Elab.async false
set_option linter.all false
set_option maxRecDepth 100000
/-! Sh10: the built-ins' names. -/
namespace Sh
open PySem L2
theorem bb_len : bootBuiltins "len" = some (.builtin "len") := by decide +kernel
theorem bb_isinstance : bootBuiltins "isinstance" = some (.builtin "isinstance") := by decide +kernel
theorem bb_sum : bootBuiltins "sum" = some (.builtin "sum") := by decide +kernel
theorem bb_min : bootBuiltins "min" = some (.builtin "min") := by decide +kernel
theorem bb_max : bootBuiltins "max" = some (.builtin "max") := by decide +kernel
theorem bb_sorted : bootBuiltins "sorted" = some (.builtin "sorted") := by decide +kernel
theorem bb_int : bootBuiltins "int" = some (.type "int") := by decide +kernel
theorem bb_bool : bootBuiltins "bool" = some (.type "bool") := by decide +kernel
theorem bb_list : bootBuiltins "list" = some (.type "list") := by decide +kernel
theorem bb_tuple : bootBuiltins "tuple" = some (.type "tuple") := by decide +kernel
theorem bb_str : bootBuiltins "str" = some (.type "str") := by decide +kernel
theorem bb_dict : bootBuiltins "dict" = some (.type "dict") := by decide +kernel
section
variable {X : Cx} {c : Cfg X.K} {pos : Pos} {a b : Expr} {ma mb : M}
theorem sht_cmp {op : CmpOp} {r : R2} {f : D → D → Option Res} (ho : OpR X (compareOp op) r) (hs : Sem2 X.K r f) (ha : PE X a (liftE c ma)) (hb : PE X b (liftE c mb)) (hm : behindInMarks op b = false) : PT X (.Compare a [op] [b] pos) (liftT c (mTst (mBin f ma mb))) :=
  (pt_cmpR ho ha hb hm).imp fun _ _ _ q => lift_bin hs (lift_tst q)
end
end Sh
-- Sh11.lean
set_option Elab.async false
set_option linter.all false
set_option maxRecDepth 100000
set_option maxHeartbeats 1000000
/-! Sh11: a local name that holds one of several defs. -/
namespace Sh
open PySem L2
section
variable {K : PySem.W.Frag} {c : Cfg K} {w w' : W} {σ : St} {s s' : List Slot}
/-- what a slot without a word holds does not matter -/
theorem Rel.setU (R : Rel c w σ s) {i : Nat} {x : Option V} (h : s[i]? = some .un) : Rel c w (σ.set i x) s := by
  have ne : ∀ (j : Nat) (y : Slot), s[j]? = some y → y ≠ .un → i ≠ j := fun j y hj hy z => by
    subst z
    rw [h] at hj
    cases hj
    exact hy rfl
  refine ⟨by rw [List.length_set]; exact R.len, R.sub, R.out, fun j d hj => ?_, fun j p k hj => ?_, R.dis, R.non, R.tb⟩
  · obtain ⟨v, h1, h2⟩ := R.fz j d hj
    exact ⟨v, by rw [List.getElem?_set_ne (ne j _ hj fun z => nomatch z)]; exact h1, h2⟩
  · obtain ⟨v, h1, h2⟩ := R.ow j p k hj
    exact ⟨v, by rw [List.getElem?_set_ne (ne j _ hj fun z => nomatch z)]; exact h1, h2⟩
end
/-- a def under a word of a written table -/
structure Wk (P : Program) (w : World) (K : PySem.W.Frag) (mg : Str → Option Value) (base : Heap) (c : Cfg K) (k : Nat) (WK : Addr) (x : Str) (f : SemF) : Prop where
  ex : ∃ (fa : Addr), Held P w K mg base k fa (spF c 1 f) ∧ KDct K w WK x (.ref fa)
def tCallR (i : Nat) (S : Addr → Sp → Prop) (t : TA) : TE := fun σ H Q => ∃ f sp, σ[i]? = some (some (.ref f)) ∧ S f sp ∧ t σ H fun vs H1 => sp (vs ++ []) H1 Q fun _ _ _ => False
section
variable {X : Cx} {c : Cfg X.K} {k i : Nat} {x : Str} {p pos : Pos} {e : Expr} {t : TA}
theorem pe_callR {S : Addr → Sp → Prop} (A : ∀ f sp, S f sp → Held X.prog X.w X.K X.mg X.base k f sp) (hr : Room k X.A) (hN : X.N[i]? = some x) (hv : Vis X.env.scope x) (ha : PA X [e] t)
    (hdb : (x == ("__debug__" : Str)) = false := by decide) (hcd : (x == ("__classdict__" : Str)) = false := by decide) (he : starEach [e] X.env = (false, eval e X.env) :: starEach [] X.env := by rfl) (hpl : (backTo pos (starEach [] X.env)).any (·.1) = false := by rfl) :
    PE X (.Call (.Name x p) [e] [] pos) (tCallR i S t) := ⟨fun pins s σ H Q I h => by
  obtain ⟨f, sp, h1, h2, h3⟩ := h
  obtain ⟨fd, ps, F, hk, hb⟩ := (A f sp h2).ex
  exact (pe_callL F hr hN hv hk hb .nil pass0 ha hdb hcd he hpl).run pins s σ H Q I ⟨h1, h3⟩⟩
def isUn : Option Slot → Bool
  | some .un => true
  | _ => false
/-- work = TABLE[e]; return work(x) -/
def mWork (j i : Nat) (fw : Str → Option SemF) (me : M) : MS := fun s => (me s).bind fun p => (cD p.2 p.1).bind fun d => match d with
  | .str x => (fw x).bind fun f => if isUn p.2[j]? = true then (mCallF f (mACons (mVar i) mANil) p.2).bind fun r => some (.rt r.1 r.2) else none
  | _ => none
theorem lift_work {K : PySem.W.Frag} {c : Cfg K} {P : Program} {w0 : World} {mg : Str → Option Value} {base : Heap} {WK : Addr} {j i : Nat} {fw : Str → Option SemF} {me : M} {D' : Ends} {σ : St} {H : Hp} (hw : ∀ x f, fw x = some f → Wk P w0 K mg base c k WK x f)
    (h : liftS c (mWork j i fw me) D' σ H) : tSeq (tAsg (tOp (rIxD K w0) (tC (.ref WK)) (liftE c me)) (gName j)) (tRet (tCallR j (fun f sp => Held P w0 K mg base k f sp) (liftA c (mACons (mVar i) mANil)))) D' σ H := by
  obtain ⟨w, s, rfl, R, out, e, kk⟩ := h
  obtain ⟨⟨o1, s1⟩, e1, e⟩ := bnd e
  obtain ⟨d, e2, e⟩ := bnd e
  cases d with
  | str x =>
    obtain ⟨f, e3, e⟩ := bnd (x := fw x) e
    split at e
    · rename_i hu
      obtain ⟨⟨o, s2⟩, e4, e⟩ := bnd e
      cases e
      refine ⟨w, s, rfl, R, o1, s1, e1, fun v1 w1 l1 R1 k1 q1 => ?_⟩
      have ev : v1 = .str x := vd_str (R1.view q1 e2)
      obtain ⟨fa, hH, hD⟩ := (hw x f e3).ex
      refine ⟨WK, x, .ref fa, rfl, ev, hD, ?_⟩
      have hun : s1[j]? = some .un := by
        unfold isUn at hu
        split at hu
        · assumption
        · cases hu
      have hl : j < σ.length := by
        rw [R1.len]
        exact (List.getElem?_eq_some_iff.mp hun).1
      have R1' : Rel c w1 (σ.set j (some (.ref fa))) s1 := R1.setU hun
      refine ⟨fa, spF c 1 f, List.getElem?_set_self hl, hH, ?_⟩
      refine lift_callF (f := f) (ma := mACons (mVar i) mANil) (len_cons len_nil) ⟨w1, s1, rfl, R1', o, s2, e4, fun v w2 l2 R2 k2 q2 => ?_⟩
      refine kk v _ w2 (l1.trans l2) R2 (fun n kc hn => ?_) (q2.back l1)
      obtain ⟨kc', h2⟩ := k2 n kc hn
      obtain ⟨kc2, h3⟩ := k1 n kc' h2
      refine ⟨?_, kc2, h3⟩
      refine List.getElem?_set_ne fun z => ?_
      subst z
      rw [hun] at h2
      cases h2
    · cases e
  | _ => cases e
end
end Sh
-- Sh12.lean
set_option Elab.async false
set_option linter.all false
set_option maxRecDepth 100000
set_option maxHeartbeats 1000000
/-! Sh12: slices, a chain as a test, numbers from a to b. -/
namespace Sh
open PySem L2
/-! ### slices -/
abbrev MO := List Slot → Option (Option Int × List Slot)
def mNoPart : MO := fun s => some (none, s)
def mPart (m : M) : MO := fun s => (m s).bind fun p => (cD p.2 p.1).bind fun d => match d with
  | .int i => some (some i, p.2)
  | _ => none
def cutD (ds : List D) (lo hi : Option Int) : List D := (ds.drop (HT.sIx ds.length 0 lo)).take (HT.sIx ds.length ds.length hi - HT.sIx ds.length 0 lo)
def fSl (d : D) (lo hi : Option Int) : Option Res := match d with
  | .list ds => some (.nl (cutD ds lo hi))
  | .tuple ds => some (.d (.tuple (cutD ds lo hi)))
  | .str z => if z.length ≤ 100000 then some (.d (.str (cutS z lo hi))) else none
  | _ => none
def mSl (ma : M) (ml mh : MO) : M := fun s => (ma s).bind fun p => (ml p.2).bind fun l => (mh l.2).bind fun h => (cD h.2 p.1).bind fun d => (fSl d l.1 h.1).bind fun r => some (r.op, h.2)
section
variable {K : PySem.W.Frag} {c : Cfg K} {σ : St}
def liftO (c : Cfg K) (m : MO) : TO := fun σ H Q => ∃ w s, w.H = H ∧ Rel c w σ s ∧ ∃ b s', m s = some (b, s') ∧ ∀ w', Le w w' → Rel c w' σ s' → Keep s s' → Q b w'.H
theorem lift_noPart {H : Hp} {Q : Option Int → Hp → Prop} (h : liftO c mNoPart σ H Q) : tNoPart σ H Q := by
  obtain ⟨w, s, rfl, R, o, s', e, k⟩ := h
  cases e
  exact k w (Le.refl w) R (Keep.refl _)
theorem lift_part {ma : M} {H : Hp} {Q : Option Int → Hp → Prop} (h : liftO c (mPart ma) σ H Q) : tPart (liftE c ma) σ H Q := by
  obtain ⟨w, s, rfl, R, o, s', e, k⟩ := h
  obtain ⟨⟨o1, s1⟩, e1, e⟩ := bnd e
  obtain ⟨d, e2, e⟩ := bnd e
  refine ⟨w, s, rfl, R, o1, s1, e1, fun v1 w1 l1 R1 k1 q1 => ?_⟩
  cases d with
  | int i =>
    cases e
    exact ⟨i, vd_int (R1.view q1 e2), k w1 l1 R1 k1⟩
  | _ => cases e
def rSlAll (K : PySem.W.Frag) : V → Option Int → Option Int → Hp → VK → Prop := fun x lo hi H Q => rSlL K x lo hi H Q ∨ (rSlA K x lo hi H Q ∨ rSlS x lo hi H Q)
theorem sl_all {X : Cx} : SlR X (rSlAll X.K) := SlR.or sl_list (SlR.or sl_tupA sl_str)
theorem dpa_cut {F : Hp} {xs : List V} {ds : List D} (h : DpAll K F xs ds) (lo hi : Option Int) : DpAll K F (cutV xs lo hi) (cutD ds lo hi) := by
  unfold cutV cutD
  rw [dpa_len h]
  exact dpa_take _ (dpa_drop _ h)
theorem cutD_all {ds : List D} {lo hi : Option Int} (h : HT.sIx ds.length 0 lo = 0 ∧ HT.sIx ds.length ds.length hi = ds.length) : cutD ds lo hi = ds := by
  unfold cutD
  rw [h.1, h.2, List.drop_zero, Nat.sub_zero, List.take_length]
theorem lift_sl {ma : M} {ml mh : MO} {H : Hp} {Q : VK} (h : liftE c (mSl ma ml mh) σ H Q) : tSl (rSlAll K) (liftE c ma) (liftO c ml) (liftO c mh) σ H Q := by
  obtain ⟨w, s, rfl, R, o, s', e, k⟩ := h
  obtain ⟨⟨o1, s1⟩, e1, e⟩ := bnd e
  obtain ⟨⟨lo, s2⟩, e2, e⟩ := bnd e
  obtain ⟨⟨hi, s3⟩, e3, e⟩ := bnd e
  obtain ⟨d, e4, e⟩ := bnd e
  obtain ⟨res, e5, e⟩ := bnd e
  cases e
  refine ⟨w, s, rfl, R, o1, s1, e1, fun v1 w1 l1 R1 k1 q1 => ?_⟩
  refine ⟨w1, s1, rfl, R1, lo, s2, e2, fun w2 l2 R2 k2 => ?_⟩
  refine ⟨w2, s2, rfl, R2, hi, s3, e3, fun w3 l3 R3 k3 => ?_⟩
  have vx := R3.view (q1.go (l2.trans l3)) e4
  have kk : Fin K w3 Q res := Fin.go R3 fun v w' l R' q => k v w' (((l1.trans l2).trans l3).trans l) R' ((k1.trans k2).trans k3) (q.back ((l1.trans l2).trans l3))
  have sb := R3.sub
  cases d with
  | list ds =>
    cases e5
    obtain ⟨a, xs, rfl, h1, h2⟩ := vx
    exact .inl ⟨a, xs, rfl, h1, fun p hp => kk.lst sb (dpa_cut h2 lo hi) hp⟩
  | tuple ds =>
    cases e5
    have vx0 := vx
    obtain ⟨a, xs, rfl, h1, h2⟩ := vd_tup vx
    refine .inr (.inl ⟨a, xs, rfl, sqT_mono sb h1, fun z => ?_, fun _ p hp => kk.tup sb (dpa_cut h2 lo hi) hp⟩)
    rw [dpa_len h2] at z
    refine kk.val sb ?_
    rw [cutD_all z]
    exact vx0
  | str z =>
    have e5 : (if z.length ≤ 100000 then some (Res.d (.str (cutS z lo hi))) else none) = some res := e5
    split at e5
    · rename_i hz
      cases e5
      exact .inr (.inr ⟨z, vd_str vx, Evl.sz_of hz, kk.val sb (.str _)⟩)
    · cases e5
  | _ => cases e5
end
section
variable {X : Cx} {c : Cfg X.K} {pos p2 : Pos} {e a b : Expr} {lo hi : Option Expr} {ma m : M} {ml mh : MO}
theorem _root_.L2.PO.imp {X : Cx} {e : Option Expr} {t t' : TO} (h : PO X e t) (i : ∀ σ H Q, t' σ H Q → t σ H Q) : PO X e t' := ⟨fun pins s σ H Q I q => h.run pins s σ H Q I (i _ _ _ q)⟩
theorem sho_none : PO X none (liftO c mNoPart) := po_none.imp fun _ _ _ h => lift_noPart h
theorem sho_some (h : PE X e (liftE c m)) : PO X (some e) (liftO c (mPart m)) := (po_some h).imp fun _ _ _ q => lift_part q
theorem she_sl (ha : PE X e (liftE c ma)) (hl : PO X lo (liftO c ml)) (hh : PO X hi (liftO c mh)) : PE X (.Subscript e (.Slice lo hi none p2) pos) (liftE c (mSl ma ml mh)) := (pe_slice sl_all ha hl hh).imp fun _ _ _ h => lift_sl h
end
/-! ### a chain -/
theorem lift_chain {K : PySem.W.Frag} {c : Cfg K} {r r' : R2} {f g : D → D → Option Res} {ma mb mc : M} {σ : St} {H : Hp} {Q : VK} (hs : Sem2 K r f) (hs' : Sem2 K r' g) (hint : ∀ d e r, f d e = some r → ∃ i j, d = .int i ∧ e = .int j)
    (q : liftE c (mChain f g ma mb mc) σ H Q) : tChain r r' (liftE c ma) (liftE c mb) (liftE c mc) σ H Q := by
  obtain ⟨w, s, rfl, R, o, s', e, k⟩ := q
  obtain ⟨⟨o1, s1⟩, e1, e⟩ := bnd e
  obtain ⟨⟨o2, s2⟩, e2, e⟩ := bnd e
  obtain ⟨d1, e3, e⟩ := bnd e
  obtain ⟨d2, e4, e⟩ := bnd e
  obtain ⟨res, e5, e⟩ := bnd e
  refine ⟨w, s, rfl, R, o1, s1, e1, fun v1 w1 l1 R1 k1 q1 => ?_⟩
  refine ⟨w1, s1, rfl, R1, o2, s2, e2, fun v2 w2 l2 R2 k2 q2 => ?_⟩
  refine hs w2 v1 v2 d1 d2 res R2.sub (R2.view (q1.go l2) e3) (R2.view q2 e4) e5 _ fun z w3 g3 hz => ?_
  cases res with
  | nl ds => cases e
  | d dd =>
    cases dd with
    | bool b =>
      have hz' : Dp K w3.F z (.bool b) := hz
      cases hz'
      refine ⟨b, rfl, ?_⟩
      have R3 := R2.grow g3
      cases b with
      | false =>
        cases e
        exact iteF (k _ w3 ((l1.trans l2).trans g3.le) R3 (k1.trans k2) (.bl false))
      | true =>
        obtain ⟨⟨o3, s3⟩, e6, e⟩ := bnd e
        obtain ⟨d3, e7, e⟩ := bnd e
        obtain ⟨res2, e8, e⟩ := bnd e
        cases e
        refine iteT ⟨w3, s2, rfl, R3, o3, _, e6, fun v3 w4 l4 R4 k4 q4 => ?_⟩
        obtain ⟨i, j, rfl, rfl⟩ := hint _ _ _ e5
        have zj : Dp K w2.F v2 (.int j) := R2.view q2 e4
        have zj4 : Dp K w4.F v2 (.int j) := dp_mono l4.f _ _ (dp_mono g3.f _ _ zj)
        exact hs' w4 v2 v3 (.int j) d3 res2 R4.sub zj4 (R4.view q4 e7) e8 _ (Fin.go R4 fun v w' l R' q => k v w' ((((l1.trans l2).trans g3.le).trans l4).trans l) R' ((k1.trans k2).trans k4) (q.back (((l1.trans l2).trans g3.le).trans l4)))
    | _ => cases e
/-! ### arguments, displays, calls of built-ins -/
theorem sht_chain {X : Cx} {c : Cfg X.K} {pos : Pos} {a b c3 : Expr} {ma mb mc : M} {op op' : CmpOp} {r r' : R2} {f g : D → D → Option Res} (ho : OpR X (compareOp op) r) (ho' : OpR X (compareOp op') r') (hs : Sem2 X.K r f) (hs' : Sem2 X.K r' g) (hint : ∀ d e r, f d e = some r → ∃ i j, d = .int i ∧ e = .int j)
    (ha : PE X a (liftE c ma)) (hb : PE X b (liftE c mb)) (hc : PE X c3 (liftE c mc)) (hm : lastMarks [op, op'] [b, c3] = false := by with_unfolding_all rfl) : PT X (.Compare a [op, op'] [b, c3] pos) (liftT c (mTst (mChain f g ma mb mc))) :=
  (pt_chain ho ho' ha hb hc hm).imp fun _ _ _ q => lift_chain hs hs' hint (lift_tst q)
/-! ### numbers from a up to b -/
section
variable {K : PySem.W.Frag} {c : Cfg K} {σ : St}
def rng2 (d e : D) : Option (Int × Int) := match d, e with
  | .int i, .int j => if (-(2 ^ 62) ≤ i ∧ i < 2 ^ 62) ∧ (-(2 ^ 62) ≤ j ∧ j < 2 ^ 62) then some (i, j) else none
  | _, _ => none
theorem rng2_ok {d e : D} {p : Int × Int} (h : rng2 d e = some p) : d = .int p.1 ∧ e = .int p.2 ∧ (-(2 ^ 62) ≤ p.1 ∧ p.1 < 2 ^ 62 ∧ -(2 ^ 62) ≤ p.2 ∧ p.2 < 2 ^ 62) := by
  unfold rng2 at h
  split at h
  · split at h
    · rename_i hz
      cases h
      exact ⟨rfl, rfl, hz.1.1, hz.1.2, hz.2.1, hz.2.2⟩
    · cases h
  · cases h
def mRng2 (m n : M) : List Slot → Option ((Int × Int) × List Slot) := fun s => (m s).bind fun p => (n p.2).bind fun q => (cD q.2 p.1).bind fun d => (cD q.2 q.1).bind fun e => (rng2 d e).bind fun r => some (r, q.2)
theorem rng2_lift {m n : M} {w : W} {s s2 : List Slot} {p : Int × Int} (R : Rel c w σ s) (h : mRng2 m n s = some (p, s2)) {Q : List V → Hp → Prop} (hq : ∀ w', Le w w' → Rel c w' σ s2 → Keep s s2 → (-(2 ^ 62) ≤ p.1 ∧ p.1 < 2 ^ 62 ∧ -(2 ^ 62) ≤ p.2 ∧ p.2 < 2 ^ 62) → Q [.int p.1, .int p.2] w'.H) : liftA c (mACons m (mACons n mANil)) σ w.H Q := by
  obtain ⟨⟨o1, s1⟩, e1, e⟩ := bnd h
  obtain ⟨⟨o2, s3⟩, e2, e⟩ := bnd e
  obtain ⟨d1, e3, e⟩ := bnd e
  obtain ⟨d2, e4, e⟩ := bnd e
  obtain ⟨r, e5, e⟩ := bnd e
  cases e
  obtain ⟨rfl, rfl, hz⟩ := rng2_ok e5
  refine ⟨w, s, rfl, R, [o1, o2], s3, ?_, fun vs w1 l1 R1 k1 q1 => ?_⟩
  · unfold mACons mANil
    rw [e1]
    show ((n s1).bind fun p => _).bind _ = _
    rw [e2]
    rfl
  · cases q1 with
    | cons h1 h2 =>
      cases h2 with
      | cons h3 h4 =>
        cases h4
        have z1 : Dp K w1.F _ (.int p.1) := R1.view h1 e3
        have z2 : Dp K w1.F _ (.int p.2) := R1.view h3 e4
        cases z1
        cases z2
        exact hq w1 l1 R1 k1 hz
def mForR2 (m n : M) (t : Tgt) (mb : MS) : MS := fun s => (mRng2 m n s).bind fun p => loopF t mb (rngD p.1.1 (p.1.2 - p.1.1).toNat) p.2
theorem lift_forR2 {m n : M} {g : TG} {t : Tgt} {mb : MS} {D' : Ends} {H : Hp} (hg : TgtOk c g t) (h : liftS c (mForR2 m n t mb) D' σ H) : tFor (iRng2 (liftA c (mACons m (mACons n mANil)))) g (liftS c mb) D' σ H := by
  obtain ⟨w, s, rfl, R, out, e, k⟩ := h
  obtain ⟨⟨p, s1⟩, e1, e⟩ := bnd e
  unfold tFor iRng2
  refine rng2_lift R e1 fun w1 l1 R1 k1 hz => ?_
  exact ⟨p.1, p.2, rfl, hz, lift_loop hg walks_rng R1 e (k.back l1 k1.kp)⟩
def mLcR2 (m n : M) (t : Tgt) (mt : MT) (me : M) (vs : List Nat) : M := fun s => (mRng2 m n s).bind fun p => (unw vs p.2).bind fun s2 => (loopC t mt me vs (rngD p.1.1 (p.1.2 - p.1.1).toNat) s2).bind fun z => endC vs p.2 z
theorem lift_lcR2 {m n : M} {g : TG} {t : Tgt} {ts vs : List Nat} {mt : MT} {me : M} {H : Hp} {Q : VK} (hg : TgtC c g t ts) (hts : ∀ i ∈ ts, i ∈ vs) (h : liftE c (mLcR2 m n t mt me vs) σ H Q) : tLc (iRng2 (liftA c (mACons m (mACons n mANil)))) g (liftT c mt) (liftE c (mFz me)) vs σ H Q := by
  obtain ⟨w, s, rfl, R, o, s', e, k⟩ := h
  obtain ⟨⟨p, s1⟩, e1, e⟩ := bnd e
  obtain ⟨s2, e4, e⟩ := bnd e
  obtain ⟨z, e5, e⟩ := bnd e
  obtain ⟨hz, e⟩ := endC_le e
  cases e
  unfold tLc iRng2
  refine rng2_lift R e1 fun w1 l1 R1 k1 hr => ?_
  exact ⟨p.1, p.2, rfl, hr, lift_lc hg hts walks_rng R1 e4 e5 hz fun v w' l' R' k' q => k v w' (l1.trans l') R' (k1.trans k') (q.back l1)⟩
/-! ### two arguments -/
def f2 (f : D → D → Option Res) : List D → Option Res
  | [d, e] => f d e
  | _ => none
def fMax2 : D → D → Option Res
  | .int i, .int j => some (.d (.int (if j > i then j else i)))
  | _, _ => none
def fMin2 : D → D → Option Res
  | .int i, .int j => some (.d (.int (if j < i then j else i)))
  | _, _ => none
theorem sem_ii {g : Int → Int → Int} {f : D → D → Option Res} (hf : ∀ d e r, f d e = some r → ∃ i j, d = .int i ∧ e = .int j ∧ r = .d (.int (g i j))) : SemC K (fun xs H Q => ∃ i j, xs = [.int i, .int j] ∧ Q (.int (g i j)) H) (f2 f) := fun w xs ds res sb vx q Q k => by
  match ds, q with
  | [d, e], q =>
    obtain ⟨i, j, rfl, rfl, rfl⟩ := hf d e res q
    cases vx with
    | cons h1 h2 =>
      cases h2 with
      | cons h3 h4 =>
        cases h4
        have z1 := vd_int h1
        have z2 := vd_int h3
        subst z1 z2
        exact ⟨i, j, rfl, k.val sb (.int _)⟩
theorem sem_max2 : SemC K (fun xs H Q => ∃ i j, xs = [.int i, .int j] ∧ Q (.int (if j > i then j else i)) H) (f2 fMax2) := sem_ii (g := fun i j => if j > i then j else i) fun d e r h => by
  unfold fMax2 at h
  split at h
  · cases h
    exact ⟨_, _, rfl, rfl, rfl⟩
  · cases h
theorem sem_min2 : SemC K (fun xs H Q => ∃ i j, xs = [.int i, .int j] ∧ Q (.int (if j < i then j else i)) H) (f2 fMin2) := sem_ii (g := fun i j => if j < i then j else i) fun d e r h => by
  unfold fMin2 at h
  split at h
  · cases h
    exact ⟨_, _, rfl, rfl, rfl⟩
  · cases h
end
/-! ### while, by a bound of its turns -/
def whileF (mt : MT) (mb : MS) : Nat → MS
  | 0, _ => none
  | n + 1, s => (mt s).bind fun p => if p.1 = true then (mb p.2).bind fun out => match out with
    | .nx s2 => whileF mt mb n s2
    | .ct s2 => whileF mt mb n s2
    | .bk s2 => some (.nx s2)
    | .rt o s2 => some (.rt o s2)
    | .ex n s2 => some (.ex n s2)
    else some (.nx p.2)
theorem whileF_mono {mt : MT} {mb : MS} : ∀ {n m : Nat} {s : List Slot} {o : Out}, whileF mt mb n s = some o → n ≤ m → whileF mt mb m s = some o
  | 0, _, _, _, h, _ => by cases h
  | n + 1, 0, _, _, _, hm => absurd hm (by omega)
  | n + 1, m + 1, s, o, h, hm => by
    obtain ⟨⟨b, s1⟩, e1, e2⟩ := bnd (x := mt s) h
    show (mt s).bind _ = _
    rw [e1]
    cases b with
    | false => exact e2
    | true =>
      obtain ⟨out, e3, e4⟩ := bnd (x := mb s1) e2
      show (mb s1).bind _ = _
      rw [e3]
      cases out with
      | nx s2 => exact whileF_mono (n := n) e4 (by omega)
      | ct s2 => exact whileF_mono (n := n) e4 (by omega)
      | bk s2 => exact e4
      | rt o s2 => exact e4
      | ex n s2 => exact e4
open Classical in
noncomputable def mWhile (mt : MT) (mb : MS) : MS := fun s => if h : ∃ n o, whileF mt mb n s = some o then some h.choose_spec.choose else none
theorem mWhile_of {mt : MT} {mb : MS} {n : Nat} {s : List Slot} {o : Out} (h : whileF mt mb n s = some o) : mWhile mt mb s = some o := by
  unfold mWhile
  have hx : ∃ n o, whileF mt mb n s = some o := ⟨n, o, h⟩
  rw [dif_pos hx]
  have h2 := hx.choose_spec.choose_spec
  have e1 := whileF_mono h (Nat.le_max_left n hx.choose)
  have e2 := whileF_mono h2 (Nat.le_max_right n hx.choose)
  rw [e1] at e2
  exact e2.symm
theorem mWhile_to {mt : MT} {mb : MS} {s : List Slot} {o : Out} (h : mWhile mt mb s = some o) : ∃ n, whileF mt mb n s = some o := by
  unfold mWhile at h
  split at h
  · rename_i hx
    cases h
    exact ⟨_, hx.choose_spec.choose_spec⟩
  · cases h
section
variable {K : PySem.W.Frag} {c : Cfg K}
theorem lift_while {mt : MT} {mb : MS} {D' : Ends} {σ : St} {H : Hp} (h : liftS c (mWhile mt mb) D' σ H) : tWhile (liftT c mt) (liftS c mb) D' σ H := by
  obtain ⟨w, s, rfl, R, out, e, k⟩ := h
  obtain ⟨fu, e⟩ := mWhile_to e
  refine ⟨fun m σ' H' => ∃ w' s', w'.H = H' ∧ Le w w' ∧ Rel c w' σ' s' ∧ Kp σ s σ' s' ∧ whileF mt mb m s' = some out, ⟨fu, w, s, rfl, Le.refl w, R, Kp.refl σ s, e⟩, ?_⟩
  rintro m σ' H' ⟨w', s', rfl, l', R', k', e'⟩
  cases m with
  | zero => cases e'
  | succ n =>
    obtain ⟨⟨b, s1⟩, e1, e2⟩ := bnd e'
    refine ⟨w', s', rfl, R', b, s1, e1, fun w1 l1 R1 k1 => ?_⟩
    cases b with
    | false =>
      cases e2
      exact iteF (k σ' w1 (l'.trans l1) R1 (k'.trans k1.kp))
    | true =>
      obtain ⟨out1, e3, e4⟩ := bnd e2
      refine iteT ⟨fun σ2 H2 => ∃ w2 s2, w2.H = H2 ∧ Le w w2 ∧ Rel c w2 σ2 s2 ∧ Kp σ s σ2 s2 ∧ whileF mt mb n s2 = some out, fun σ2 H2 ⟨w2, s2, z⟩ => ⟨n, Nat.lt_succ_self n, w2, s2, z⟩, ?_⟩
      refine ⟨w1, s1, rfl, R1, out1, e3, ?_⟩
      have kk := k'.trans k1.kp
      have ll := l'.trans l1
      cases out1 with
      | ex n s2 => trivial
      | nx s2 => exact fun σ3 w3 l3 R3 k3 => ⟨w3, s2, rfl, ll.trans l3, R3, kk.trans k3, e4⟩
      | ct s2 => exact fun σ3 w3 l3 R3 k3 => ⟨w3, s2, rfl, ll.trans l3, R3, kk.trans k3, e4⟩
      | bk s2 =>
        cases e4
        exact fun σ3 w3 l3 R3 k3 => k σ3 w3 (ll.trans l3) R3 (kk.trans k3)
      | rt o s2 =>
        cases e4
        exact fun v σ3 w3 l3 R3 k3 ho => k v σ3 w3 (ll.trans l3) R3 (kk.trans k3) (ho.back ll)
end
section
variable {X : Cx} {c : Cfg X.K} {pos : Pos} {e : Expr} {body : List Stmt} {mt : MT} {mb : MS}
theorem shs_while (hp : PassesOwn (model X.prog X.w) X.A X.env X.xe) (ht : PT X e (liftT c mt)) (hb : PSs X body (liftS c mb)) : PS X (.While e body [] pos) (liftS c (mWhile mt mb)) := (ps_while hp ht hb).imp fun _ _ _ h => lift_while h
end
theorem hint_fLe : ∀ d e r, fLe d e = some r → ∃ i j, d = PyData.int i ∧ e = PyData.int j := fun d e r h => by
  cases d <;> cases e <;> first | exact ⟨_, _, rfl, rfl⟩ | cases h
theorem hint_fLt : ∀ d e r, fLt d e = some r → ∃ i j, d = PyData.int i ∧ e = PyData.int j := fun d e r h => by
  cases d <;> cases e <;> first | exact ⟨_, _, rfl, rfl⟩ | cases h
end Sh
-- Sh13.lean
set_option Elab.async false
set_option linter.all false
set_option maxRecDepth 100000
set_option maxHeartbeats 4000000
/-! Sh13: a list gets all of a list or tuple. -/
namespace Sh
open PySem PySem.Spec PySem.AutoSeq1 PyProof.Rows L2
theorem ext_tup_any (l : Addr) (xs : Array Value) (n : Nat) (b : Addr) (d2 : Option Addr) (sl2 : Array (Option Value)) (ys : Array Value) (m : Nat)
    (h0 : ¬(!xs.isEmpty && Builtin.List.listTooLong (xs.size + ys.size)) = true) (h1 : xs.size ≤ sizeLine) (h2 : xs.size + ys.size ≤ sizeLine + 1) :
    Meets (Builtin.«list.extend» ⟨[.ref l, .ref b], []⟩) (fun _ R s => s.heap.get? l = some { cls := .type "list", dict := none, data := .seq xs n, slots := #[] } ∧ s.heap.get? b = some { cls := .type "tuple", dict := d2, data := .seq ys m, slots := sl2 } ∧
      R (.ok (.ret Value.none)) { s with heap := s.heap.update l (Obj.mapSeq fun x => x ++ ys), toks := s.toks }) :=
  .of_wp fun prog w A R s h => by
    obtain ⟨hp, g, d, tk, os⟩ := s
    obtain ⟨hl, hb, h⟩ := h
    have f1 := idx_int
    have f2 := AutoSeq1.sub_tuple_tuple
    have f3 := AutoSeq1.sub_list_list
    have f4 := AutoSeq1.sub_tuple_list
    have f5 := AutoSeq1.sub_list_tuple
    have hz : (xs ++ ys).size ≤ sizeLine + 1 := by
      rw [Array.size_append]
      exact h2
    wp_walk using (wpAny_updateSeq hl rfl (hz := h1) (_hz' := hz)), wpAny_loadPart' hl, wpAny_loadPart' hb
    exact ⟨_, rfl, h⟩
theorem ext_lst_any (l : Addr) (xs : Array Value) (n : Nat) (b : Addr) (d2 : Option Addr) (sl2 : Array (Option Value)) (ys : Array Value) (m : Nat)
    (h0 : ¬(!xs.isEmpty && Builtin.List.listTooLong (xs.size + ys.size)) = true) (h1 : xs.size ≤ sizeLine) (h2 : xs.size + ys.size ≤ sizeLine + 1) :
    Meets (Builtin.«list.extend» ⟨[.ref l, .ref b], []⟩) (fun _ R s => s.heap.get? l = some { cls := .type "list", dict := none, data := .seq xs n, slots := #[] } ∧ s.heap.get? b = some { cls := .type "list", dict := d2, data := .seq ys m, slots := sl2 } ∧
      R (.ok (.ret Value.none)) { s with heap := s.heap.update l (Obj.mapSeq fun x => x ++ ys), toks := s.toks }) :=
  .of_wp fun prog w A R s h => by
    obtain ⟨hp, g, d, tk, os⟩ := s
    obtain ⟨hl, hb, h⟩ := h
    have f1 := idx_int
    have f2 := AutoSeq1.sub_tuple_tuple
    have f3 := AutoSeq1.sub_list_list
    have f4 := AutoSeq1.sub_tuple_list
    have f5 := AutoSeq1.sub_list_tuple
    have hz : (xs ++ ys).size ≤ sizeLine + 1 := by
      rw [Array.size_append]
      exact h2
    wp_walk using (wpAny_updateSeq hl rfl (hz := h1) (_hz' := hz)), wpAny_loadPart' hl, wpAny_loadPart' hb
    exact ⟨_, rfl, h⟩
def rExtT (K : PySem.W.Frag) : V → List V → Hp → VK → Prop := fun x vs H Q => ∃ l b xs zs, x = .ref l ∧ vs = [.ref b] ∧ H l = some (.lst xs) ∧ SqT K H b zs ∧ xs.length + zs.length ≤ sizeLine ∧ Q .non (upd H l (.lst (xs ++ zs)))
theorem mt_extT {X : Cx} : MtM X "list.extend" (rExtT X.K) := by
  intro pins s σ H x vs v us Q I rx rv h
  obtain ⟨l, b, xs, zs, rfl, rfl, hH, hB, hz, q⟩ := h
  cases rx
  obtain ⟨u, rfl, ru⟩ := rv.one
  cases ru
  obtain ⟨z, its, n, r, hl, e⟩ := I.lstM hH
  obtain ⟨its2, r2, ⟨ob, e2, hc2, m, hd2⟩, z2⟩ := I.tuple hB
  obtain ⟨oc, od, dt, osl⟩ := ob
  have hc2 : oc = _ := hc2
  have hd2 : dt = _ := hd2
  subst hc2 hd2
  have n1 : its.length = xs.length := r.length.symm
  have n2 : its2.length = zs.length := r2.length.symm
  have hsz : its.toArray.size + its2.toArray.size ≤ sizeLine := by
    rw [List.size_toArray, List.size_toArray, n1, n2]
    exact hz
  have hlong : ¬ (!its.toArray.isEmpty && Builtin.List.listTooLong (its.toArray.size + its2.toArray.size)) = true := by
    rw [notLongL hsz, Bool.and_false]
    exact fun z => nomatch z
  refine call_meets F.slot_list_extend ⟨_, e, rfl⟩ F.entry_list_extend (F.args_list_extend_2 _ _) (ext_tup_any l its.toArray n b od osl its2.toArray m hlong (by rw [List.size_toArray]; omega) (by omega)) ⟨e, e2, ?_⟩
  refine ⟨.non, _, I.lset (its' := its ++ its2) hH e (by simp) (r.append r2) ?_, rfl, q⟩
  rw [List.length_append]
  omega
def rExtL (K : PySem.W.Frag) : V → List V → Hp → VK → Prop := fun x vs H Q => ∃ l b xs zs, x = .ref l ∧ vs = [.ref b] ∧ H l = some (.lst xs) ∧ SqL K H b zs ∧ xs.length + zs.length ≤ sizeLine ∧ Q .non (upd H l (.lst (xs ++ zs)))
theorem mt_extL {X : Cx} : MtM X "list.extend" (rExtL X.K) := by
  intro pins s σ H x vs v us Q I rx rv h
  obtain ⟨l, b, xs, zs, rfl, rfl, hH, hB, hz, q⟩ := h
  cases rx
  obtain ⟨u, rfl, ru⟩ := rv.one
  cases ru
  obtain ⟨z, its, n, r, hl, e⟩ := I.lstM hH
  obtain ⟨its2, r2, ⟨ob, m, e2, hc2, ho2, hd2⟩, z2⟩ := I.list hB
  obtain ⟨oc, od, dt, osl⟩ := ob
  have hc2 : oc = _ := hc2
  have hd2 : dt = _ := hd2
  subst hc2 hd2
  have n1 : its.length = xs.length := r.length.symm
  have n2 : its2.length = zs.length := r2.length.symm
  have hsz : its.toArray.size + its2.toArray.size ≤ sizeLine := by
    rw [List.size_toArray, List.size_toArray, n1, n2]
    exact hz
  have hlong : ¬ (!its.toArray.isEmpty && Builtin.List.listTooLong (its.toArray.size + its2.toArray.size)) = true := by
    rw [notLongL hsz, Bool.and_false]
    exact fun z => nomatch z
  refine call_meets F.slot_list_extend ⟨_, e, rfl⟩ F.entry_list_extend (F.args_list_extend_2 _ _) (ext_lst_any l its.toArray n b od osl its2.toArray m hlong (by rw [List.size_toArray]; omega) (by omega)) ⟨e, e2, ?_⟩
  refine ⟨.non, _, I.lset (its' := its ++ its2) hH e (by simp) (r.append r2) ?_, rfl, q⟩
  rw [List.length_append]
  omega
/-- x.extend(e), e a tuple or a list that stays -/
def selTL : D → Option (List D)
  | .tuple ds => some ds
  | .list ds => some ds
  | _ => none
def mExt (i : Nat) (me : M) : M := fun s => (owL s i).bind fun _ => (mFz me s).bind fun p => (vD p.1).bind fun d => (selTL d).bind fun es => (owL p.2 i).bind fun z => if z.2.length + es.length ≤ 100000 then some (.v .none, p.2.set i (.ow z.1 (.lst (z.2 ++ es)))) else none
def rExtA (K : PySem.W.Frag) : V → List V → Hp → VK → Prop := fun x vs H Q => rExtT K x vs H Q ∨ rExtL K x vs H Q
theorem mt_extA {X : Cx} : MtM X "list.extend" (rExtA X.K) := fun pins s σ H x vs v us Q I rx rv h => by
  rcases h with h | h
  · exact mt_extT pins s σ H x vs v us Q I rx rv h
  · exact mt_extL pins s σ H x vs v us Q I rx rv h
theorem lift_ext {K : PySem.W.Frag} {c : Cfg K} {i : Nat} {me : M} {σ : L2.St} {H : Hp} {Q : VK} (h : liftE c (mExt i me) σ H Q) : tBM K "list" (rExtA K) (tVar i) (tCons (liftE c (mFz me)) tNil) σ H Q := by
  obtain ⟨w, s, rfl, R, o, s', e, k⟩ := h
  obtain ⟨⟨p0, ds0⟩, e0, e⟩ := bnd e
  obtain ⟨⟨o1, s1⟩, e1, e⟩ := bnd e
  obtain ⟨d, e2, e⟩ := bnd e
  obtain ⟨es, e4, e⟩ := bnd e
  obtain ⟨⟨p, ds⟩, e3, e⟩ := bnd e
  have e : (if ds.length + es.length ≤ 100000 then some (Op.v .none, s1.set i (.ow p (.lst (ds ++ es)))) else none) = some (o, s') := e
  split at e
  · rename_i hz
    cases e
    obtain ⟨a, xs0, hv, hφ, hH, hD⟩ := R.ow_list (owL_get e0)
    refine ⟨.ref a, hv, .inl ⟨rfl, xs0, SqL.of hH⟩, ?_⟩
    refine ⟨w, s, rfl, R, o1, s1, e1, fun v1 w1 l1 R1 k1 q1 => ?_⟩
    obtain ⟨a1, xs, hv1, hφ1, hH1, hD1⟩ := R1.ow_list (owL_get e3)
    rw [hv] at hv1
    cases hv1
    have hd : Dp K w1.F v1 d := vd_op q1 e2
    have fin : ∀ zs, DpAll K w1.F zs es → Q .non (upd w1.H a (.lst (xs ++ zs))) := fun zs hzs => by
      obtain ⟨w2, hh, hF, _, l2, R2, k2⟩ := R1.mutL l1 (owL_get e3) hv hφ1 (dpa_app hD1 hzs)
      rw [← hh]
      exact k .non w2 l2 R2 (k1.trans k2) .non
    have len : ∀ zs, DpAll K w1.F zs es → xs.length + zs.length ≤ sizeLine := fun zs hzs => by
      rw [dpa_len hD1, dpa_len hzs]
      exact Evl.sz_of hz
    cases d with
    | tuple es' =>
      cases e4
      cases hd with
      | tup h1 h2 => exact .inl ⟨a, _, xs, _, rfl, rfl, hH1, sqT_mono R1.sub h1, len _ h2, fin _ h2⟩
    | list es' =>
      cases e4
      cases hd with
      | lst h1 h2 => exact .inr ⟨a, _, xs, _, rfl, rfl, hH1, sqL_mono R1.sub h1, len _ h2, fin _ h2⟩
    | _ => cases e4
  · cases e
end Sh
-- Sh14.lean
set_option Elab.async false
set_option linter.all false
set_option maxRecDepth 100000
set_option maxHeartbeats 1000000
/-! Sh14: a dict of one's own with tuples as keys, the key written out. -/
namespace Sh
open PySem L2
def keyD : D → Option Key
  | .int i => some (.inl i)
  | .str x => some (.inr x)
  | _ => none
def keysD : List D → Option (List Key)
  | [] => some []
  | d :: r => (keyD d).bind fun k => (keysD r).bind fun ks => some (k :: ks)
def valD (kvs : List (List Key × D)) (k : List Key) : Option D := (kvs.find? fun kv => decide (kv.1 = k)).map (·.2)
def putD (kvs : List (List Key × D)) (k : List Key) (v : D) : List (List Key × D) :=
  if (kvs.any fun kv => decide (kv.1 = k)) = true then kvs.map (fun kv => if kv.1 = k then (kv.1, v) else kv) else kvs ++ [(k, v)]
section
variable {K : PySem.W.Frag} {c : Cfg K} {σ : St} {w w₀ : W} {s s1 : List Slot}
theorem key_dp {F : Hp} {v : V} {d : D} {k : Key} (h : Dp K F v d) (e : keyD d = some k) : v = kV k := by
  cases d with
  | int i =>
    cases e
    cases h
    rfl
  | str x =>
    cases e
    cases h
    rfl
  | _ => cases e
theorem keys_dp {F : Hp} : ∀ {vs : List V} {ds : List D} {ks : List Key}, DpAll K F vs ds → keysD ds = some ks → vs = ks.map kV
  | _, [], _, h, e => by
    cases h
    cases e
    rfl
  | _, d :: r, _, h, e => by
    cases h with
    | cons h1 h2 =>
      obtain ⟨k, e1, e⟩ := bnd e
      obtain ⟨ks, e2, e⟩ := bnd e
      cases e
      rw [key_dp h1 e1, keys_dp h2 e2]
      rfl
abbrev PK (K : PySem.W.Frag) (F : Hp) : List (List Key × V) → List (List Key × D) → Prop := Paired (fun (p : List Key × V) (q : List Key × D) => p.1 = q.1 ∧ Dp K F p.2 q.2)
theorem pk_val {F : Hp} {k : List Key} : ∀ {kv : List (List Key × V)} {kvs : List (List Key × D)}, PK K F kv kvs → (valV kv k = none ∧ valD kvs k = none) ∨ ∃ v d, valV kv k = some v ∧ valD kvs k = some d ∧ Dp K F v d
  | [], _, h => by
    cases h
    exact .inl ⟨rfl, rfl⟩
  | p :: r, _, h => by
    cases h with
    | @cons _ q _ qs h1 h2 =>
      by_cases e : p.1 = k
      · have e' : q.1 = k := h1.1.symm.trans e
        exact .inr ⟨p.2, q.2, by simp [valV, List.find?_cons, e], by simp [valD, List.find?_cons, e'], h1.2⟩
      · have e' : ¬ q.1 = k := fun z => e (h1.1.trans z)
        rcases pk_val (k := k) h2 with ⟨a, b⟩ | ⟨v, d, a, b, x⟩
        · exact .inl ⟨by rw [← a]; simp [valV, List.find?_cons, e], by rw [← b]; simp [valD, List.find?_cons, e']⟩
        · exact .inr ⟨v, d, by rw [← a]; simp [valV, List.find?_cons, e], by rw [← b]; simp [valD, List.find?_cons, e'], x⟩
theorem pk_any {F : Hp} {k : List Key} : ∀ {kv : List (List Key × V)} {kvs : List (List Key × D)}, PK K F kv kvs → (kv.any fun p => decide (p.1 = k)) = (kvs.any fun p => decide (p.1 = k))
  | [], _, h => by
    cases h
    rfl
  | p :: r, _, h => by
    cases h with
    | cons h1 h2 => rw [List.any_cons, List.any_cons, pk_any h2, h1.1]
theorem pk_map {F : Hp} {k : List Key} {v : V} {d : D} (hv : Dp K F v d) : ∀ {kv : List (List Key × V)} {kvs : List (List Key × D)}, PK K F kv kvs → PK K F (kv.map fun p => if p.1 = k then (p.1, v) else p) (kvs.map fun p => if p.1 = k then (p.1, d) else p)
  | [], _, h => by
    cases h
    exact .nil
  | p :: r, _, h => by
    cases h with
    | @cons _ q _ qs h1 h2 =>
      rw [List.map_cons, List.map_cons]
      refine .cons ?_ (pk_map hv h2)
      by_cases e : p.1 = k
      · have e' : q.1 = k := h1.1.symm.trans e
        rw [if_pos e, if_pos e']
        exact ⟨h1.1, hv⟩
      · have e' : ¬ q.1 = k := fun z => e (h1.1.trans z)
        rw [if_neg e, if_neg e']
        exact h1
theorem pk_snoc {F : Hp} {k : List Key} {v : V} {d : D} (hv : Dp K F v d) : ∀ {kv : List (List Key × V)} {kvs : List (List Key × D)}, PK K F kv kvs → PK K F (kv ++ [(k, v)]) (kvs ++ [(k, d)])
  | [], _, h => by
    cases h
    exact .cons ⟨rfl, hv⟩ .nil
  | p :: r, _, h => by
    cases h with
    | cons h1 h2 => exact .cons h1 (pk_snoc hv h2)
theorem pk_put {F : Hp} {k : List Key} {v : V} {d : D} (hv : Dp K F v d) {kv : List (List Key × V)} {kvs : List (List Key × D)} (h : PK K F kv kvs) : PK K F (putK kv k v) (putD kvs k d) := by
  unfold putK putD
  rw [pk_any h]
  split
  · exact pk_map hv h
  · exact pk_snoc hv h
theorem pk_len {F : Hp} : ∀ {kv : List (List Key × V)} {kvs : List (List Key × D)}, PK K F kv kvs → kv.length = kvs.length
  | [], _, h => by
    cases h
    rfl
  | _ :: _, _, h => by
    cases h with
    | cons _ h2 => rw [List.length_cons, List.length_cons, pk_len h2]
/-! ### the key -/
def mKeys (n : MA) : List Slot → Option (List Key × List Slot) := fun s => (n s).bind fun p => (opsD p.1).bind fun ds => if ds.length ≤ 100000 then (keysD ds).bind fun ks => some (ks, p.2) else none
theorem lift_key {na : MA} {ks : List Key} {Q : VK} (R : Rel c w σ s) (e : mKeys na s = some (ks, s1)) (hq : ∀ w' p, Le w w' → Rel c w' σ s1 → Keep s s1 → w'.H p = some (.tup (ks.map kV)) → Q (.ref p) w'.H) : tTup (liftA c na) σ w.H Q := by
  obtain ⟨⟨os, s2⟩, e1, e⟩ := bnd e
  obtain ⟨ds, e2, e⟩ := bnd e
  by_cases hz : ds.length ≤ 100000
  · rw [if_pos hz] at e
    obtain ⟨ks', e3, e⟩ := bnd e
    cases e
    refine ⟨w, s, rfl, R, os, s2, e1, fun vs w1 l1 R1 k1 q1 => ?_⟩
    have dp := ops_dp q1 e2
    refine ⟨Evl.sz_of (by rw [dpa_len dp]; exact hz), fun p hp => ?_⟩
    have g := gr_fix (w := w1) (x := .tup vs) R1.sub hp
    refine hq _ p (l1.trans g.le) (R1.grow g) k1 ?_
    show upd w1.H p (.tup vs) p = _
    rw [upd_same, keys_dp dp e3]
  · rw [if_neg hz] at e
    cases e
/-! ### an own dict -/
def owT (s : List Slot) (i : Nat) : Option (Bool × List (List Key × D)) := match s[i]? with
  | some (.ow p (.dT kvs)) => some (p, kvs)
  | _ => none
theorem owT_get {p : Bool} {i : Nat} {kvs : List (List Key × D)} (h : owT s i = some (p, kvs)) : s[i]? = some (.ow p (.dT kvs)) := by
  unfold owT at h
  split at h
  · rename_i q
    cases h
    exact q
  · cases h
theorem Rel.ow_dT (R : Rel c w σ s) {i : Nat} {p : Bool} {kvs : List (List Key × D)} (hs : s[i]? = some (.ow p (.dT kvs))) : ∃ a kv, σ[i]? = some (some (.ref a)) ∧ w.φ i = [a] ∧ w.H a = some (.dT kv) ∧ PK K w.F kv kvs := by
  obtain ⟨v, h1, a, xs, rfl, h2, h3, h4⟩ := R.ow i p _ hs
  exact ⟨a, xs, h1, h2, h3, h4⟩
theorem Rel.mutT (R : Rel c w σ s) (l0 : Le w₀ w) {i : Nat} {p : Bool} {kvs kvs' : List (List Key × D)} {a : Addr} {kv' : List (List Key × V)} (hs : s[i]? = some (.ow p (.dT kvs))) (hv : σ[i]? = some (some (.ref a))) (hφ : w.φ i = [a]) (hd : PK K w.F kv' kvs') :
    ∃ w', w'.H = upd w.H a (.dT kv') ∧ w'.F = w.F ∧ w'.φ = w.φ ∧ Le w₀ w' ∧ Rel c w' σ (s.set i (.ow p (.dT kvs'))) ∧ Keep s (s.set i (.ow p (.dT kvs'))) :=
  R.mutS l0 hs (by rw [hφ]; exact List.mem_cons_self) fun v hv' => by
    rw [hv] at hv'
    cases hv'
    exact ⟨a, kv', rfl, hφ, upd_same, hd⟩
/-- x[(a, b)], x.get((a, b)) -/
def mDGet (i : Nat) (na : MA) : M := fun s => (owT s i).bind fun _ => (mKeys na s).bind fun p => (owT p.2 i).bind fun z => (valD z.2 p.1).bind fun d => some (.v d, p.2)
def mDGet1 (i : Nat) (na : MA) : M := fun s => (owT s i).bind fun _ => (mKeys na s).bind fun p => (owT p.2 i).bind fun z => some (.v ((valD z.2 p.1).getD .none), p.2)
/-- (a, b) in x -/
def mDIn (neg : Bool) (i : Nat) (na : MA) : M := fun s => (mKeys na s).bind fun p => (owT p.2 i).bind fun z => some (.v (.bool (neg != (valD z.2 p.1).isSome)), p.2)
theorem lift_dget {i : Nat} {na : MA} {H : Hp} {Q : VK} (h : liftE c (mDGet i na) σ H Q) : tDGet (tVar i) (tTup (liftA c na)) σ H Q := by
  obtain ⟨w, s, rfl, R, o, s', e, k⟩ := h
  obtain ⟨⟨p0, z0⟩, e0, e⟩ := bnd e
  obtain ⟨⟨ks, s1⟩, e1, e⟩ := bnd e
  obtain ⟨⟨p, z⟩, e2, e⟩ := bnd e
  obtain ⟨d, e3, e⟩ := bnd e
  cases e
  obtain ⟨a, kv0, hv, _, _, _⟩ := R.ow_dT (owT_get e0)
  refine ⟨.ref a, hv, lift_key R e1 fun w' b l R' kk hb => ?_⟩
  obtain ⟨a1, kv, hv1, hφ, hH, hp⟩ := R'.ow_dT (owT_get e2)
  rw [hv] at hv1
  cases hv1
  rcases pk_val (k := ks) hp with ⟨_, q⟩ | ⟨v, d', q1, q2, dv⟩
  · rw [q] at e3
    cases e3
  · rw [q2] at e3
    cases e3
    exact ⟨a, v, rfl, by rw [← q1]; exact DGet.t hH hb, k v w' l R' kk dv⟩
theorem lift_dget1 {i : Nat} {na : MA} {H : Hp} {Q : VK} (h : liftE c (mDGet1 i na) σ H Q) : tDGet1 (tVar i) (tTup (liftA c na)) σ H Q := by
  obtain ⟨w, s, rfl, R, o, s', e, k⟩ := h
  obtain ⟨⟨p0, z0⟩, e0, e⟩ := bnd e
  obtain ⟨⟨ks, s1⟩, e1, e⟩ := bnd e
  obtain ⟨⟨p, z⟩, e2, e⟩ := bnd e
  cases e
  obtain ⟨a, kv0, hv, _, hH0, _⟩ := R.ow_dT (owT_get e0)
  refine ⟨.ref a, hv, a, rfl, .inr ⟨_, .inl hH0⟩, lift_key R e1 fun w' b l R' kk hb => ?_⟩
  obtain ⟨a1, kv, hv1, hφ, hH, hp⟩ := R'.ow_dT (owT_get e2)
  rw [hv] at hv1
  cases hv1
  refine ⟨_, DGet.t hH hb, ?_⟩
  rcases pk_val (k := ks) hp with ⟨q1, q⟩ | ⟨v, d', q1, q2, dv⟩
  · rw [q1]
    exact k .non w' l R' kk (by rw [show valD (p, z).2 (ks, s1).1 = none from q]; exact .non)
  · rw [q1]
    exact k v w' l R' kk (by rw [show valD (p, z).2 (ks, s1).1 = some d' from q2]; exact dv)
theorem lift_din {i : Nat} {na : MA} {H : Hp} {Q : VK} (h : liftE c (mDIn false i na) σ H Q) : tDIn (tTup (liftA c na)) (tVar i) σ H Q := by
  obtain ⟨w, s, rfl, R, o, s', e, k⟩ := h
  obtain ⟨⟨ks, s1⟩, e1, e⟩ := bnd e
  obtain ⟨⟨p, z⟩, e2, e⟩ := bnd e
  cases e
  refine lift_key R e1 fun w' b l R' kk hb => ?_
  obtain ⟨a, kv, hv, hφ, hH, hp⟩ := R'.ow_dT (owT_get e2)
  refine ⟨.ref a, hv, a, _, rfl, DGet.t hH hb, ?_⟩
  have e : (valV kv ks).isSome = (false != (valD z ks).isSome) := by
    rcases pk_val (k := ks) hp with ⟨q1, q2⟩ | ⟨v, d', q1, q2, _⟩ <;> rw [q1, q2] <;> rfl
  rw [e]
  exact k _ w' l R' kk (.bl _)
theorem lift_dnotin {i : Nat} {na : MA} {H : Hp} {Q : VK} (h : liftE c (mDIn true i na) σ H Q) : tDNotIn (tTup (liftA c na)) (tVar i) σ H Q := by
  obtain ⟨w, s, rfl, R, o, s', e, k⟩ := h
  obtain ⟨⟨ks, s1⟩, e1, e⟩ := bnd e
  obtain ⟨⟨p, z⟩, e2, e⟩ := bnd e
  cases e
  refine lift_key R e1 fun w' b l R' kk hb => ?_
  obtain ⟨a, kv, hv, hφ, hH, hp⟩ := R'.ow_dT (owT_get e2)
  refine ⟨.ref a, hv, a, _, rfl, DGet.t hH hb, ?_⟩
  have e : (!(valV kv ks).isSome) = (true != (valD z ks).isSome) := by
    rcases pk_val (k := ks) hp with ⟨q1, q2⟩ | ⟨v, d', q1, q2, _⟩ <;> rw [q1, q2] <;> rfl
  rw [e]
  exact k _ w' l R' kk (.bl _)
/-- x[(a, b)] = e -/
def mDPut (i : Nat) (na : MA) (me : M) : MS := fun s => (mFz me s).bind fun p => (vD p.1).bind fun d => (owT p.2 i).bind fun _ => (mKeys na p.2).bind fun q => (owT q.2 i).bind fun z => if z.2.length < 100000 then some (.nx (q.2.set i (.ow z.1 (.dT (putD z.2 q.1 d))))) else none
theorem lift_dput {i : Nat} {na : MA} {me : M} {D' : Ends} {H : Hp} (h : liftS c (mDPut i na me) D' σ H) : tAsg (liftE c (mFz me)) (gSub (tVar i) (tTup (liftA c na)) rSetD) D' σ H := by
  obtain ⟨w, s, rfl, R, out, e, k⟩ := h
  obtain ⟨⟨o1, s1⟩, e1, e⟩ := bnd e
  obtain ⟨d, e2, e⟩ := bnd e
  obtain ⟨⟨p0, z0⟩, e0, e⟩ := bnd e
  obtain ⟨⟨ks, s2⟩, e3, e⟩ := bnd e
  obtain ⟨⟨p, z⟩, e5, e⟩ := bnd e
  have e : (if z.length < 100000 then some (Out.nx (s2.set i (.ow p (.dT (putD z ks d))))) else none) = some out := e
  split at e
  · rename_i hz
    cases e
    refine ⟨w, s, rfl, R, o1, s1, e1, fun v1 w1 l1 R1 k1 q1 => ?_⟩
    obtain ⟨a, kv0, hv, hφ, _, _⟩ := R1.ow_dT (owT_get e0)
    refine ⟨.ref a, hv, lift_key R1 e3 fun w2 b l2 R2 k2 hb => ?_⟩
    obtain ⟨a1, kv, hv1, hφ1, hH1, hp⟩ := R2.ow_dT (owT_get e5)
    rw [hv] at hv1
    cases hv1
    show ∃ (a' : Addr) (H' : Hp), V.ref a = .ref a' ∧ DPut w2.H a' (.ref b) v1 H' ∧ D'.nx σ H'
    refine ⟨a, _, rfl, DPut.t hH1 hb (Evl.sz_lt (by rw [pk_len hp]; exact hz)), ?_⟩
    obtain ⟨w3, hh, hF, _, l3, R3, k3⟩ := R2.mutT (l1.trans l2) (owT_get e5) hv hφ1 (pk_put (k := ks) (dp_mono l2.f _ _ (vd_op q1 e2)) hp)
    rw [← hh]
    exact k σ w3 l3 R3 ((k1.trans k2).trans k3).kp
  · cases e
end
section
variable {X : Cx} {c : Cfg X.K} {pos pos' p2 : Pos} {x : Str} {es : List Expr} {x1 : Nat} {i : Nat} {na : MA}
theorem she_dget (hu : X.A.units + 1 < cLine) (hx : PE X (.Name x pos') (tVar i)) (ha : PA X es (liftA c na)) (hs : NoSl (.Tuple es x1 p2)) : PE X (.Subscript (.Name x pos') (.Tuple es x1 p2) pos) (liftE c (mDGet i na)) := (pe_dget hu hx (pe_tup ha) hs).imp fun _ _ _ h => lift_dget h
theorem she_dget1 {apos : Pos} (hu : X.A.units + 1 < cLine) (hx : PE X (.Name x pos') (tVar i)) (ha : PA X es (liftA c na)) (hm : M1 X (.Name x pos') "get" apos (.Tuple es x1 p2) pos) : PE X (.Call (.Attribute (.Name x pos') "get" apos) [.Tuple es x1 p2] [] pos) (liftE c (mDGet1 i na)) := (pe_dget1 hu hx (pe_tup ha) hm).imp fun _ _ _ h => lift_dget1 h
theorem she_din (hu : X.A.units + 1 < cLine) (hx : PE X (.Name x pos') (tVar i)) (ha : PA X es (liftA c na)) (h1 : behindInMarks .In (.Name x pos') = false) : PE X (.Compare (.Tuple es x1 p2) [.In] [.Name x pos'] pos) (liftE c (mDIn false i na)) := (pe_cmp (pc_din hu (pe_tup ha) hx) h1).imp fun _ _ _ h => lift_din h
theorem she_dnotin (hu : X.A.units + 1 < cLine) (hx : PE X (.Name x pos') (tVar i)) (ha : PA X es (liftA c na)) (h1 : behindInMarks .NotIn (.Name x pos') = false) : PE X (.Compare (.Tuple es x1 p2) [.NotIn] [.Name x pos'] pos) (liftE c (mDIn true i na)) := (pe_cmp (pc_dnotin hu (pe_tup ha) hx) h1).imp fun _ _ _ h => lift_dnotin h
theorem sht_din (hu : X.A.units + 1 < cLine) (hx : PE X (.Name x pos') (tVar i)) (ha : PA X es (liftA c na)) (h1 : behindInMarks .In (.Name x pos') = false) : PT X (.Compare (.Tuple es x1 p2) [.In] [.Name x pos'] pos) (liftT c (mTst (mDIn false i na))) := (pt_cmp (pc_din hu (pe_tup ha) hx) h1).imp fun _ _ _ h => lift_din (lift_tst h)
theorem sht_dnotin (hu : X.A.units + 1 < cLine) (hx : PE X (.Name x pos') (tVar i)) (ha : PA X es (liftA c na)) (h1 : behindInMarks .NotIn (.Name x pos') = false) : PT X (.Compare (.Tuple es x1 p2) [.NotIn] [.Name x pos'] pos) (liftT c (mTst (mDIn true i na))) := (pt_cmp (pc_dnotin hu (pe_tup ha) hx) h1).imp fun _ _ _ h => lift_dnotin (lift_tst h)
end
end Sh
-- Gx.lean
set_option Elab.async false
set_option linter.all false
set_option maxRecDepth 100000
set_option maxHeartbeats 2000000
/-! all, any of a generator expression whose element runs code of the program. -/
namespace Gx
open PySem PySem.Spec PyProof.Rows L2
/-- the context of a generator expression's own frame -/
abbrev cxGen (X : Cx) (Ag : Around) (s : Shared) (H : Hp) (cenv : Env) (fp : List Addr) : Cx :=
  { X with A := Ag, s_0 := s, H_0 := H, env := cenv, outer := X.stack, stack := cenv :: X.stack, ex := fp, fn := fun _ => false, calm := true, pn := [], xe := fun _ _ => False }
structure GenOk (N : List Str) (sc scope : Scope) (own : List (Str × Nat)) : Prop where
  kind : scope.kind = .function
  co : scope.isCoroutine = false
  cell : ∀ y ∈ scope.names, y.2 ≠ .cell
  dot : scope.names.lookup (".0" : Str) = some NameKind.local
  uniq : ∀ y ∈ scope.names, scope.names.lookup y.1 = some y.2
  ix : ∀ p ∈ own, N[p.2]? = some p.1
  free : ∀ y ∈ scope.names, y.2 = .free → sc.names.lookup y.1 = some .cell ∨ sc.names.lookup y.1 = some .free
  own : ∀ y ∈ scope.names, y.2 = .local → y.1 ∈ own.map (·.1) ∨ y.1 ∉ N
theorem inv_gens {X : Cx} {pins : List (Addr × Obj)} {σ : L2.St} {H : Hp} {s s' : Shared} (I : Inv X pins σ H s) (hh : s'.heap = s.heap) (ho : s'.os = s.os) (hg : AllBare s'.gens) : Inv X pins σ H s' := by
  obtain ⟨h', g', d', t', o'⟩ := s'
  cases hh
  cases ho
  exact ⟨I.ok, I.os, hg, I.base, I.loc, I.cell, I.free, I.freeC, I.pin, I.hok, I.len⟩
theorem bare_setGen {s : Shared} {g : Nat} {x : GenState} (h : AllBare s.gens) (hx : x.bare = true) : AllBare (s.setGen g x).gens := by
  intro y hy
  simp only [Shared.setGen] at hy
  obtain ⟨i, hi, rfl⟩ := Array.mem_iff_getElem.mp hy
  rw [Array.getElem_setIfInBounds (by simpa using hi)]
  split
  · exact hx
  · exact h _ (Array.getElem_mem _)
section
variable {X : Cx} {pins : List (Addr × Obj)} {σ : L2.St} {H : Hp} {s : Shared}
theorem gen_start {scope : Scope} {own : List (Str × Nat)} {fp : List Addr} {Ag : Around} {code : Value} {bi a : Addr} {go : Obj} {m0 : Str → Option Value} {s5 : Shared} (I : Inv X pins σ H s) (ok : GenOk X.N X.env.scope scope own) (hN : X.N.Nodup) (hfp : ∀ b ∈ fp, FpOk X pins H b ∧ b < s.heap.objs.size)
    (hhd : Ag.handled = none) (hfr : Ag.frames = some (genEnv scope (cloFrom X.env.cells scope.names []) s.heap.objs.size code bi X.env :: X.stack)) (hbi : bi = builtinsNs)
    (kp : ∀ b o, s.heap.get? b = some o → s5.heap.get? b = some o) (hns : s5.heap.Ns s.heap.objs.size m0) (ho : s5.os = s.os) (hg : AllBare s5.gens)
    (ha : s5.heap.get? a = some go) (hal : s.heap.objs.size < a) (hcell : ∀ v, go.data ≠ .cell v) :
    Inv (cxGen X Ag s H (genEnv scope (cloFrom X.env.cells scope.names []) s.heap.objs.size code bi X.env) fp) [(a, go)] (wipe σ (own.map (·.2))) H s5 := by
  have hfree : ∀ y ∈ scope.names, y.2 = .free → ∃ c, X.env.cells.lookup y.1 = some c := fun y hy e => by
    rcases ok.free y hy e with k | k
    · exact I.ok.has _ (.inl k)
    · exact I.ok.has _ (.inr k)
  generalize hcenv : genEnv scope (cloFrom X.env.cells scope.names []) s.heap.objs.size code bi X.env = cenv at hfr ⊢
  have hL : cenv.locals = s.heap.objs.size := by rw [← hcenv]; rfl
  have hcl : cenv.cells = cloFrom X.env.cells scope.names [] := by rw [← hcenv]; rfl
  have hsc : cenv.scope = scope := by rw [← hcenv]; rfl
  have cm : ∀ {y c}, (y, c) ∈ cloFrom X.env.cells scope.names [] → X.env.cells.lookup y = some c ∧ c < s.heap.objs.size := fun {y c} hm => by
    rcases cloFrom_mem hm with hm | ⟨h1, rfl⟩
    · cases hm
    · obtain ⟨c, hc⟩ := hfree _ h1 rfl
      rw [hc]
      obtain ⟨w, z⟩ := I.cell _ _ hc
      exact ⟨rfl, z.lt⟩
  have mem : ∀ {y c}, cenv.cells.lookup y = some c → X.env.cells.lookup y = some c ∧ c < s.heap.objs.size := fun {y c} e => by
    rw [hcl] at e
    exact cm (PySem.mem_of_lookup e)
  have look : ∀ {y}, scope.names.lookup y = some .free → ∃ c, cenv.cells.lookup y = some c ∧ X.env.cells.lookup y = some c := fun {y} hl => by
    have hy : (y, NameKind.free) ∈ scope.names := PySem.mem_of_lookup hl
    obtain ⟨c', e'⟩ := mem_lookup (cloFrom_has (cells := X.env.cells) (acc := []) hy)
    rw [← hcl] at e'
    exact ⟨c', e', (mem e').1⟩
  have okB : (cxGen X Ag s H cenv fp).Ok := by
    refine ⟨I.ok.mod, by show cenv.scope.kind = _; rw [hsc]; exact ok.kind, by show cenv.globals = _; rw [← hcenv]; exact I.ok.glob, by show cenv.builtins = _; rw [← hcenv]; exact hbi, by show s.heap.objs.size ≤ cenv.locals; rw [hL]; exact Nat.le_refl _,
      fun y z c e1 e2 => I.ok.inj y z c (mem e1).1 (mem e2).1, fun y hy => ?_, fun y c z e => (by cases z), fun _ => hhd, hfr, .inr ⟨rfl, ?_⟩, fun b hb => ⟨?_, fun y c e z => ?_⟩, I.bs, Nat.le_trans I.ok.bsz I.sz, fun b o e hb => ?_, fun b hb z => ?_, I.stack, I.stkFree⟩
    · show ∃ c, cenv.cells.lookup y = some c
      have hy : cenv.scope.names.lookup y = some .cell ∨ cenv.scope.names.lookup y = some .free := hy
      rw [hsc] at hy
      rcases hy with hy | hy
      · exact absurd rfl (ok.cell _ (PySem.mem_of_lookup hy))
      · obtain ⟨c, h1, _⟩ := look hy
        exact ⟨c, h1⟩
    · show cenv.frame = some cenv.locals
      rw [← hcenv]; rfl
    · show b ≠ cenv.locals
      rw [hL]; exact Nat.ne_of_lt (hfp b hb).2
    · have e : cenv.cells.lookup y = some c := e
      exact (hfp b hb).1.2.2.2.2.1 y c (mem e).1 z
    · rcases (hfp b hb).1.2.2.2.1 with z | z
      · exact I.ok.noex b o e z
      · exact absurd (Nat.lt_of_lt_of_le (Heap.lt_size e) (Nat.le_trans I.ok.bsz z)) (Nat.lt_irrefl _)
    · rcases List.mem_cons.mp (I.stkSub b z) with z | z
      · exact (hfp b hb).1.2.1 z
      · exact (hfp b hb).1.2.2.1 z
  refine ⟨okB, ho, hg, Un.kept kp, ⟨m0, ?_, fun i y av e1 e2 e3 => ?_⟩, fun y c e => ?_, ?_, fun y c e => ?_, fun p hp => ?_, I.hok.kept kp, by rw [wipe_length]; exact I.len⟩
  · show Heap.Ns _ cenv.locals _
    rw [hL]
    exact hns
  · obtain ⟨e2, hne⟩ := wipe_some e2
    have hfr : scope.names.lookup y = some .free := by
      have e3 : Vis cenv.scope y := e3
      rw [hsc] at e3
      rcases e3 with e3 | e3 | e3
      · exfalso
        rcases ok.own _ (PySem.mem_of_lookup e3) rfl with e' | e'
        · obtain ⟨p, hp, hpy⟩ := List.mem_map.mp e'
          have e3 := ok.ix p hp
          have : p.1 = y := hpy
          rw [this] at e3
          exact hne (List.mem_map.mpr ⟨p, hp, nodup_ix hN e3 e1⟩)
        · exact e' (List.mem_of_getElem? e1)
      · exact absurd rfl (ok.cell _ (PySem.mem_of_lookup e3))
      · exact e3
    obtain ⟨m, hn, hl⟩ := I.loc
    have hvis : Vis X.env.scope y := (ok.free _ (PySem.mem_of_lookup hfr) rfl).elim (fun k => .inr (.inl k)) (fun k => .inr (.inr k))
    obtain ⟨w, r, q⟩ := hl i y av e1 e2 hvis
    refine ⟨w, r, .inr ⟨.inr (by show cenv.scope.names.lookup y = _; rw [hsc]; exact hfr), ?_⟩⟩
    obtain ⟨c, h1, h2⟩ := look hfr
    rcases q with ⟨k, _⟩ | ⟨_, c', e', z⟩
    · have k : X.env.scope.names.lookup y = some .local := k
      rcases ok.free _ (PySem.mem_of_lookup hfr) rfl with k' | k' <;> rw [show X.env.scope.names.lookup y = _ from k'] at k <;> cases k
    · rw [h2] at e'; cases e'
      exact ⟨c, h1, z.keeps kp⟩
  · have e : cenv.cells.lookup y = some c := e
    obtain ⟨w, z⟩ := I.cell y c (mem e).1
    exact ⟨w, z.keeps kp⟩
  · show H cenv.locals = none
    rw [hL]; exact I.hok.fresh (Nat.le_refl _)
  · have e : cenv.cells.lookup y = some c := e
    exact I.freeC y c (mem e).1
  · have hp : p ∈ ([] : List (Addr × Obj)) ++ [(a, go)] := hp
    obtain rfl : p = (a, go) := by simpa using hp
    refine ⟨ha, I.hok.fresh (Nat.le_of_lt hal), by show a ≠ cenv.locals; rw [hL]; exact Nat.ne_of_gt hal, fun hb => ?_, hcell⟩
    have hb : a ∈ frs X.stack := hb
    obtain ⟨_, o, hox, _⟩ := I.stack.mem hb
    exact absurd (Nat.lt_of_lt_of_le (Heap.lt_size hox) (Nat.le_of_lt hal)) (Nat.lt_irrefl _)
/-- what the generator yields: a bool; after d it goes on, else the consumer is content -/
def GY (Xg : Cx) (pn : List (Addr × Obj)) (σ0 : L2.St) (d : Bool) (Q : VK) : Protocol := fun _ _ v s kap =>
  ∃ c H', v = .bool c ∧ Inv Xg pn σ0 H' s ∧ if c = d then (∀ s'' : Shared, s''.heap = s.heap → s''.os = s.os → AllBare s''.gens → kap (.send .none) s'') else Q (.bl c) H'
def GP (Xg : Cx) (pn : List (Addr × Obj)) (σ0 : L2.St) (d : Bool) (Q : VK) : Nat → Shared → Shared → Prop := fun _ _ s₁ => ∃ H', Inv Xg pn σ0 H' s₁ ∧ Q (.bl d) H'
abbrev GR (Xg : Cx) (pn : List (Addr × Obj)) (σ0 : L2.St) (d : Bool) (Q : VK) : GenEnd := fun n s₀ r s₁ => r = .ok .next ∧ GP Xg pn σ0 d Q n s₀ s₁
/-- how a turn goes -/
def Turns (d : Bool) (J : It) (g : TG) (tt : TT) (te : TE) (σ0 : L2.St) (vs : List Nat) (Q : VK) (W : Nat → Nat → Hp → Prop) : Prop := ∀ i m H, W i m H →
  (J.stop i H ∧ Q (.bl d) H) ∨ (J.go i H ∧ ∃ Nx : Hp → Prop, (∀ H', Nx H' → ∃ m', m' < m ∧ W (i + 1) m' H') ∧ ∀ x H', J.yld i H x H' → g x σ0 H' fun σ2 H2 => wipe σ2 vs = σ0 ∧ tt σ2 H2 fun b H3 =>
    if b = true then te σ2 H3 fun y H4 => ∃ c, y = .bl c ∧ if c = d then Nx H4 else Q (.bl c) H4 else Nx H3)
theorem gx_loop {Xg : Cx} {B : Around} {d : Bool} {J : It} {tg elt iter : Expr} {ifs : List Expr} {scope : Scope} {pos : Pos} {it : Addr} {fp : List Addr} {tn : Nat → Heap → Prop} {g : TG} {tt : TT} {te : TE} {σ0 : L2.St} {vs : List Nat} {Q : VK} {W : Nat → Nat → Hp → Prop} {pn : List (Addr × Obj)}
    (hc : Xg.calm = true) (hx : Xg.xe = fun _ _ => False) (hA : Xg.A = B.over (.compLoop (.GeneratorExp elt [⟨tg, iter, ifs, 0⟩] scope pos) 0 (.ref it) .none Xg.env) []) (hex : Xg.ex = fp) (hpn : Xg.pn = []) (hpf : ∀ p ∈ pn, p.1 ∉ fp) (hco : Xg.env.scope.isCoroutine = false)
    (T : Turn Xg.prog Xg.w Xg.K tg J fp it tn) (pg : PG Xg tg g) (pt : PTs Xg ifs tt) (pe : PE Xg elt te) (hW : Turns d J g tt te σ0 vs Q W) :
    ∀ (m i : Nat) (s₀ s : Shared) (H : Hp), Inv Xg pn σ0 H s → tn i s.heap → (∀ b ∈ fp, H b = none) → W i m H → ∀ n, m < n →
      Seg (model Xg.prog Xg.w) B (GR Xg pn σ0 d Q) (GY Xg pn σ0 d Q) n s₀ (.compLoop (.GeneratorExp elt [⟨tg, iter, ifs, 0⟩] scope pos) 0 (.ref it) .none Xg.env)
        ((model Xg.prog Xg.w).den (.compLoop (.GeneratorExp elt [⟨tg, iter, ifs, 0⟩] scope pos) 0 (.ref it) .none Xg.env)) [] s := by
  have stat : ∀ {σ' : L2.St} {H' : Hp} {s' : Shared}, Inv Xg pn σ' H' s' → (∀ b ∈ fp, H' b = none) → ∀ b ∈ fp, FpOk Xg pn H' b := fun {σ' H' s'} I' hn b hb =>
    ⟨hn b hb, (I'.ok.exf b (hex ▸ hb)).1, I'.ok.exfs b (hex ▸ hb), .inl (hex ▸ hb), fun x c e => (I'.ok.exf b (hex ▸ hb)).2 x c e, fun p hp z => by
      rw [hpn] at hp
      exact hpf p (by simpa using hp) (z ▸ hb)⟩
  intro m
  induction m using Nat.strongRecOn with
  | ind m ih =>
  intro i s₀ s H I st n0 w n hn
  show Seg _ B _ _ _ s₀ _ ((compTurn (.GeneratorExp elt [⟨tg, iter, ifs, 0⟩] scope pos) 0 (.ref it) .none Xg.env).onRaise (leaving Xg.env)) [] s
  rw [compTurn_gen, Sem.onRaise_eq_wrap]
  refine seg_bind_wrap (wpAny_standAt ?_)
  rcases hW i m H w with ⟨stop, qq⟩ | ⟨go, Nx, hNx, step⟩
  · refine seg_bind_wrap ?_
    rw [← hA]
    refine thnF (T.done Xg rfl rfl rfl hc i pn s σ0 H (fun _ _ => False) I (stat I n0) st stop) fun r s1 ⟨hr, I1⟩ => ?_
    subst hr
    exact seg_end (.ok .next) ⟨rfl, H, I1, qq⟩
  · refine seg_bind_wrap ?_
    rw [← hA]
    refine thnF (T.item Xg rfl rfl rfl hc i pn s σ0 H (fun _ _ => False) I (stat I n0) st go) fun r s6 ⟨u, hr, h6⟩ => ?_
    subst hr
    refine seg_bind_wrap ?_
    rw [← hA]
    refine thnF h6 fun _ s7 ⟨x, H7, I7, r7, y7, st7, n7⟩ => ?_
    have I7' := I7.pinned (stat I7 n7) (T.obj _ _ st7)
    refine seg_bind_wrap ?_
    rw [← hA]
    have pgr := pg.run _ s7 _ H7 x u _ I7' r7 (step x H7 y7)
    rw [hx] at pgr
    refine thnF pgr fun _ s8 ⟨σ8, H8, I8, hw8, q8⟩ => ?_
    refine seg_bind_wrap ?_
    rw [← hA]
    have ptr := pt.run _ s8 σ8 H8 _ I8 q8
    rw [hx] at ptr
    refine thnF ptr fun b s9 ⟨H9, I9, q9⟩ => ?_
    -- the turn's end
    have fin : ∀ {s' : Shared} {H' : Hp}, Inv Xg (pn ++ pinsAt fp s7.heap) σ8 H' s' → Inv Xg pn σ0 H' s' ∧ tn (i + 1) s'.heap ∧ ∀ b ∈ fp, H' b = none := fun {s' H'} I' => by
      have pin' : ∀ b ∈ fp, ∀ o, s7.heap.get? b = some o → s'.heap.get? b = some o ∧ H' b = none := fun b hb o e =>
        let z := I'.pin (b, o) (List.mem_append_right _ (List.mem_append_right _ (mem_pinsAt hb e)))
        ⟨z.1, z.2.1⟩
      refine ⟨I'.unpinned.weak (by rw [← hw8, wipe_length]) (fun j v e => by rw [← hw8] at e; exact (wipe_some e).1), T.keep _ _ _ st7 fun b hb o e => (pin' b hb o e).1, fun b hb => ?_⟩
      obtain ⟨o, e, _⟩ := T.obj _ _ st7 b hb
      exact (pin' b hb o e).2
    cases b with
    | false =>
      simp only [Bool.false_eq_true, if_false] at q9 ⊢
      obtain ⟨m', hm, w'⟩ := hNx H9 q9
      obtain ⟨J1, J2, J3⟩ := fin I9
      exact seg_again rfl (ih m' hm (i + 1) s₀ s9 H9 J1 J2 J3 w' n (Nat.lt_trans hm hn))
    | true =>
      simp only [if_true] at q9 ⊢
      have hy : ∀ v, yieldOut Xg.env v = yieldValue v := fun v => by simp only [yieldOut, hco, Bool.false_eq_true, if_false]
      simp only [hy]
      rw [Sem.bind_eq_wrap', Sem.bind_eq_wrap', Sem.wrap_wrap, Sem.wrap_wrap]
      refine seg_wrap ?_
      rw [← hA]
      have per := pe.run _ s9 σ8 H9 _ I9 q9
      rw [hx] at per
      refine thnF per fun z s10 ⟨yv, H10, I10, r10, c, ec, q10⟩ => ?_
      subst ec
      obtain rfl : z = .bool c := r10
      obtain ⟨n', rfl⟩ : ∃ n', n = n' + 1 := ⟨n - 1, by omega⟩
      obtain ⟨J1, J2, J3⟩ := fin I10
      refine seg_at (seg_yield rfl rfl rfl ⟨c, H10, rfl, J1, ?_⟩)
      split
      · rename_i hcd
        rw [if_pos hcd] at q10
        intro s'' e1 e2 e3
        obtain ⟨m', hm, w'⟩ := hNx H10 q10
        refine seg_again rfl (ih m' hm (i + 1) s'' s'' H10 (inv_gens J1 e1 e2 e3) (by rw [e1]; exact J2) J3 w' n' (by omega))
      · rename_i hcd
        rw [if_neg hcd] at q10
        exact q10
theorem gx_start {Xg : Cx} {B : Around} {R : GenEnd} {Y : Protocol} {n : Nat} {s₀ s : Shared} {J : It} {tg elt iter : Expr} {ifs : List Expr} {scope : Scope} {pos : Pos} {it : Addr} {fp : List Addr} {tn : Nat → Heap → Prop}
    (T : Turn Xg.prog Xg.w Xg.K tg J fp it tn) (st : tn 0 s.heap) (hco : scope.isCoroutine = false)
    (loop : Seg (model Xg.prog Xg.w) B R Y n s₀ (.compLoop (.GeneratorExp elt [⟨tg, iter, ifs, 0⟩] scope pos) 0 (.ref it) .none Xg.env) ((model Xg.prog Xg.w).den (.compLoop (.GeneratorExp elt [⟨tg, iter, ifs, 0⟩] scope pos) 0 (.ref it) .none Xg.env)) [] s) :
    Seg (model Xg.prog Xg.w) B R Y n s₀ (.compStart (.GeneratorExp elt [⟨tg, iter, ifs, 0⟩] scope pos) 0 (.ref it) .none Xg.env) ((model Xg.prog Xg.w).den (.compStart (.GeneratorExp elt [⟨tg, iter, ifs, 0⟩] scope pos) 0 (.ref it) .none Xg.env)) [] s := by
  show Seg _ B _ _ _ s₀ _ ((compStart (.GeneratorExp elt [⟨tg, iter, ifs, 0⟩] scope pos) 0 (.ref it) .none Xg.env).onRaise (leaving Xg.env)) [] s
  unfold compStart
  rw [Sem.onRaise_eq_wrap]
  show Seg _ B _ _ _ s₀ _ ((ask >>= _).wrap _ _ _ _) [] s
  refine seg_bind_wrap (wpAny_askSetting ?_)
  split
  · exact seg_again rfl loop
  · first
      | exact seg_bind_wrap (wpAny_rule (seg_bind_wrap (wpAny_standAt (seg_bind_wrap (T.self _ 0 s _ _ st (seg_again rfl loop))))))
      | (refine seg_bind_wrap (wpAny_rule ?_); show Seg _ B _ _ _ s₀ _ ((standAt iter.pos >>= _).wrap _ _ _ _) [] s; exact seg_bind_wrap (wpAny_standAt (seg_bind_wrap (T.self _ 0 s _ _ st (seg_again rfl loop)))))
/-- the generator, ready to yield at most n more -/
def GGo (Xg : Cx) (A : Around) (pn : List (Addr × Obj)) (σ0 : L2.St) (d : Bool) (Q : VK) (a : Addr) (g n : Nat) (s : Shared) : Prop :=
  s.heap.IsGen a g ∧ s.heap.NoLimit ∧ AllBare s.gens ∧ ∃ gs, s.gens[g]? = some gs ∧ ∀ s'' : Shared, s''.heap = s.heap → s''.os = s.os → AllBare s''.gens → gs.Goes (model Xg.prog Xg.w) A (GR Xg pn σ0 d Q) (GY Xg pn σ0 d Q) n (.send .none) s''
theorem next_gen {Xg : Cx} {A : Around} {pn : List (Addr × Obj)} {σ0 : L2.St} {d : Bool} {Q : VK} {a : Addr} {g n : Nat} {E : Value → Shared → Prop} (hh : A.handled = none) (hroom : A.depth < recursionLimit)
    (hG : ∀ (s : Shared) H', Inv Xg pn σ0 H' s → s.heap.IsGen a g) (h : GGo Xg A.in1 pn σ0 d Q a g n s) :
    wpAny (model Xg.prog Xg.w) A (pyNext (.ref a)) (fun r s' => match r with
      | none => ∃ H', Inv Xg pn σ0 H' s' ∧ Q (.bl d) H'
      | some v => ∃ c, v = .bool c ∧ if c = d then ∃ n', n = n' + 1 ∧ GGo Xg A.in1 pn σ0 d Q a g n' s' else ∃ H', Inv Xg pn σ0 H' s' ∧ Q (.bl c) H') E s := by
  obtain ⟨hg, hl, hb, gs, hgs, hgo⟩ := h
  have glt : g < s.gens.size := (Array.getElem?_eq_some_iff.mp hgs).1
  refine GenW.wpAny_gsz (n := s.gens.size) (Nat.le_refl _) ?_
  refine wpAny_pyNext_genexpQ (P := GP Xg pn σ0 d Q) hh hl hroom hg hgs (hgo _ rfl rfl (bare_setGen hb rfl)) (fun v s₁ gs' hgb hv => ?_) (fun s₁ hp h' hk => ?_)
  · intro hsz
    obtain ⟨c, H', rfl, I, q⟩ := hv
    have I' : Inv Xg pn σ0 H' (s₁.setGen g gs') := inv_gens I rfl rfl (bare_setGen I.bare hgb)
    refine ⟨c, rfl, ?_⟩
    split
    · rename_i hcd
      rw [if_pos hcd] at q
      have hsz : s.gens.size ≤ (s₁.setGen g gs').gens.size := hsz
      have e : (s₁.setGen g gs').gens[g]? = some gs' := by
        simp only [Shared.setGen, Array.size_setIfInBounds] at hsz ⊢
        rw [Array.getElem?_setIfInBounds_self_of_lt (by omega)]
      cases n with
      | zero => exact False.elim (q (s₁.setGen g gs') rfl rfl (bare_setGen I.bare hgb))
      | succ n' => exact ⟨n', rfl, hG _ H' I', I'.nolimit, I'.bare, gs', e, fun s'' e1 e2 e3 => q s'' e1 e2 e3⟩
    · rename_i hcd
      rw [if_neg hcd] at q
      exact ⟨H', I', q⟩
  · intro _
    obtain ⟨H', I, q⟩ := hp
    have I' : Inv Xg pn σ0 H' (s₁.setGen g .finished) := inv_gens I rfl rfl (bare_setGen I.bare rfl)
    exact ⟨H', I'.kept (h' := h') (t' := (s₁.setGen g .finished).toks) hk, q⟩
theorem all_loopG {Xg : Cx} {A : Around} {pn : List (Addr × Obj)} {σ0 : L2.St} {Q : VK} {a : Addr} {g : Nat} {R : Result → Shared → Prop} (hh : A.handled = none) (hroom : A.depth < recursionLimit)
    (hG : ∀ (s : Shared) H', Inv Xg pn σ0 H' s → s.heap.IsGen a g) (hR : ∀ c H' s', Inv Xg pn σ0 H' s' → Q (.bl c) H' → R (.ok (.ret (.bool c))) s') :
    ∀ (n : Nat) (s : Shared), GGo Xg A.in1.in1 pn σ0 true Q a g n s → codeAny (model Xg.prog Xg.w) A (.builtin "all.loop" ⟨[.ref a], []⟩) R s := by
  intro n
  induction n with
  | zero =>
    intro s h
    refine codeAny_builtin F.entry_all_loop ?_
    rw [Around.under_plainId F.plain_all_loop _]
    show wpAny _ A.in1 (pyNext (.ref a) >>= _) _ _ s
    refine wpAny_bind (thn (next_gen (A := A.in1) hh hroom hG h) fun r s1 h1 => ?_)
    cases r with
    | none =>
      obtain ⟨H', I, q⟩ := h1
      exact wpAny_bind (wpAny_rule (wpAny_pure (hR true H' s1 I q)))
    | some v =>
      obtain ⟨c, rfl, h1⟩ := h1
      refine wpAny_bind (wpAny_holding (wpAny_truthy_bool ?_))
      refine wpAny_bind (wpAny_letGo ?_)
      cases c with
      | true =>
        obtain ⟨n', e, _⟩ := h1
        cases e
      | false =>
        obtain ⟨H', I, q⟩ := h1
        simp only [Bool.false_eq_true, if_false]
        exact wpAny_bind (wpAny_rule (wpAny_pure (hR false H' s1 I q)))
  | succ n ih =>
    intro s h
    refine codeAny_builtin F.entry_all_loop ?_
    rw [Around.under_plainId F.plain_all_loop _]
    show wpAny _ A.in1 (pyNext (.ref a) >>= _) _ _ s
    refine wpAny_bind (thn (next_gen (A := A.in1) hh hroom hG h) fun r s1 h1 => ?_)
    cases r with
    | none =>
      obtain ⟨H', I, q⟩ := h1
      exact wpAny_bind (wpAny_rule (wpAny_pure (hR true H' s1 I q)))
    | some v =>
      obtain ⟨c, rfl, h1⟩ := h1
      refine wpAny_bind (wpAny_holding (wpAny_truthy_bool ?_))
      refine wpAny_bind (wpAny_letGo ?_)
      cases c with
      | true =>
        obtain ⟨n', e, h2⟩ := h1
        cases e
        simp only [if_true]
        exact wpAny_pure ⟨plainId_quiet F.plain_all_loop _, ih s1 h2⟩
      | false =>
        obtain ⟨H', I, q⟩ := h1
        simp only [Bool.false_eq_true, if_false]
        exact wpAny_bind (wpAny_rule (wpAny_pure (hR false H' s1 I q)))
theorem any_loopG {Xg : Cx} {A : Around} {pn : List (Addr × Obj)} {σ0 : L2.St} {Q : VK} {a : Addr} {g : Nat} {R : Result → Shared → Prop} (hh : A.handled = none) (hroom : A.depth < recursionLimit)
    (hG : ∀ (s : Shared) H', Inv Xg pn σ0 H' s → s.heap.IsGen a g) (hR : ∀ c H' s', Inv Xg pn σ0 H' s' → Q (.bl c) H' → R (.ok (.ret (.bool c))) s') :
    ∀ (n : Nat) (s : Shared), GGo Xg A.in1.in1 pn σ0 false Q a g n s → codeAny (model Xg.prog Xg.w) A (.builtin "any.loop" ⟨[.ref a], []⟩) R s := by
  intro n
  induction n with
  | zero =>
    intro s h
    refine codeAny_builtin F.entry_any_loop ?_
    rw [Around.under_plainId F.plain_any_loop _]
    show wpAny _ A.in1 (pyNext (.ref a) >>= _) _ _ s
    refine wpAny_bind (thn (next_gen (A := A.in1) hh hroom hG h) fun r s1 h1 => ?_)
    cases r with
    | none =>
      obtain ⟨H', I, q⟩ := h1
      exact wpAny_bind (wpAny_rule (wpAny_pure (hR false H' s1 I q)))
    | some v =>
      obtain ⟨c, rfl, h1⟩ := h1
      refine wpAny_bind (wpAny_holding (wpAny_truthy_bool ?_))
      refine wpAny_bind (wpAny_letGo ?_)
      cases c with
      | false =>
        obtain ⟨n', e, _⟩ := h1
        cases e
      | true =>
        obtain ⟨H', I, q⟩ := h1
        simp only [Bool.false_eq_true, if_false, if_true]
        exact wpAny_bind (wpAny_rule (wpAny_pure (hR true H' s1 I q)))
  | succ n ih =>
    intro s h
    refine codeAny_builtin F.entry_any_loop ?_
    rw [Around.under_plainId F.plain_any_loop _]
    show wpAny _ A.in1 (pyNext (.ref a) >>= _) _ _ s
    refine wpAny_bind (thn (next_gen (A := A.in1) hh hroom hG h) fun r s1 h1 => ?_)
    cases r with
    | none =>
      obtain ⟨H', I, q⟩ := h1
      exact wpAny_bind (wpAny_rule (wpAny_pure (hR false H' s1 I q)))
    | some v =>
      obtain ⟨c, rfl, h1⟩ := h1
      refine wpAny_bind (wpAny_holding (wpAny_truthy_bool ?_))
      refine wpAny_bind (wpAny_letGo ?_)
      cases c with
      | false =>
        obtain ⟨n', e, h2⟩ := h1
        cases e
        simp only [Bool.false_eq_true, if_false]
        exact wpAny_pure ⟨plainId_quiet F.plain_any_loop _, ih s1 h2⟩
      | true =>
        obtain ⟨H', I, q⟩ := h1
        simp only [Bool.false_eq_true, if_false, if_true]
        exact wpAny_bind (wpAny_rule (wpAny_pure (hR true H' s1 I q)))
theorem over_gen {B : Around} {elt : Expr} {gs : List Comprehension} {scope : Scope} {pos : Pos} {it : Value} {env : Env} : B.over (.compLoop (.GeneratorExp elt gs scope pos) 0 it .none env) [] = B.deeper env := by
  first
    | rfl
    | (obtain ⟨hd, d, fr, gds, u⟩ := B; simp [Around.over, Around.deeper, marksOver, frameCount, unitsOf, envsOf, guardsOf, pushEnvs, pushGuards, Code.envs, Code.env?, Code.isFrame, Code.guards, Code.isGuard, Code.weight, Code.frames, Code.isCreation, Code.isCaller, Code.cUnits])
/-- all (d true), any (d false) of a generator expression: W by the turn and a measure -/
def tAll (d : Bool) (P : Addr) (wi : TI) (g : TG) (tt : TT) (te : TE) (vs : List Nat) : TE := fun σ H Q => wi σ H fun J H1 => GxR.TabG H1 P ∧ ∀ H2, GxR.Tabbed P H1 H2 → ∃ W : Nat → Nat → Hp → Prop, (∃ m, W 0 m H2) ∧ Turns d J g tt te (wipe σ vs) vs Q W
end
/-- what a generator expression walks is what its iterable gives -/
def FoldOk (X : Cx) (iter : Expr) : Prop := ∀ (E : Value → Shared → Prop) (x : Value) (Q : Value → Shared → Prop) (s : Shared), Q x s → wpAny (model X.prog X.w) X.A (genFold iter X.env x) Q E s
theorem fold_pure {X : Cx} {iter : Expr} (h : ∀ v, genFold iter X.env v = pure v) : FoldOk X iter := fun E x Q s q => by
  rw [h]
  exact wpAny_pure q
theorem fold_star {X : Cx} {es : List Expr} {p : Pos} (h : (es.any fun | .Starred .. => true | _ => false) = true) : FoldOk X (.List es p) := fun E x Q s q => by
  show wpAny _ _ (foldedIterable (.List es p) x) Q E s
  unfold foldedIterable
  refine wpAny_bind (wpAny_askSetting ?_)
  split
  · exact wpAny_pure q
  · show wpAny _ _ (if (es.any fun | .Starred .. => true | _ => false) = true then pure x else _) Q E s
    rw [if_pos h]
    exact wpAny_pure q
theorem make_gen {M : Model} {A : Around} {E : Value → Shared → Prop} {s : Shared} {env : Env} {elt target iter : Expr} {ifs : List Expr} {scope : Scope} {cl : List (Str × Addr)} {pos : Pos} {Q : Value → Shared → Prop}
    (hco : scope.isCoroutine = false) (hclos : closureFor scope env = pure cl) (hcell : ∀ y ∈ scope.names, y.2 ≠ .cell) (h0 : scope.names.lookup (".0" : Str) = some NameKind.local) (hkind : scope.kind = .function) (hroom : A.depth < recursionLimit)
    (h : wpAny M A (eval iter env) (fun xv s₁ => wpAny M A (pyIter xv) (fun it s₂ => s₂.heap.NoLimit ∧
      wpAny M A (genexprCode env pos (env.qual ++ "<genexpr>") scope) (fun code s₃ => wpAny M A (builtinsFor env.globals env.builtins) (fun bi s₄ =>
        ∀ h', h'.Ns s₄.heap.objs.size (fun y => if y = ".0" then some it else none) → Heap.SameBut s₄.heap.objs.size (s₄.heap.push { cls := .type "frame", data := .dict #[] }) h' →
          Q (.ref h'.objs.size) { s₄ with
            gens := s₄.gens.push (.fresh (.compStart (.GeneratorExp elt [⟨target, iter, ifs, 0⟩] scope pos) 0 it .none (genEnv scope cl s₄.heap.objs.size code bi env))),
            toks := s₄.toks + 1 + 1 + 1,
            heap := h'.push { cls := .type "generator", data := .fields #[.int s₄.gens.size 0, .str "<genexpr>" (s₄.toks + 1), .str (env.qual ++ "<genexpr>") (s₄.toks + 1 + 1)] } }) E s₃) E s₂) E s₁) E s)
    (hs : ∀ (x : Value) (Q' : Value → Shared → Prop) (s' : Shared), Q' x s' → wpAny M A (genFold iter env x) Q' E s') :
    wpAny M A (eval (.GeneratorExp elt [⟨target, iter, ifs, 0⟩] scope pos) env) Q E s := by
  rw [eval_GeneratorExp1 _ _ _ _ _ _ _ hco, hclos]
  refine wpAny_bind (thn h fun xv s₁ h₁ => wpAny_bind (wpAny_standAt (wpAny_bind (hs xv _ _ ?_))))
  refine wpAny_bind (wpAny_holding (thn h₁ fun it s₂ h₂ => wpAny_bind (wpAny_enterFrame h₂.1 hroom ?_)))
  refine wpAny_bind (wpAny_pure (wpAny_bind (thn h₂.2 fun code s₃ h₃ => wpAny_bind (thn h₃ fun bi s₄ h₄ => ?_))))
  have hb : ∀ y ∈ ([((".0" : Str), it)] : List (Str × Value)), scope.names.lookup y.1 = some NameKind.local := fun y hy => by
    obtain rfl : y = ((".0" : Str), it) := by simpa using hy
    exact h0
  refine wpAny_bind (wpAny_newFunctionEnv hcell hb (fun h' hn' hs' => ?_) hkind)
  have e : (fun y : Str => ([((".0" : Str), it)] : List (Str × Value)).reverse.lookup y) = fun y : Str => if y = (".0" : Str) then some it else none := by
    funext y
    by_cases hy : y = ".0"
    · subst hy; simp
    · have : (y == (".0" : Str)) = false := by simpa using hy
      simp [List.lookup, this, hy]
  rw [e] at hn'
  simp only [newGenerator, newFields]
  exact wpAny_bind (wpAny_newGen (wpAny_bind (wpAny_mkText (wpAny_bind (wpAny_mkText (wpAny_newObj_type (h₄ h' hn' hs') (by size_fits)))))))
/-- the generator is made -/
def Made (X : Cx) (pins : List (Addr × Obj)) (σ : L2.St) (σ0 : L2.St) (d : Bool) (Q : VK) (v : Value) (s5 : Shared) : Prop :=
  ∃ a g n Xg pn, v = .ref a ∧ Xg.prog = X.prog ∧ Xg.w = X.w ∧ s5.heap.IsGen a g ∧ GGo Xg X.A.in1.in1 pn σ0 d Q a g n s5 ∧ (∀ (s : Shared) H', Inv Xg pn σ0 H' s → s.heap.IsGen a g) ∧ ∀ (s' : Shared) H', Inv Xg pn σ0 H' s' → Inv X pins σ H' s'
section
variable {X : Cx} {pins : List (Addr × Obj)} {σ : L2.St} {H : Hp} {s : Shared}
theorem gen_make {c P : Addr} {d : Bool} {elt tg iter : Expr} {ifs : List Expr} {scope : Scope} {own : List (Str × Nat)} {gpos : Pos} {wi : TI} {g : TG} {tt : TT} {te : TE} {k : Nat} {Q : VK}
    (hr : Room k X.A) (TB : GxR.TabB X.base X.mg c P) (hcode : X.env.code = .ref c) (ok : GenOk X.N X.env.scope scope own) (hc : X.calm = true) (hN : X.N.Nodup) (hi : PI X tg iter wi)
    (hg : ∀ (s : Shared) (H : Hp) (C : Addr) (cl : List (Str × Addr)) (code : Value) (fp : List Addr), PG (cxGen X (X.A.in1.in1.deeper (genEnv scope cl C code builtinsNs X.env)) s H (genEnv scope cl C code builtinsNs X.env) fp) tg g)
    (ht : ∀ (s : Shared) (H : Hp) (C : Addr) (cl : List (Str × Addr)) (code : Value) (fp : List Addr), PTs (cxGen X (X.A.in1.in1.deeper (genEnv scope cl C code builtinsNs X.env)) s H (genEnv scope cl C code builtinsNs X.env) fp) ifs tt)
    (he : ∀ (s : Shared) (H : Hp) (C : Addr) (cl : List (Str × Addr)) (code : Value) (fp : List Addr), PE (cxGen X (X.A.in1.in1.deeper (genEnv scope cl C code builtinsNs X.env)) s H (genEnv scope cl C code builtinsNs X.env) fp) elt te)
    (hs : FoldOk X iter) (I : Inv X pins σ H s) (h : tAll d P wi g tt te (own.map (·.2)) σ H Q) :
    wpAny (model X.prog X.w) X.A (eval (.GeneratorExp elt [⟨tg, iter, ifs, 0⟩] scope gpos) X.env) (Made X pins σ (wipe σ (own.map (·.2))) d Q) X.xe s := by
  have hfree : ∀ y ∈ scope.names, y.2 = .free → ∃ c, X.env.cells.lookup y.1 = some c := fun y hy e => by
    rcases ok.free y hy e with k | k
    · exact I.ok.has _ (.inl k)
    · exact I.ok.has _ (.inr k)
  refine make_gen ok.co (closure_ok hfree) ok.cell ok.dot ok.kind (by have := hr.dp; omega)
    (thn (hi.run pins s σ H _ I h) fun xv s1 hx => thn hx fun itv s2 h2 => ?_) fun x Q' s' q => hs _ x Q' s' q
  obtain ⟨it, fp, tn, J, H1, e, I1, T, st2, f2, ⟨ps, hP, ht3⟩, q⟩ := h2
  subst e
  have hPs : s2.heap.get? P = some { cls := .none, data := .fields ps } := I1.hok P _ hP
  have cd : PySem.W.CodeHd s2.heap c P := TB.code.keeps fun b u e => I1.bk b u e
  have nP : ∀ b ∈ fp, b ≠ P := fun b hb z => by
    have := (f2 b hb).1
    rw [z, hP] at this
    cases this
  have cont : ∀ (code : Value) (h3 : Heap) (tk : Nat) (ps' : Array Value), Heap.ExtBut P s2.heap h3 → s2.heap.objs.size ≤ h3.objs.size → h3.get? P = some { cls := .none, data := .fields ps' } → (∃ more, ps' = ps ++ more) → TriplesOk ps'.toList →
      wpAny (model X.prog X.w) X.A (builtinsFor X.env.globals X.env.builtins) (fun bi s₄ =>
        ∀ h', h'.Ns s₄.heap.objs.size (fun y => if y = ".0" then some (.ref it) else none) → Heap.SameBut s₄.heap.objs.size (s₄.heap.push { cls := .type "frame", data := .dict #[] }) h' →
          Made X pins σ (wipe σ (own.map (·.2))) d Q (.ref h'.objs.size) { s₄ with
            gens := s₄.gens.push (.fresh (.compStart (.GeneratorExp elt [⟨tg, iter, ifs, 0⟩] scope gpos) 0 (.ref it) .none (genEnv scope (cloFrom X.env.cells scope.names []) s₄.heap.objs.size code bi X.env))),
            toks := s₄.toks + 1 + 1 + 1,
            heap := h'.push { cls := .type "generator", data := .fields #[.int s₄.gens.size 0, .str "<genexpr>" (s₄.toks + 1), .str (X.env.qual ++ "<genexpr>") (s₄.toks + 1 + 1)] } }) X.xe { s2 with heap := h3, toks := tk } := by
    intro code h3 tk ps' hx hsz hP3 hmore ht3
    obtain ⟨bm, ob, e1, e2, e3, e4, e5, e6, e7, e8⟩ := TB.bm
    have keep3 : ∀ b u, b ≠ P → s2.heap.get? b = some u → h3.get? b = some u := fun b u hb e => hx b u hb e
    refine wpAny_builtinsFor (m := X.mg) (by rw [I1.ok.glob]; exact ((I1.mod.glob.keeps I1.bk)).extBut hx TB.gP) e1 e2 (keep3 _ _ e4 (I1.bk _ _ e5)) e6 e7 e8 ?_
    obtain ⟨more, rfl⟩ := hmore
    have I4 : Inv X pins σ (upd H1 P (.tbl (ps ++ more))) { s2 with heap := h3, toks := tk } :=
      GxR.inv_tab (more := more) (h' := h3) (g' := s2.gens) (d' := s2.drawn) (t' := tk) I1 hP keep3 hP3 I1.bare
    have hT : GxR.Tabbed P H1 (upd H1 P (.tbl (ps ++ more))) := ⟨⟨ps ++ more, upd_same, ht3⟩, fun b hb => upd_ne hb⟩
    obtain ⟨W, ⟨m0, w0⟩, turn⟩ := q _ hT
    generalize hs4 : ({ s2 with heap := h3, toks := tk } : Shared) = s4 at I4 ⊢
    have h4 : s4.heap = h3 := by rw [← hs4]
    have g4 : s4.gens = s2.gens := by rw [← hs4]
    have o4 : s4.os = s2.os := by rw [← hs4]
    have st4 : tn 0 s4.heap := T.keep _ _ _ st2 fun b hb o e => by rw [h4]; exact keep3 b o (nP b hb) e
    have f4 : ∀ b ∈ fp, FpOk X pins (upd H1 P (.tbl (ps ++ more))) b ∧ b < s4.heap.objs.size := fun b hb => by
      obtain ⟨o, e, _⟩ := T.obj _ _ st4 b hb
      refine ⟨⟨?_, (f2 b hb).2⟩, Heap.lt_size e⟩
      rw [upd_ne (nP b hb)]
      exact (f2 b hb).1
    intro h' hn' hs'
    generalize hgo : ({ cls := .type "generator", data := .fields #[.int s4.gens.size 0, .str "<genexpr>" (s4.toks + 1), .str (X.env.qual ++ "<genexpr>") (s4.toks + 1 + 1)] } : Obj) = go
    have hsz' : h'.objs.size = s4.heap.objs.size + 1 := by rw [hs'.1, Heap.size_push]
    have keep' : ∀ b o, s4.heap.get? b = some o → h'.get? b = some o := fun b o e => hs'.extBut b o (Nat.ne_of_lt (Heap.lt_size e)) (Heap.get?_push_of_some _ e)
    have keep5 : ∀ b o, s4.heap.get? b = some o → (h'.push go).get? b = some o := fun b o e => Heap.get?_push_of_some _ (keep' b o e)
    have hgf : go.isFreed = false := by rw [← hgo]; rfl
    have hga : (h'.push go).get? h'.objs.size = some go := Heap.get?_push_size _ hgf
    have isg : ∀ h : Heap, h.get? h'.objs.size = some go → h.IsGen h'.objs.size s4.gens.size := fun h e => ⟨go, _, _, e, by rw [← hgo], by rw [← hgo], by rw [← hgo]⟩
    have hhd : (X.A.in1.in1.deeper (genEnv scope (cloFrom X.env.cells scope.names []) s4.heap.objs.size code builtinsNs X.env)).handled = none := hr.hd
    have hfr : (X.A.in1.in1.deeper (genEnv scope (cloFrom X.env.cells scope.names []) s4.heap.objs.size code builtinsNs X.env)).frames = some (genEnv scope (cloFrom X.env.cells scope.names []) s4.heap.objs.size code builtinsNs X.env :: X.stack) := by
      show (X.A.frames).map _ = _
      rw [I.ok.frames]
      rfl
    have pg := hg s4 (upd H1 P (.tbl (ps ++ more))) s4.heap.objs.size (cloFrom X.env.cells scope.names []) code fp
    have pt := ht s4 (upd H1 P (.tbl (ps ++ more))) s4.heap.objs.size (cloFrom X.env.cells scope.names []) code fp
    have pe := he s4 (upd H1 P (.tbl (ps ++ more))) s4.heap.objs.size (cloFrom X.env.cells scope.names []) code fp
    have Ig := fun (s5 : Shared) (kp : ∀ b o, s4.heap.get? b = some o → s5.heap.get? b = some o) (hns : s5.heap.Ns s4.heap.objs.size (fun y => if y = ".0" then some (.ref it) else none)) (ho : s5.os = s4.os) (hgb : AllBare s5.gens) (hax : s5.heap.get? h'.objs.size = some go) =>
      gen_start (code := code) (bi := builtinsNs) (go := go) I4 ok hN f4 hhd hfr rfl kp hns ho hgb hax (by rw [hsz']; exact Nat.lt_succ_self _) (by intro v; rw [← hgo]; intro z; cases z)
    generalize hce : genEnv scope (cloFrom X.env.cells scope.names []) s4.heap.objs.size code builtinsNs X.env = ce at hhd hfr pg pt pe Ig ⊢
    have hB : AllBare (s4.gens.push (.fresh (.compStart (.GeneratorExp elt [⟨tg, iter, ifs, 0⟩] scope gpos) 0 (.ref it) .none ce))) := I4.bare.push rfl
    refine ⟨h'.objs.size, s4.gens.size, m0 + 1, cxGen X (X.A.in1.in1.deeper ce) s4 (upd H1 P (.tbl (ps ++ more))) ce fp, [(h'.objs.size, go)], rfl, rfl, rfl, isg _ hga, ⟨isg _ hga, ?_, hB, _, Array.getElem?_push_size .., fun s'' e1 e2 e3 => ⟨rfl, ?_⟩⟩, fun s' H' I' => ?_, fun s' H' I' => ?_⟩
    · exact (Ig ({ s4 with gens := s4.gens.push (.fresh (.compStart (.GeneratorExp elt [⟨tg, iter, ifs, 0⟩] scope gpos) 0 (.ref it) .none ce)), toks := s4.toks + 1 + 1 + 1, heap := h'.push go } : Shared) keep5 (hn'.push _) rfl hB hga).nolimit
    · have I5 := Ig s'' (by rw [e1]; exact keep5) (by rw [e1]; exact hn'.push _) e2 e3 (by rw [e1]; exact hga)
      have st5 : tn 0 s''.heap := T.keep _ _ _ st4 fun b _ o e => by rw [e1]; exact keep5 b o e
      refine gx_start (Xg := cxGen X (X.A.in1.in1.deeper ce) s4 (upd H1 P (.tbl (ps ++ more))) ce fp) T st5 ok.co ?_
      refine gx_loop rfl rfl over_gen.symm rfl rfl (fun p hp hb => ?_) (by show ce.scope.isCoroutine = false; rw [← hce]; exact ok.co) T pg pt pe turn m0 0 s'' s'' _ I5 st5 (fun b hb => (f4 b hb).1.1) w0 (m0 + 1) (Nat.lt_succ_self _)
      obtain rfl : p = (h'.objs.size, go) := by simpa using hp
      have := (f4 _ hb).2
      have q : h'.objs.size < s4.heap.objs.size := this
      omega
    · exact isg _ (I'.pin (h'.objs.size, go) (by show _ ∈ ([] : List (Addr × Obj)) ++ [_]; simp)).1
    · exact I4.call' (ch := fp) I'.os I'.base I'.hok I'.bare fun b hb => ⟨(f4 b hb).1.2.2.2.1, (f4 b hb).1.2.1, (f4 b hb).1.2.2.2.2.1, (f4 b hb).1.2.2.2.2.2⟩
  refine ⟨I1.nolimit, ?_⟩
  cases hf : codeAmong gpos ps.toList with
  | none =>
    refine wpAny_genexprCodeX hcode (cd.code hPs ht3) (cd.tab hPs) hf fun c' h' tk hx hge hlt hco' _ htab' _ => ?_
    obtain ⟨o1, vs, f1, tf, fl, tg, inF, tx, tt, op, _, _, _, _, _, _, _, _, _, htr, _⟩ := hco'
    exact cont _ h' tk _ hx (Nat.le_trans hge (Nat.le_of_lt hlt)) htab'.2 ⟨_, rfl⟩ htr
  | some cv =>
    refine wpAny_genexprCode_hit hcode (cd.code hPs ht3) hf ?_
    exact cont cv s2.heap s2.toks ps (Heap.ExtBut.refl _ _) (Nat.le_refl _) hPs ⟨#[], by simp⟩ ht3
theorem call_allG {d : Bool} {σ0 : L2.St} {Q : VK} {v : Value} {k : Nat} (hr : Room k X.A) (h : Made X pins σ σ0 true Q v s) :
    wpAny (model X.prog X.w) X.A (call (.builtin "all") [v]) (EP X pins σ Q) X.xe s := by
  obtain ⟨a, g, n, Xg, pn, rfl, e1, e2, hg, hgo, hG, hB⟩ := h
  refine call_function_tree F.kind_all F.plain_all F.entry_all (F.args_all1 _) ?_
  unfold Builtin.«all»
  refine wpAny_bind (m := oneArg "all" _) (wpAny_pure ?_)
  refine wpAny_bind (wpAny_pyIter_gen hg ?_)
  refine wpAny_pure ⟨plainId_quiet F.plain_all_loop _, ?_⟩
  rw [← e1, ← e2]
  exact all_loopG (A := X.A) hr.hd (by have := hr.dp; omega) hG (fun c H' s' I' q => ⟨.bl c, H', hB _ _ I', rfl, q⟩) n s hgo
theorem pe_allG {c P : Addr} {elt tg iter : Expr} {ifs : List Expr} {scope : Scope} {own : List (Str × Nat)} {p pos gpos : Pos} {wi : TI} {g : TG} {tt : TT} {te : TE} {k : Nat}
    (hr : Room k X.A) (hgl : Gl X "all") (hm : X.mg "all" = none) (hb : bootBuiltins "all" = some (.builtin "all")) (TB : GxR.TabB X.base X.mg c P) (hcode : X.env.code = .ref c) (ok : GenOk X.N X.env.scope scope own) (hc : X.calm = true) (hN : X.N.Nodup) (hi : PI X tg iter wi)
    (hg : ∀ (s : Shared) (H : Hp) (C : Addr) (cl : List (Str × Addr)) (code : Value) (fp : List Addr), PG (cxGen X (X.A.in1.in1.deeper (genEnv scope cl C code builtinsNs X.env)) s H (genEnv scope cl C code builtinsNs X.env) fp) tg g)
    (ht : ∀ (s : Shared) (H : Hp) (C : Addr) (cl : List (Str × Addr)) (code : Value) (fp : List Addr), PTs (cxGen X (X.A.in1.in1.deeper (genEnv scope cl C code builtinsNs X.env)) s H (genEnv scope cl C code builtinsNs X.env) fp) ifs tt)
    (he : ∀ (s : Shared) (H : Hp) (C : Addr) (cl : List (Str × Addr)) (code : Value) (fp : List Addr), PE (cxGen X (X.A.in1.in1.deeper (genEnv scope cl C code builtinsNs X.env)) s H (genEnv scope cl C code builtinsNs X.env) fp) elt te)
    (hs : FoldOk X iter := by first | exact fold_pure (by intro _; rfl) | exact fold_star rfl)
    (hst : starEach [.GeneratorExp elt [⟨tg, iter, ifs, 0⟩] scope gpos] X.env = (false, eval (.GeneratorExp elt [⟨tg, iter, ifs, 0⟩] scope gpos) X.env) :: starEach [] X.env := by rfl) :
    PE X (.Call (.Name "all" p) [.GeneratorExp elt [⟨tg, iter, ifs, 0⟩] scope gpos] [] pos) (tAll true P wi g tt te (own.map (·.2))) := by
  refine ⟨fun pins s σ H Q I h => ?_⟩
  refine wpAny_Call_Name_kw (ld_blt I hgl hm hb ?_)
  refine PyProof.Rows.callWith_builtin1 ?_ hst (by rfl)
  rw [hst]
  show wpAny _ _ (spliced ((false, eval (.GeneratorExp elt [⟨tg, iter, ifs, 0⟩] scope gpos) X.env) :: backTo pos (starEach [] X.env))) _ _ s
  refine Calls.spliced_cons (thn (gen_make hr TB hcode ok hc hN hi hg ht he hs I h) fun v s5 hM => ?_)
  refine Calls.spliced_nil ?_
  exact call_allG (d := true) hr hM
theorem call_anyG {d : Bool} {σ0 : L2.St} {Q : VK} {v : Value} {k : Nat} (hr : Room k X.A) (h : Made X pins σ σ0 false Q v s) :
    wpAny (model X.prog X.w) X.A (call (.builtin "any") [v]) (EP X pins σ Q) X.xe s := by
  obtain ⟨a, g, n, Xg, pn, rfl, e1, e2, hg, hgo, hG, hB⟩ := h
  refine call_function_tree F.kind_any F.plain_any F.entry_any (F.args_any1 _) ?_
  unfold Builtin.«any»
  refine wpAny_bind (m := oneArg "any" _) (wpAny_pure ?_)
  refine wpAny_bind (wpAny_pyIter_gen hg ?_)
  refine wpAny_pure ⟨plainId_quiet F.plain_any_loop _, ?_⟩
  rw [← e1, ← e2]
  exact any_loopG (A := X.A) hr.hd (by have := hr.dp; omega) hG (fun c H' s' I' q => ⟨.bl c, H', hB _ _ I', rfl, q⟩) n s hgo
theorem pe_anyG {c P : Addr} {elt tg iter : Expr} {ifs : List Expr} {scope : Scope} {own : List (Str × Nat)} {p pos gpos : Pos} {wi : TI} {g : TG} {tt : TT} {te : TE} {k : Nat}
    (hr : Room k X.A) (hgl : Gl X "any") (hm : X.mg "any" = none) (hb : bootBuiltins "any" = some (.builtin "any")) (TB : GxR.TabB X.base X.mg c P) (hcode : X.env.code = .ref c) (ok : GenOk X.N X.env.scope scope own) (hc : X.calm = true) (hN : X.N.Nodup) (hi : PI X tg iter wi)
    (hg : ∀ (s : Shared) (H : Hp) (C : Addr) (cl : List (Str × Addr)) (code : Value) (fp : List Addr), PG (cxGen X (X.A.in1.in1.deeper (genEnv scope cl C code builtinsNs X.env)) s H (genEnv scope cl C code builtinsNs X.env) fp) tg g)
    (ht : ∀ (s : Shared) (H : Hp) (C : Addr) (cl : List (Str × Addr)) (code : Value) (fp : List Addr), PTs (cxGen X (X.A.in1.in1.deeper (genEnv scope cl C code builtinsNs X.env)) s H (genEnv scope cl C code builtinsNs X.env) fp) ifs tt)
    (he : ∀ (s : Shared) (H : Hp) (C : Addr) (cl : List (Str × Addr)) (code : Value) (fp : List Addr), PE (cxGen X (X.A.in1.in1.deeper (genEnv scope cl C code builtinsNs X.env)) s H (genEnv scope cl C code builtinsNs X.env) fp) elt te)
    (hs : FoldOk X iter := by first | exact fold_pure (by intro _; rfl) | exact fold_star rfl)
    (hst : starEach [.GeneratorExp elt [⟨tg, iter, ifs, 0⟩] scope gpos] X.env = (false, eval (.GeneratorExp elt [⟨tg, iter, ifs, 0⟩] scope gpos) X.env) :: starEach [] X.env := by rfl) :
    PE X (.Call (.Name "any" p) [.GeneratorExp elt [⟨tg, iter, ifs, 0⟩] scope gpos] [] pos) (tAll false P wi g tt te (own.map (·.2))) := by
  refine ⟨fun pins s σ H Q I h => ?_⟩
  refine wpAny_Call_Name_kw (ld_blt I hgl hm hb ?_)
  refine PyProof.Rows.callWith_builtin1 ?_ hst (by rfl)
  rw [hst]
  show wpAny _ _ (spliced ((false, eval (.GeneratorExp elt [⟨tg, iter, ifs, 0⟩] scope gpos) X.env) :: backTo pos (starEach [] X.env))) _ _ s
  refine Calls.spliced_cons (thn (gen_make hr TB hcode ok hc hN hi hg ht he hs I h) fun v s5 hM => ?_)
  refine Calls.spliced_nil ?_
  exact call_anyG (d := false) hr hM
end
end Gx
-- Sw1.lean
set_option Elab.async false
set_option linter.all false
set_option maxRecDepth 100000
set_option maxHeartbeats 1000000
/-! Sw1: what holds of a run's outcome, rule by rule, from its front. -/
namespace Sh
open PySem L2
abbrev SL := List Slot
def wp {α : Type} (x : Option α) (Q : α → Prop) : Prop := ∃ a, x = some a ∧ Q a
def wp2 {α : Type} (x : Option (α × SL)) (Q : α → SL → Prop) : Prop := ∃ a s, x = some (a, s) ∧ Q a s
theorem wp_mono {α : Type} {x : Option α} {Q R : α → Prop} (h : wp x Q) (i : ∀ a, Q a → R a) : wp x R := by
  obtain ⟨a, e, q⟩ := h
  exact ⟨a, e, i a q⟩
theorem wp2_mono {α : Type} {x : Option (α × SL)} {Q R : α → SL → Prop} (h : wp2 x Q) (i : ∀ a s, Q a s → R a s) : wp2 x R := by
  obtain ⟨a, s, e, q⟩ := h
  exact ⟨a, s, e, i a s q⟩
theorem wp_is {α : Type} {x : Option α} {a : α} {Q : α → Prop} (e : x = some a) (q : Q a) : wp x Q := ⟨a, e, q⟩
theorem wp2_is {α : Type} {x : Option (α × SL)} {a : α} {s : SL} {Q : α → SL → Prop} (e : x = some (a, s)) (q : Q a s) : wp2 x Q := ⟨a, s, e, q⟩
theorem wp_bnd {α β : Type} {x : Option α} {f : α → Option β} {Q : β → Prop} (h : wp x fun a => wp (f a) Q) : wp (x.bind f) Q := by
  obtain ⟨a, e1, b, e2, q⟩ := h
  exact ⟨b, by rw [e1]; exact e2, q⟩
theorem wp_bnd2 {α β : Type} {x : Option (α × SL)} {f : α × SL → Option β} {Q : β → Prop} (h : wp2 x fun a s => wp (f (a, s)) Q) : wp (x.bind f) Q := by
  obtain ⟨a, s, e1, b, e2, q⟩ := h
  exact ⟨b, by rw [e1]; exact e2, q⟩
theorem wp2_bnd {α β : Type} {x : Option α} {f : α → Option (β × SL)} {Q : β → SL → Prop} (h : wp x fun a => wp2 (f a) Q) : wp2 (x.bind f) Q := by
  obtain ⟨a, e1, b, s, e2, q⟩ := h
  exact ⟨b, s, by rw [e1]; exact e2, q⟩
theorem wp2_bnd2 {α β : Type} {x : Option (α × SL)} {f : α × SL → Option (β × SL)} {Q : β → SL → Prop} (h : wp2 x fun a s => wp2 (f (a, s)) Q) : wp2 (x.bind f) Q := by
  obtain ⟨a, s, e1, b, s2, e2, q⟩ := h
  exact ⟨b, s2, by rw [e1]; exact e2, q⟩
/-- a branch -/
def kIf (b : Bool) (P R : Prop) : Prop := if b = true then P else R
theorem kIf_t {b : Bool} {P R : Prop} (h : b = true) (p : P) : kIf b P R := by
  subst h
  exact p
theorem kIf_f {b : Bool} {P R : Prop} (h : b = false) (p : R) : kIf b P R := by
  subst h
  exact p
theorem kIf_s {b : Bool} {P R : Prop} (h1 : b = true → P) (h2 : b = false → R) : kIf b P R := by
  cases b with
  | true => exact h1 rfl
  | false => exact h2 rfl
theorem kIf_d {p : Prop} [Decidable p] {P R : Prop} (h1 : p → P) (h2 : ¬ p → R) : kIf (decide p) P R := kIf_s (fun h => h1 (of_decide_eq_true h)) fun h => h2 (of_decide_eq_false h)
theorem kIf_nd {p : Prop} [Decidable p] {P R : Prop} (h1 : ¬ p → P) (h2 : p → R) : kIf (!decide p) P R := kIf_s (fun h => h1 (of_decide_eq_false (by simpa using h))) fun h => h2 (of_decide_eq_true (by simpa using h))
theorem wp_if {α : Type} {b : Bool} {x y : Option α} {Q : α → Prop} (h : kIf b (wp x Q) (wp y Q)) : wp (if b = true then x else y) Q := by
  cases b <;> exact h
theorem wp2_if {α : Type} {b : Bool} {x y : Option (α × SL)} {Q : α → SL → Prop} (h : kIf b (wp2 x Q) (wp2 y Q)) : wp2 (if b = true then x else y) Q := by
  cases b <;> exact h
/-- a check -/
theorem wp_ck {α : Type} {c : Prop} [Decidable c] {x : Option α} {Q : α → Prop} (h : c) (q : wp x Q) : wp (if c then x else none) Q := by
  rw [if_pos h]
  exact q
theorem wp2_ck {α : Type} {c : Prop} [Decidable c] {x : Option (α × SL)} {Q : α → SL → Prop} (h : c) (q : wp2 x Q) : wp2 (if c then x else none) Q := by
  rw [if_pos h]
  exact q
/-! ### expressions -/
theorem v_var {i : Nat} {s : SL} {d : D} {Q : Op → SL → Prop} (h : s[i]? = some (.fz d)) (q : Q (.v d) s) : wp2 (mVar i s) Q := ⟨_, _, by unfold mVar; rw [h], q⟩
theorem v_own {i : Nat} {s : SL} {p : Bool} {k : Cont} {Q : Op → SL → Prop} (h : s[i]? = some (.ow p k)) (q : Q (.sl i) s) : wp2 (mVar i s) Q := ⟨_, _, by unfold mVar; rw [h], q⟩
theorem v_c {d : D} {s : SL} {Q : Op → SL → Prop} (q : Q (.v d) s) : wp2 (mC d s) Q := ⟨_, _, rfl, q⟩
/-- what an operation gives -/
def kR (Q : Op → SL → Prop) (s : SL) : Res → Prop := fun r => Q r.op s
theorem kR_d {Q : Op → SL → Prop} {s : SL} {d : D} (q : Q (.v d) s) : kR Q s (.d d) := q
theorem kR_l {Q : Op → SL → Prop} {s : SL} {ds : List D} (q : Q (.nw (.lst ds)) s) : kR Q s (.nl ds) := q
theorem wp_res {x : Option Res} {s : SL} {Q : Op → SL → Prop} (h : wp x (kR Q s)) : wp2 (x.bind fun r => some (r.op, s)) Q := by
  obtain ⟨r, e, q⟩ := h
  exact ⟨r.op, s, by rw [e]; rfl, q⟩
theorem v_bin {f : D → D → Option Res} {ma mb : M} {s : SL} {Q : Op → SL → Prop} (h : wp2 (ma s) fun o1 s1 => wp2 (mb s1) fun o2 s2 => wp (cD s2 o1) fun d => wp (cD s2 o2) fun e => wp (f d e) (kR Q s2)) : wp2 (mBin f ma mb s) Q :=
  wp2_bnd2 (wp2_mono h fun _ _ h => wp2_bnd2 (wp2_mono h fun _ _ h => wp2_bnd (wp_mono h fun _ h => wp2_bnd (wp_mono h fun _ h => wp_res h))))
theorem v_un {f : D → Option Res} {ma : M} {s : SL} {Q : Op → SL → Prop} (h : wp2 (ma s) fun o1 s1 => wp (cD s1 o1) fun d => wp (f d) (kR Q s1)) : wp2 (mUn f ma s) Q :=
  wp2_bnd2 (wp2_mono h fun _ _ h => wp2_bnd (wp_mono h fun _ h => wp_res h))
theorem v_call {f : List D → Option Res} {ma : MA} {s : SL} {Q : Op → SL → Prop} (h : wp2 (ma s) fun os s1 => wp (cDs s1 os) fun ds => wp (f ds) (kR Q s1)) : wp2 (mCall f ma s) Q :=
  wp2_bnd2 (wp2_mono h fun _ _ h => wp2_bnd (wp_mono h fun _ h => wp_res h))
theorem a_nil {s : SL} {Q : List Op → SL → Prop} (q : Q [] s) : wp2 (mANil s) Q := ⟨_, _, rfl, q⟩
theorem a_cons {m : M} {n : MA} {s : SL} {Q : List Op → SL → Prop} (h : wp2 (m s) fun o s1 => wp2 (n s1) fun os s2 => Q (o :: os) s2) : wp2 (mACons m n s) Q :=
  wp2_bnd2 (wp2_mono h fun _ _ h => wp2_bnd2 (wp2_mono h fun _ _ h => ⟨_, _, rfl, h⟩))
theorem v_fz {m : M} {s : SL} {Q : Op → SL → Prop} (h : wp2 (m s) fun o s1 => wp2 (frz1 s1 o) fun d s2 => Q (.v d) s2) : wp2 (mFz m s) Q :=
  wp2_bnd2 (wp2_mono h fun _ _ h => wp2_bnd2 (wp2_mono h fun _ _ h => ⟨_, _, rfl, h⟩))
theorem fz_v {d : D} {s : SL} {Q : D → SL → Prop} (q : Q d s) : wp2 (frz1 s (.v d)) Q := ⟨_, _, rfl, q⟩
theorem fz_nw {k : Cont} {d : D} {s : SL} {Q : D → SL → Prop} (h : asD k = some d) (q : Q d s) : wp2 (frz1 s (.nw k)) Q := ⟨_, _, by show (asD k).bind _ = _; rw [h]; rfl, q⟩
theorem fz_sl {i : Nat} {p : Bool} {k : Cont} {d : D} {s : SL} {Q : D → SL → Prop} (h : s[i]? = some (.ow p k)) (h2 : asD k = some d) (q : Q d (s.set i (.fz d))) : wp2 (frz1 s (.sl i)) Q := ⟨_, _, by
  show (match s[i]? with | some (.fz d) => some (d, s) | some (.ow _ k) => (asD k).bind fun d => some (d, s.set i (.fz d)) | _ => none) = _
  rw [h]
  show (asD k).bind _ = _
  rw [h2]
  rfl, q⟩
theorem wp_opsD {os : List Op} {ds : List D} {Q : List D → Prop} (h : opsD os = some ds) (q : Q ds) : wp (opsD os) Q := ⟨_, h, q⟩
theorem v_tup {n : MA} {s : SL} {Q : Op → SL → Prop} (h : wp2 (n s) fun os s1 => wp (opsD os) fun ds => ds.length ≤ 100000 ∧ Q (.v (.tuple ds)) s1) : wp2 (mTup n s) Q :=
  wp2_bnd2 (wp2_mono h fun _ _ h => wp2_bnd (wp_mono h fun _ h => wp2_ck h.1 ⟨_, _, rfl, h.2⟩))
theorem v_lst {n : MA} {s : SL} {Q : Op → SL → Prop} (h : wp2 (n s) fun os s1 => wp (opsD os) fun ds => ds.length ≤ 100000 ∧ Q (.nw (.lst ds)) s1) : wp2 (mLst n s) Q :=
  wp2_bnd2 (wp2_mono h fun _ _ h => wp2_bnd (wp_mono h fun _ h => wp2_ck h.1 ⟨_, _, rfl, h.2⟩))
/-- True, False as a test -/
theorem t_tst {m : M} {s : SL} {Q : Bool → SL → Prop} (h : wp2 (m s) fun o s1 => wp (cD s1 o) fun d => ∃ b, d = .bool b ∧ Q b s1) : wp2 (mTst m s) Q :=
  wp2_bnd2 (wp2_mono h fun _ _ h => wp2_bnd (wp_mono h fun _ h => by
    obtain ⟨b, rfl, q⟩ := h
    exact ⟨_, _, rfl, q⟩))
theorem t_not {m : MT} {s : SL} {Q : Bool → SL → Prop} (h : wp2 (m s) fun b s1 => Q (!b) s1) : wp2 (mNotT m s) Q := wp2_bnd2 (wp2_mono h fun _ _ h => ⟨_, _, rfl, h⟩)
theorem t_and {m n : MT} {s : SL} {Q : Bool → SL → Prop} (h : wp2 (m s) fun b s1 => kIf b (wp2 (n s1) Q) (Q false s1)) : wp2 (mAndT m n s) Q := wp2_bnd2 (wp2_mono h fun b _ h => by
  cases b with
  | true => exact h
  | false => exact ⟨_, _, rfl, h⟩)
theorem t_or {m n : MT} {s : SL} {Q : Bool → SL → Prop} (h : wp2 (m s) fun b s1 => kIf b (Q true s1) (wp2 (n s1) Q)) : wp2 (mOrT m n s) Q := wp2_bnd2 (wp2_mono h fun b _ h => by
  cases b with
  | true => exact ⟨_, _, rfl, h⟩
  | false => exact h)
theorem t_yes {s : SL} {Q : Bool → SL → Prop} (q : Q true s) : wp2 (mYes s) Q := ⟨_, _, rfl, q⟩
theorem wp_bD {b : Bool} {Q : Bool → Prop} (q : Q b) : wp (bD (.bool b)) Q := ⟨_, rfl, q⟩
theorem v_and {ma mb : M} {s : SL} {Q : Op → SL → Prop} (h : wp2 (ma s) fun o s1 => wp (cD s1 o) fun d => wp (bD d) fun b => kIf b (wp2 (mb s1) Q) (Q (.v (.bool false)) s1)) : wp2 (mAndV ma mb s) Q :=
  wp2_bnd2 (wp2_mono h fun _ _ h => wp2_bnd (wp_mono h fun _ h => wp2_bnd (wp_mono h fun b h => by
    cases b with
    | true => exact h
    | false => exact ⟨_, _, rfl, h⟩)))
theorem v_or {ma mb : M} {s : SL} {Q : Op → SL → Prop} (h : wp2 (ma s) fun o s1 => wp (cD s1 o) fun d => wp (bD d) fun b => kIf b (Q (.v (.bool true)) s1) (wp2 (mb s1) Q)) : wp2 (mOrV ma mb s) Q :=
  wp2_bnd2 (wp2_mono h fun _ _ h => wp2_bnd (wp_mono h fun _ h => wp2_bnd (wp_mono h fun b h => by
    cases b with
    | true => exact ⟨_, _, rfl, h⟩
    | false => exact h)))
theorem v_not {ma : M} {s : SL} {Q : Op → SL → Prop} (h : wp2 (ma s) fun o s1 => wp (cD s1 o) fun d => wp (bD d) fun b => Q (.v (.bool !b)) s1) : wp2 (mNotV ma s) Q :=
  wp2_bnd2 (wp2_mono h fun _ _ h => wp2_bnd (wp_mono h fun _ h => wp2_bnd (wp_mono h fun b h => ⟨_, _, rfl, h⟩)))
theorem v_ife {m : MT} {ma mb : M} {s : SL} {Q : Op → SL → Prop} (h : wp2 (m s) fun b s1 => kIf b (wp2 (ma s1) Q) (wp2 (mb s1) Q)) : wp2 (mIfE m ma mb s) Q := wp2_bnd2 (wp2_mono h fun _ _ h => wp2_if h)
theorem v_chain {f g : D → D → Option Res} {ma mb mc : M} {s : SL} {Q : Op → SL → Prop} (h : wp2 (ma s) fun o1 s1 => wp2 (mb s1) fun o2 s2 => wp (cD s2 o1) fun d => wp (cD s2 o2) fun e => wp (f d e) fun r => ∃ b, r = .d (.bool b) ∧
    kIf b (wp2 (mc s2) fun o3 s3 => wp (cD s3 o3) fun d3 => wp (g e d3) (kR Q s3)) (Q (.v (.bool false)) s2)) : wp2 (mChain f g ma mb mc s) Q :=
  wp2_bnd2 (wp2_mono h fun _ _ h => wp2_bnd2 (wp2_mono h fun _ _ h => wp2_bnd (wp_mono h fun _ h => wp2_bnd (wp_mono h fun _ h => wp2_bnd (wp_mono h fun r h => by
    obtain ⟨b, rfl, h⟩ := h
    cases b with
    | true => exact wp2_bnd2 (wp2_mono h fun _ _ h => wp2_bnd (wp_mono h fun _ h => wp_res h))
    | false => exact ⟨_, _, rfl, h⟩)))))
/-! ### calls -/
/-- a call of a pure def: what it gives -/
def Ret (f : SemF) (ds : List D) (P : Op → Prop) : Prop := ∃ o, f (ds.map Slot.fz) = some (o, ds.map Slot.fz) ∧ o.isSl = false ∧ P o
theorem Ret.mono {f : SemF} {ds : List D} {P R : Op → Prop} (h : Ret f ds P) (i : ∀ o, P o → R o) : Ret f ds R := by
  obtain ⟨o, e, n, p⟩ := h
  exact ⟨o, e, n, i o p⟩
theorem w_pass (s : SL) : ∀ (ds : List D), pass s (ds.map Op.v) = some (ds.map Slot.fz)
  | [] => rfl
  | d :: r => by
    show (pass s (r.map Op.v)).bind _ = _
    rw [w_pass s r]
    rfl
theorem w_dst (s : SL) : ∀ (ds : List D), dst s (ds.map Op.v) = true
  | [] => rfl
  | d :: r => w_dst s r
theorem w_shp : ∀ (ds : List D), shp (ds.map Slot.fz) (ds.map Slot.fz) = true
  | [] => rfl
  | d :: r => w_shp r
theorem w_jOf : ∀ (ds : List D) (i : Nat), jOf (ds.map Op.v) i = none
  | [], _ => rfl
  | d :: r, i => by
    show (jOf (r.map Op.v) i).map _ = none
    rw [w_jOf r i]
    rfl
theorem w_wb (s : SL) (ds : List D) (ss' : SL) : s.mapIdx (wb (ds.map Op.v) ss') = s := by
  apply List.ext_getElem?
  intro i
  rw [List.getElem?_mapIdx]
  cases q : s[i]? with
  | none => rfl
  | some x =>
    show some (wb (ds.map Op.v) ss' i x) = some x
    cases x with
    | un => rfl
    | fz d => rfl
    | ow p k =>
      show some (wb1 p k ss' (jOf (ds.map Op.v) i)) = _
      rw [w_jOf]
      rfl
/-- a call with frozen arguments -/
def kV (f : SemF) (Q : Op → SL → Prop) : List Op → SL → Prop := fun os s => ∃ ds, os = ds.map Op.v ∧ Ret f ds fun o => Q o s
theorem c_pure {f : SemF} {ma : MA} {s : SL} {Q : Op → SL → Prop} (h : wp2 (ma s) (kV f Q)) : wp2 (mCallF f ma s) Q := by
  obtain ⟨os, s1, e1, ds, rfl, o, e2, n, q⟩ := h
  refine ⟨o, s1, ?_, q⟩
  show (ma s).bind _ = _
  rw [e1]
  show (pass s1 (ds.map Op.v)).bind _ = _
  rw [w_pass]
  show (if dst s1 (ds.map Op.v) = true then _ else none) = _
  rw [if_pos (w_dst _ _), e2]
  show (if (shp (ds.map Slot.fz) (ds.map Slot.fz) && !o.isSl) = true then some (o, s1.mapIdx (wb (ds.map Op.v) (ds.map Slot.fz))) else none) = _
  rw [w_shp, n, w_wb]
  rfl
theorem kV0 {f : SemF} {Q : Op → SL → Prop} {s : SL} (h : Ret f [] fun o => Q o s) : kV f Q [] s := ⟨[], rfl, h⟩
theorem kV1 {f : SemF} {Q : Op → SL → Prop} {s : SL} {a : D} (h : Ret f [a] fun o => Q o s) : kV f Q [.v a] s := ⟨[a], rfl, h⟩
theorem kV2 {f : SemF} {Q : Op → SL → Prop} {s : SL} {a b : D} (h : Ret f [a, b] fun o => Q o s) : kV f Q [.v a, .v b] s := ⟨[a, b], rfl, h⟩
theorem kV3 {f : SemF} {Q : Op → SL → Prop} {s : SL} {a b c : D} (h : Ret f [a, b, c] fun o => Q o s) : kV f Q [.v a, .v b, .v c] s := ⟨[a, b, c], rfl, h⟩
theorem kV4 {f : SemF} {Q : Op → SL → Prop} {s : SL} {a b c d : D} (h : Ret f [a, b, c, d] fun o => Q o s) : kV f Q [.v a, .v b, .v c, .v d] s := ⟨[a, b, c, d], rfl, h⟩
theorem kV5 {f : SemF} {Q : Op → SL → Prop} {s : SL} {a b c d e : D} (h : Ret f [a, b, c, d, e] fun o => Q o s) : kV f Q [.v a, .v b, .v c, .v d, .v e] s := ⟨[a, b, c, d, e], rfl, h⟩
theorem kV6 {f : SemF} {Q : Op → SL → Prop} {s : SL} {a b c d e g : D} (h : Ret f [a, b, c, d, e, g] fun o => Q o s) : kV f Q [.v a, .v b, .v c, .v d, .v e, .v g] s := ⟨[a, b, c, d, e, g], rfl, h⟩
/-- any call: the slots handed over come back -/
def kC (f : SemF) (Q : Op → SL → Prop) : List Op → SL → Prop := fun os s => wp (pass s os) fun ss => dst s os = true ∧ wp2 (f ss) fun o ss' => (shp ss ss' && !o.isSl) = true ∧ Q o (s.mapIdx (wb os ss'))
theorem c_any {f : SemF} {ma : MA} {s : SL} {Q : Op → SL → Prop} (h : wp2 (ma s) (kC f Q)) : wp2 (mCallF f ma s) Q :=
  wp2_bnd2 (wp2_mono h fun _ _ h => wp2_bnd (wp_mono h fun _ h => wp2_ck h.1 (wp2_bnd2 (wp2_mono h.2 fun _ _ h => wp2_ck h.1 ⟨_, _, rfl, h.2⟩))))
/-! ### a def's body -/
/-- the end of a pure def's body -/
def kB (ds : List D) (P : Op → Prop) : Out → Prop
  | .nx s' => ds.length ≤ s'.length ∧ P (.v .none)
  | .rt o s' => ds.length ≤ s'.length ∧ wp (conv (ds.map Slot.fz) s' o) P
  | _ => False
theorem outs_fz : ∀ (ds : List D) (s' : SL), ds.length ≤ s'.length → outs (ds.map Slot.fz) s' = some (ds.map Slot.fz)
  | [], _, _ => rfl
  | d :: r, [], h => absurd h (by simp)
  | d :: r, x :: s', h => by
    show (outs (r.map Slot.fz) s').bind _ = _
    rw [outs_fz r s' (by simpa using h)]
    rfl
theorem conv_nsl {ss s : SL} {o o' : Op} (h : conv ss s o = some o') : o'.isSl = false := by
  cases o' with
  | v d => rfl
  | nw k => rfl
  | sl i => exact absurd rfl (conv_sl h i)
  | ex n =>
    exfalso
    cases o with
    | v d => cases h
    | nw k => cases h
    | ex n => cases h
    | sl j =>
      have h : (match s[j]? with | some (.fz d) => some (Op.v d) | some (.ow false k) => if isOw ss[j]? = true then none else some (.nw k) | _ => none) = some (Op.ex n) := h
      split at h
      · cases h
      · split at h <;> cases h
      · cases h
theorem ret_body {N : Nat} {m : MS} {ds : List D} {P : Op → Prop} (h : wp (m (ds.map Slot.fz ++ List.replicate (N - ds.length) .un)) (kB ds P)) : Ret (bodyF N m) ds P := by
  obtain ⟨out, e, q⟩ := h
  have e0 : bodyF N m (ds.map Slot.fz) = (match (generalizing := false) out with
    | .nx s' => (outs (ds.map Slot.fz) s').bind fun ss' => some (.v .none, ss')
    | .rt o s' => (conv (ds.map Slot.fz) s' o).bind fun o' => (outs (ds.map Slot.fz) s').bind fun ss' => some (o', ss')
    | .ex n s' => (outs (ds.map Slot.fz) s').bind fun ss' => some (.ex n, ss')
    | _ => none) := by
    unfold bodyF
    rw [List.length_map, e]
    rfl
  cases out with
  | nx s' =>
    refine ⟨.v .none, ?_, rfl, q.2⟩
    rw [e0]
    show (outs (ds.map Slot.fz) s').bind _ = _
    rw [outs_fz ds s' q.1]
    rfl
  | rt o s' =>
    obtain ⟨q1, o', e1, p⟩ := q
    refine ⟨o', ?_, conv_nsl e1, p⟩
    rw [e0]
    show (conv (ds.map Slot.fz) s' o).bind _ = _
    rw [e1]
    show (outs (ds.map Slot.fz) s').bind _ = _
    rw [outs_fz ds s' q1]
    rfl
  | bk _ => exact q.elim
  | ct _ => exact q.elim
  | ex _ _ => exact q.elim
theorem kB_v {ds : List D} {P : Op → Prop} {s : SL} {d : D} (h : ds.length ≤ s.length) (p : P (.v d)) : kB ds P (.rt (.v d) s) := ⟨h, _, rfl, p⟩
theorem kB_n {ds : List D} {P : Op → Prop} {s : SL} {k : Cont} (h : ds.length ≤ s.length) (p : P (.nw k)) : kB ds P (.rt (.nw k) s) := ⟨h, _, rfl, p⟩
theorem kB_x {ds : List D} {P : Op → Prop} {s : SL} (h : ds.length ≤ s.length) (p : P (.v .none)) : kB ds P (.nx s) := ⟨h, p⟩
theorem kB_s {ds : List D} {P : Op → Prop} {s : SL} {i : Nat} {o : Op} (h : ds.length ≤ s.length) (e : conv (ds.map Slot.fz) s (.sl i) = some o) (p : P o) : kB ds P (.rt (.sl i) s) := ⟨h, _, e, p⟩
/-! ### statements -/
def kS (b : MS) (Q : Out → Prop) : Out → Prop
  | .nx s => wp (b s) Q
  | o => Q o
theorem kS_nx {b : MS} {Q : Out → Prop} {s : SL} (h : wp (b s) Q) : kS b Q (.nx s) := h
theorem kS_rt {b : MS} {Q : Out → Prop} {o : Op} {s : SL} (h : Q (.rt o s)) : kS b Q (.rt o s) := h
theorem kS_bk {b : MS} {Q : Out → Prop} {s : SL} (h : Q (.bk s)) : kS b Q (.bk s) := h
theorem kS_ct {b : MS} {Q : Out → Prop} {s : SL} (h : Q (.ct s)) : kS b Q (.ct s) := h
theorem kS_ex {b : MS} {Q : Out → Prop} {n : Str} {s : SL} (h : Q (.ex n s)) : kS b Q (.ex n s) := h
theorem s_seq {a b : MS} {s : SL} {Q : Out → Prop} (h : wp (a s) (kS b Q)) : wp (mSeq a b s) Q := wp_bnd (wp_mono h fun out h => by
  cases out with
  | nx s' => exact h
  | rt o s' => exact ⟨_, rfl, h⟩
  | bk s' => exact ⟨_, rfl, h⟩
  | ct s' => exact ⟨_, rfl, h⟩
  | ex n s' => exact ⟨_, rfl, h⟩)
theorem s_next {s : SL} {Q : Out → Prop} (q : Q (.nx s)) : wp (mNext s) Q := ⟨_, rfl, q⟩
theorem s_some {o : Out} {Q : Out → Prop} (q : Q o) : wp (some o) Q := ⟨_, rfl, q⟩
theorem s_brk {s : SL} {Q : Out → Prop} (q : Q (.bk s)) : wp ((fun s => some (Out.bk s)) s) Q := ⟨_, rfl, q⟩
theorem s_cont {s : SL} {Q : Out → Prop} (q : Q (.ct s)) : wp ((fun s => some (Out.ct s)) s) Q := ⟨_, rfl, q⟩
theorem s_asg {m : M} {i : Nat} {s : SL} {Q : Out → Prop} (h : wp2 (m s) fun o s1 => wp (put s1 i o) fun s2 => Q (.nx s2)) : wp (mAsg m i s) Q := wp_bnd2 (wp2_mono h fun _ _ h => wp_bnd (wp_mono h fun _ h => ⟨_, rfl, h⟩))
theorem s_drop {m : M} {s : SL} {Q : Out → Prop} (h : wp2 (m s) fun o s1 => Q (.nx s1)) : wp (mDrop m s) Q := wp_bnd2 (wp2_mono h fun _ _ h => ⟨_, rfl, h⟩)
theorem s_ret {m : M} {s : SL} {Q : Out → Prop} (h : wp2 (m s) fun o s1 => Q (.rt o s1)) : wp (mRet m s) Q := wp_bnd2 (wp2_mono h fun _ _ h => ⟨_, rfl, h⟩)
theorem s_if {mt : MT} {a b : MS} {s : SL} {Q : Out → Prop} (h : wp2 (mt s) fun c s1 => kIf c (wp (a s1) Q) (wp (b s1) Q)) : wp (mIf mt a b s) Q := wp_bnd2 (wp2_mono h fun _ _ h => wp_if h)
/-- the first statement leaves what R says -/
theorem s_cut {a : MS} {s : SL} {b : MS} {Q : Out → Prop} (R : SL → Prop) (h : wp (a s) fun o => ∃ s', o = .nx s' ∧ R s') (k : ∀ s', R s' → wp (b s') Q) : wp (mSeq a b s) Q := s_seq (wp_mono h fun o ⟨s', e, r⟩ => by
  subst e
  exact k s' r)
/-! ### stores -/
theorem wp_put {s : SL} {i : Nat} {o : Op} {s' : SL} {Q : SL → Prop} (h : put s i o = some s') (q : Q s') : wp (put s i o) Q := ⟨_, h, q⟩
/-- a slot that may be stored to -/
def okS : Slot → Bool
  | .ow true _ => false
  | _ => true
theorem can_z {x : Slot} {r : SL} : can (x :: r) 0 = okS x := by
  cases x with
  | ow p k => cases p <;> rfl
  | _ => rfl
theorem can_s {x : Slot} {r : SL} {i : Nat} : can (x :: r) (i + 1) = can r i := rfl
theorem put_vz {x : Slot} {r : SL} {d : D} (h : okS x = true) : put (x :: r) 0 (.v d) = some (.fz d :: r) := by
  unfold put
  rw [can_z, if_pos h]
  rfl
theorem put_vs {x : Slot} {r r' : SL} {d : D} {i : Nat} (h : put r i (.v d) = some r') : put (x :: r) (i + 1) (.v d) = some (x :: r') := by
  unfold put at h ⊢
  rw [can_s]
  split at h
  · rename_i hc
    rw [if_pos hc]
    cases h
    rfl
  · cases h
theorem put_nz {x : Slot} {r : SL} {k : Cont} (h : okS x = true) : put (x :: r) 0 (.nw k) = some (.ow false k :: r) := by
  unfold put
  rw [can_z, if_pos h]
  rfl
theorem put_ns {x : Slot} {r r' : SL} {k : Cont} {i : Nat} (h : put r i (.nw k) = some r') : put (x :: r) (i + 1) (.nw k) = some (x :: r') := by
  unfold put at h ⊢
  rw [can_s]
  split at h
  · rename_i hc
    rw [if_pos hc]
    cases h
    rfl
  · cases h
theorem wp_tName {i : Nat} {d : D} {s s' : SL} {Q : SL → Prop} (h : put s i (.v d) = some s') (q : Q s') : wp (tName i d s) Q := ⟨_, h, q⟩
theorem t_nil {s : SL} {Q : SL → Prop} (q : Q s) : wp (tNilT [] s) Q := ⟨_, rfl, q⟩
theorem t_cons {t : Tgt} {u : Tgts} {d : D} {r : List D} {s : SL} {Q : SL → Prop} (h : wp (t d s) fun s1 => wp (u r s1) Q) : wp (tConsT t u (d :: r) s) Q := wp_bnd h
theorem t_tup {n : Nat} {u : Tgts} {ds : List D} {s : SL} {Q : SL → Prop} (hn : ds.length = n) (h : wp (u ds s) Q) : wp (tTupT n u (.tuple ds) s) Q := by
  subst hn
  show wp (if ds.length = ds.length then u ds s else none) Q
  rw [if_pos rfl]
  exact h
theorem wp_vD {d : D} {Q : D → Prop} (q : Q d) : wp (vD (.v d)) Q := ⟨_, rfl, q⟩
theorem s_unp {me : M} {t : Tgt} {s : SL} {Q : Out → Prop} (h : wp2 (mFz me s) fun o s1 => wp (vD o) fun d => wp (t d s1) fun s2 => Q (.nx s2)) : wp (mUnp me t s) Q :=
  wp_bnd2 (wp2_mono h fun _ _ h => wp_bnd (wp_mono h fun _ h => wp_bnd (wp_mono h fun _ h => ⟨_, rfl, h⟩)))
/-! ### loops -/
def kL (N : SL → Prop) (Q : Out → Prop) : Out → Prop
  | .nx s => N s
  | .ct s => N s
  | .bk s => Q (.nx s)
  | .rt o s => Q (.rt o s)
  | .ex n s => Q (.ex n s)
theorem kL_nx {N : SL → Prop} {Q : Out → Prop} {s : SL} (h : N s) : kL N Q (.nx s) := h
theorem kL_ct {N : SL → Prop} {Q : Out → Prop} {s : SL} (h : N s) : kL N Q (.ct s) := h
theorem kL_bk {N : SL → Prop} {Q : Out → Prop} {s : SL} (h : Q (.nx s)) : kL N Q (.bk s) := h
theorem kL_rt {N : SL → Prop} {Q : Out → Prop} {o : Op} {s : SL} (h : Q (.rt o s)) : kL N Q (.rt o s) := h
theorem kL_ex {N : SL → Prop} {Q : Out → Prop} {n : Str} {s : SL} (h : Q (.ex n s)) : kL N Q (.ex n s) := h
theorem wp_loopL {t : Tgt} {mb : MS} {Q : Out → Prop} (ds : List D) (I : Nat → SL → Prop) (hs : ∀ i d s, ds[i]? = some d → I i s → wp (t d s) fun s1 => wp (mb s1) (kL (I (i + 1)) Q)) (hd : ∀ s, I ds.length s → Q (.nx s)) : ∀ (n i : Nat) (s : SL), ds.length - i = n → i ≤ ds.length → I i s → wp (loopF t mb (ds.drop i) s) Q
  | 0, i, s, hn, hi, h => by
    have e : i = ds.length := by omega
    subst e
    rw [List.drop_length]
    exact ⟨_, rfl, hd s h⟩
  | n + 1, i, s, hn, hi, h => by
    have hlt : i < ds.length := by omega
    rw [List.drop_eq_getElem_cons hlt]
    have h1 := hs i _ s (List.getElem?_eq_getElem hlt) h
    refine wp_bnd (wp_mono h1 fun s1 h1 => wp_bnd (wp_mono h1 fun out h1 => ?_))
    cases out with
    | nx s2 => exact wp_loopL ds I hs hd n (i + 1) s2 (by omega) (by omega) h1
    | ct s2 => exact wp_loopL ds I hs hd n (i + 1) s2 (by omega) (by omega) h1
    | bk s2 => exact ⟨_, rfl, h1⟩
    | rt o s2 => exact ⟨_, rfl, h1⟩
    | ex n s2 => exact ⟨_, rfl, h1⟩
/-- a loop by its invariant -/
theorem w_loop {t : Tgt} {mb : MS} {ds : List D} {s : SL} {Q : Out → Prop} (I : Nat → SL → Prop) (h0 : I 0 s) (hs : ∀ i d s, ds[i]? = some d → I i s → wp (t d s) fun s1 => wp (mb s1) (kL (I (i + 1)) Q)) (hd : ∀ s, I ds.length s → Q (.nx s)) : wp (loopF t mb ds s) Q := by
  have h := wp_loopL ds I hs hd ds.length 0 s (by simp) (Nat.zero_le _) h0
  rw [List.drop_zero] at h
  exact h
/-- .. over what is told by a list of ours -/
theorem w_loopM {α : Type} {f : α → D} {t : Tgt} {mb : MS} {xs : List α} {s : SL} {Q : Out → Prop} (I : Nat → SL → Prop) (h0 : I 0 s) (hs : ∀ i x s, xs[i]? = some x → I i s → wp (t (f x) s) fun s1 => wp (mb s1) (kL (I (i + 1)) Q)) (hd : ∀ s, I xs.length s → Q (.nx s)) : wp (loopF t mb (xs.map f) s) Q := by
  refine w_loop I h0 (fun i d s hi h => ?_) (fun s h => hd s (by rw [List.length_map] at h; exact h))
  rw [List.getElem?_map] at hi
  cases q : xs[i]? with
  | none =>
    rw [q] at hi
    cases hi
  | some x =>
    rw [q] at hi
    cases hi
    exact hs i x s q h
theorem w_loopR {lo : Int} {n : Nat} {t : Tgt} {mb : MS} {s : SL} {Q : Out → Prop} (I : Nat → SL → Prop) (h0 : I 0 s) (hs : ∀ (i : Nat) s, i < n → I i s → wp (t (.int (lo + (i : Int))) s) fun s1 => wp (mb s1) (kL (I (i + 1)) Q)) (hd : ∀ s, I n s → Q (.nx s)) : wp (loopF t mb (rngD lo n) s) Q := by
  refine w_loop I h0 (fun i d s hi h => ?_) (fun s h => hd s (by rw [rngD_len] at h; exact h))
  obtain ⟨h1, rfl⟩ := rngD_get hi
  exact hs i s h1 h
theorem w_loopE {ds : List D} {t : Tgt} {mb : MS} {s : SL} {Q : Out → Prop} (I : Nat → SL → Prop) (h0 : I 0 s) (hs : ∀ (i : Nat) d s, ds[i]? = some d → I i s → wp (t (.tuple [.int (i : Int), d]) s) fun s1 => wp (mb s1) (kL (I (i + 1)) Q)) (hd : ∀ s, I ds.length s → Q (.nx s)) : wp (loopF t mb (enumD ds) s) Q := by
  refine w_loop I h0 (fun i d s hi h => ?_) (fun s h => hd s (by rw [enumD_len] at h; exact h))
  obtain ⟨d', h1, rfl⟩ := enumD_get hi
  exact hs i d' s h1 h
theorem s_for {sel : D → Option (List D)} {ml : M} {t : Tgt} {mb : MS} {s : SL} {Q : Out → Prop} (h : wp2 (mFz ml s) fun o s1 => wp (cD s1 o) fun d => wp (sel d) fun ds => wp (loopF t mb ds s1) Q) : wp (mFor sel ml t mb s) Q :=
  wp_bnd2 (wp2_mono h fun _ _ h => wp_bnd (wp_mono h fun _ h => wp_bnd h))
theorem s_forE {ml : M} {t : Tgt} {mb : MS} {s : SL} {Q : Out → Prop} (h : wp2 (mFz ml s) fun o s1 => wp (cD s1 o) fun d => wp (selL d) fun ds => wp (loopF t mb (enumD ds) s1) Q) : wp (mForE ml t mb s) Q :=
  wp_bnd2 (wp2_mono h fun _ _ h => wp_bnd (wp_mono h fun _ h => wp_bnd h))
theorem s_forR1 {m : M} {t : Tgt} {mb : MS} {s : SL} {Q : Out → Prop} (h : wp2 (m s) fun o s1 => wp (cD s1 o) fun d => ∃ n : Int, d = .int n ∧ (-(2 ^ 62) ≤ n ∧ n < 2 ^ 62) ∧ wp (loopF t mb (rngD 0 n.toNat) s1) Q) : wp (mForR1 m t mb s) Q :=
  wp_bnd2 (wp2_mono h fun _ _ h => wp_bnd (wp_mono h fun _ h => by
    obtain ⟨n, rfl, hb, h⟩ := h
    exact wp_ck hb h))
theorem wp_rng2 {i j : Int} {Q : Int × Int → Prop} (h : rng2 (.int i) (.int j) = some (i, j)) (q : Q (i, j)) : wp (rng2 (.int i) (.int j)) Q := ⟨_, h, q⟩
theorem w_rng2 {m n : M} {s : SL} {Q : (Int × Int) → SL → Prop} (h : wp2 (m s) fun o s1 => wp2 (n s1) fun o2 s2 => wp (cD s2 o) fun d => wp (cD s2 o2) fun e => wp (rng2 d e) fun r => Q r s2) : wp2 (mRng2 m n s) Q :=
  wp2_bnd2 (wp2_mono h fun _ _ h => wp2_bnd2 (wp2_mono h fun _ _ h => wp2_bnd (wp_mono h fun _ h => wp2_bnd (wp_mono h fun _ h => wp2_bnd (wp_mono h fun _ h => ⟨_, _, rfl, h⟩)))))
theorem s_forR2 {m n : M} {t : Tgt} {mb : MS} {s : SL} {Q : Out → Prop} (h : wp2 (mRng2 m n s) fun r s1 => wp (loopF t mb (rngD r.1 (r.2 - r.1).toNat) s1) Q) : wp (mForR2 m n t mb s) Q := wp_bnd2 h
/-- while: an invariant and a number that falls -/
theorem wp_whileL {mt : MT} {mb : MS} {Q : Out → Prop} (I : Nat → SL → Prop) (hs : ∀ n s, I n s → wp2 (mt s) fun b s1 => kIf b (wp (mb s1) (kL (fun s2 => ∃ m, m < n ∧ I m s2) Q)) (Q (.nx s1))) : ∀ (n : Nat) (s : SL), I n s → ∃ fu, wp (whileF mt mb fu s) Q := fun n => by
  induction n using Nat.strongRecOn with
  | _ n ih =>
    intro s h
    obtain ⟨b, s1, e, h1⟩ := hs n s h
    cases b with
    | false => exact ⟨1, _, by show (mt s).bind _ = _; rw [e]; rfl, h1⟩
    | true =>
      obtain ⟨out, e2, h2⟩ := h1
      have st : ∀ {k : Nat} {r : Option Out}, (match (generalizing := false) out with | .nx s2 => whileF mt mb k s2 | .ct s2 => whileF mt mb k s2 | .bk s2 => some (.nx s2) | .rt o s2 => some (.rt o s2) | .ex n s2 => some (.ex n s2)) = r → whileF mt mb (k + 1) s = r := fun {k r} z => by
        show (mt s).bind _ = _
        rw [e]
        show (mb s1).bind _ = _
        rw [e2]
        exact z
      cases out with
      | nx s2 =>
        obtain ⟨m, hm, h3⟩ := h2
        obtain ⟨fu, o, e3, q⟩ := ih m hm s2 h3
        exact ⟨fu + 1, o, st e3, q⟩
      | ct s2 =>
        obtain ⟨m, hm, h3⟩ := h2
        obtain ⟨fu, o, e3, q⟩ := ih m hm s2 h3
        exact ⟨fu + 1, o, st e3, q⟩
      | bk s2 => exact ⟨1, _, st rfl, h2⟩
      | rt o s2 => exact ⟨1, _, st rfl, h2⟩
      | ex n s2 => exact ⟨1, _, st rfl, h2⟩
theorem s_while {mt : MT} {mb : MS} {s : SL} {Q : Out → Prop} (I : Nat → SL → Prop) (n : Nat) (h0 : I n s) (hs : ∀ n s, I n s → wp2 (mt s) fun b s1 => kIf b (wp (mb s1) (kL (fun s2 => ∃ m, m < n ∧ I m s2) Q)) (Q (.nx s1))) : wp (mWhile mt mb s) Q := by
  obtain ⟨fu, o, e, q⟩ := wp_whileL I hs n s h0
  exact ⟨o, mWhile_of e, q⟩
/-! ### comprehensions -/
def kE (vs : List Nat) (s1 : SL) (Q : Op → SL → Prop) : List D → SL → Prop := fun zs s => zs.length ≤ 100000 ∧ Q (.nw (.lst zs)) (rst vs s1 s)
theorem endC_w {vs : List Nat} {s1 : SL} {x : Option (List D × SL)} {Q : Op → SL → Prop} (h : wp2 x (kE vs s1 Q)) : wp2 (x.bind fun z => endC vs s1 z) Q := wp2_bnd2 (wp2_mono h fun _ _ h => wp2_ck h.1 ⟨_, _, rfl, h.2⟩)
theorem v_lc {sel : D → Option (List D)} {ml : M} {t : Tgt} {mt : MT} {me : M} {vs : List Nat} {s : SL} {Q : Op → SL → Prop} (h : wp2 (mFz ml s) fun o s1 => wp (cD s1 o) fun d => wp (sel d) fun ds => wp (unw vs s1) fun s2 => wp2 (loopC t mt me vs ds s2) (kE vs s1 Q)) : wp2 (mLc sel ml t mt me vs s) Q :=
  wp2_bnd2 (wp2_mono h fun _ _ h => wp2_bnd (wp_mono h fun _ h => wp2_bnd (wp_mono h fun _ h => wp2_bnd (wp_mono h fun _ h => endC_w h))))
theorem v_lcR1 {m : M} {t : Tgt} {mt : MT} {me : M} {vs : List Nat} {s : SL} {Q : Op → SL → Prop} (h : wp2 (m s) fun o s1 => wp (cD s1 o) fun d => ∃ n : Int, d = .int n ∧ (-(2 ^ 62) ≤ n ∧ n < 2 ^ 62) ∧ wp (unw vs s1) fun s2 => wp2 (loopC t mt me vs (rngD 0 n.toNat) s2) (kE vs s1 Q)) : wp2 (mLcR1 m t mt me vs s) Q :=
  wp2_bnd2 (wp2_mono h fun _ _ h => wp2_bnd (wp_mono h fun _ h => by
    obtain ⟨n, rfl, hb, h⟩ := h
    exact wp2_ck hb (wp2_bnd (wp_mono h fun _ h => endC_w h))))
theorem v_lcR2 {m n : M} {t : Tgt} {mt : MT} {me : M} {vs : List Nat} {s : SL} {Q : Op → SL → Prop} (h : wp2 (mRng2 m n s) fun r s1 => wp (unw vs s1) fun s2 => wp2 (loopC t mt me vs (rngD r.1 (r.2 - r.1).toNat) s2) (kE vs s1 Q)) : wp2 (mLcR2 m n t mt me vs s) Q :=
  wp2_bnd2 (wp2_mono h fun _ _ h => wp2_bnd (wp_mono h fun _ h => endC_w h))
theorem wp_unw {vs : List Nat} {s s' : SL} {Q : SL → Prop} (h : unw vs s = some s') (q : Q s') : wp (unw vs s) Q := ⟨_, h, q⟩
/-- one turn of a comprehension -/
def kT (me : M) (vs : List Nat) (Y : D → SL → Prop) (N : SL → Prop) : Bool → SL → Prop := fun b s => kIf b (wp2 (mFz me s) fun o s1 => wp (vD o) fun d => wp (unw vs s1) fun s2 => Y d s2) (wp (unw vs s) N)
theorem wp_loopCL {t : Tgt} {mt : MT} {me : M} {vs : List Nat} {Q : List D → SL → Prop} (ds : List D) (I : Nat → List D → SL → Prop) (hs : ∀ i d zs s, ds[i]? = some d → I i zs s → wp (t d s) fun s1 => wp2 (mt s1) (kT me vs (fun d' s2 => I (i + 1) (zs ++ [d']) s2) (fun s2 => I (i + 1) zs s2)))
    (hd : ∀ zs s, I ds.length zs s → Q zs s) : ∀ (n i : Nat) (zs : List D) (s : SL), ds.length - i = n → i ≤ ds.length → I i zs s → wp2 (loopC t mt me vs (ds.drop i) s) fun ys s' => Q (zs ++ ys) s'
  | 0, i, zs, s, hn, hi, h => by
    have e : i = ds.length := by omega
    subst e
    rw [List.drop_length]
    refine ⟨[], s, rfl, ?_⟩
    show Q (zs ++ []) s
    rw [List.append_nil]
    exact hd zs s h
  | n + 1, i, zs, s, hn, hi, h => by
    have hlt : i < ds.length := by omega
    rw [List.drop_eq_getElem_cons hlt]
    have h1 := hs i _ zs s (List.getElem?_eq_getElem hlt) h
    refine wp2_bnd (wp_mono h1 fun s1 h1 => wp2_bnd2 (wp2_mono h1 fun b s2 h1 => ?_))
    cases b with
    | true =>
      have h1 : wp2 (mFz me s2) fun o s1 => wp (vD o) fun d => wp (unw vs s1) fun s2 => I (i + 1) (zs ++ [d]) s2 := h1
      refine wp2_bnd2 (wp2_mono h1 fun o s3 h1 => wp2_bnd (wp_mono h1 fun d h1 => wp2_bnd (wp_mono h1 fun s4 h1 => ?_)))
      refine wp2_bnd2 (wp2_mono (wp_loopCL ds I hs hd n (i + 1) (zs ++ [d]) s4 (by omega) (by omega) h1) fun ys s5 h2 => ⟨d :: ys, s5, rfl, ?_⟩)
      rw [List.append_assoc] at h2
      exact h2
    | false =>
      have h1 : wp (unw vs s2) fun s2 => I (i + 1) zs s2 := h1
      exact wp2_bnd (wp_mono h1 fun s4 h1 => wp_loopCL ds I hs hd n (i + 1) zs s4 (by omega) (by omega) h1)
theorem w_lc {t : Tgt} {mt : MT} {me : M} {vs : List Nat} {ds : List D} {s : SL} {Q : List D → SL → Prop} (I : Nat → List D → SL → Prop) (h0 : I 0 [] s) (hs : ∀ i d zs s, ds[i]? = some d → I i zs s → wp (t d s) fun s1 => wp2 (mt s1) (kT me vs (fun d' s2 => I (i + 1) (zs ++ [d']) s2) (fun s2 => I (i + 1) zs s2)))
    (hd : ∀ zs s, I ds.length zs s → Q zs s) : wp2 (loopC t mt me vs ds s) Q := by
  have h := wp_loopCL ds I hs hd ds.length 0 [] s (by simp) (Nat.zero_le _) h0
  rw [List.drop_zero] at h
  exact h
theorem w_lcM {α : Type} {f : α → D} {t : Tgt} {mt : MT} {me : M} {vs : List Nat} {xs : List α} {s : SL} {Q : List D → SL → Prop} (I : Nat → List D → SL → Prop) (h0 : I 0 [] s) (hs : ∀ i x zs s, xs[i]? = some x → I i zs s → wp (t (f x) s) fun s1 => wp2 (mt s1) (kT me vs (fun d' s2 => I (i + 1) (zs ++ [d']) s2) (fun s2 => I (i + 1) zs s2)))
    (hd : ∀ zs s, I xs.length zs s → Q zs s) : wp2 (loopC t mt me vs (xs.map f) s) Q := by
  refine w_lc I h0 (fun i d zs s hi h => ?_) (fun zs s h => hd zs s (by rw [List.length_map] at h; exact h))
  rw [List.getElem?_map] at hi
  cases q : xs[i]? with
  | none =>
    rw [q] at hi
    cases hi
  | some x =>
    rw [q] at hi
    cases hi
    exact hs i x zs s q h
theorem w_lcR {lo : Int} {n : Nat} {t : Tgt} {mt : MT} {me : M} {vs : List Nat} {s : SL} {Q : List D → SL → Prop} (I : Nat → List D → SL → Prop) (h0 : I 0 [] s) (hs : ∀ (i : Nat) zs s, i < n → I i zs s → wp (t (.int (lo + (i : Int))) s) fun s1 => wp2 (mt s1) (kT me vs (fun d' s2 => I (i + 1) (zs ++ [d']) s2) (fun s2 => I (i + 1) zs s2)))
    (hd : ∀ zs s, I n zs s → Q zs s) : wp2 (loopC t mt me vs (rngD lo n) s) Q := by
  refine w_lc I h0 (fun i d zs s hi h => ?_) (fun zs s h => hd zs s (by rw [rngD_len] at h; exact h))
  obtain ⟨h1, rfl⟩ := rngD_get hi
  exact hs i zs s h1 h
/-- each item gives its g; the slots stay -/
theorem w_map {α : Type} {f : α → D} {g : α → D} {t : Tgt} {me : M} {vs : List Nat} {xs : List α} {s : SL} {Q : List D → SL → Prop} (hs : ∀ x ∈ xs, wp (t (f x) s) fun s1 => wp2 (mFz me s1) fun o s2 => o = .v (g x) ∧ unw vs s2 = some s) (q : Q (xs.map g) s) : wp2 (loopC t mYes me vs (xs.map f) s) Q := by
  refine w_lcM (fun i zs s' => zs = (xs.take i).map g ∧ s' = s) ⟨by simp, rfl⟩ (fun i x zs s' hi ⟨h1, h2⟩ => ?_) (fun zs s' ⟨h1, h2⟩ => ?_)
  · subst h1 h2
    refine wp_mono (hs x (List.mem_of_getElem? hi)) fun s1 h => ⟨_, _, rfl, ?_⟩
    refine kIf_t rfl (wp2_mono h fun o s2 ⟨e1, e2⟩ => ?_)
    subst e1
    refine ⟨_, rfl, _, e2, ?_, rfl⟩
    rw [List.take_add_one, hi, List.map_append]
    rfl
  · subst h1 h2
    rw [List.take_length]
    exact q
theorem w_filter {α : Type} {f : α → D} {g : α → D} {p : α → Bool} {t : Tgt} {mt : MT} {me : M} {vs : List Nat} {xs : List α} {s : SL} {Q : List D → SL → Prop} (hs : ∀ x ∈ xs, wp (t (f x) s) fun s1 => wp2 (mt s1) fun b s2 => b = p x ∧ kIf b (wp2 (mFz me s2) fun o s3 => o = .v (g x) ∧ unw vs s3 = some s) (unw vs s2 = some s)) (q : Q ((xs.filter p).map g) s) : wp2 (loopC t mt me vs (xs.map f) s) Q := by
  refine w_lcM (fun i zs s' => zs = ((xs.take i).filter p).map g ∧ s' = s) ⟨by simp, rfl⟩ (fun i x zs s' hi ⟨h1, h2⟩ => ?_) (fun zs s' ⟨h1, h2⟩ => ?_)
  · subst h1 h2
    refine wp_mono (hs x (List.mem_of_getElem? hi)) fun s1 h => wp2_mono h fun b s2 ⟨e, h⟩ => ?_
    have ht : xs.take (i + 1) = xs.take i ++ [x] := by
      rw [List.take_add_one, hi]
      rfl
    cases b with
    | true =>
      refine kIf_t rfl (wp2_mono h fun o s3 ⟨e1, e2⟩ => ?_)
      subst e1
      refine ⟨_, rfl, _, e2, ?_, rfl⟩
      rw [ht, List.filter_append, List.filter_cons_of_pos (by rw [← e]), List.map_append]
      rfl
    | false =>
      refine kIf_f rfl ⟨_, h, ?_, rfl⟩
      rw [ht, List.filter_append, List.filter_cons_of_neg (by rw [← e]; decide)]
      simp
  · subst h1 h2
    rw [List.take_length]
    exact q
end Sh
-- Sw2.lean
set_option Elab.async false
set_option linter.all false
set_option maxRecDepth 100000
set_option maxHeartbeats 1000000
/-! Sw2: what the operations give. -/
namespace Sh
open PySem L2
theorem wp_d {x : Option Res} {Q : Op → SL → Prop} {s : SL} {d : D} (e : x = some (.d d)) (q : Q (.v d) s) : wp x (kR Q s) := ⟨_, e, q⟩
theorem wp_l {x : Option Res} {Q : Op → SL → Prop} {s : SL} {ds : List D} (e : x = some (.nl ds)) (q : Q (.nw (.lst ds)) s) : wp x (kR Q s) := ⟨_, e, q⟩
section
variable {Q : Op → SL → Prop} {s : SL} {i j : Int} {x y : Str} {b c : Bool} {d e : D} {ds es : List D}
theorem p_mod (h : 0 < j) (q : Q (.v (.int (i % j))) s) : wp (fMod (.int i) (.int j)) (kR Q s) := wp_d (by
  show (if decide (0 < j) = true then _ else none) = _
  rw [if_pos (decide_eq_true h)]) q
theorem p_div (h : 0 < j ∧ j < 1073741824) (q : Q (.v (.int (i / j))) s) : wp (fDiv (.int i) (.int j)) (kR Q s) := wp_d (by
  show (if (decide (0 < j) && decide (j < 1073741824)) = true then _ else none) = _
  rw [decide_eq_true h.1, decide_eq_true h.2]
  rfl) q
theorem p_mulI (h : CMul i j) (q : Q (.v (.int (i * j))) s) : wp (fMulI (.int i) (.int j)) (kR Q s) := wp_d (by
  show (if decide (CMul i j) = true then _ else none) = _
  rw [if_pos (decide_eq_true h)]) q
theorem cmul_l (h : i.natAbs < 18446744073709551616) : CMul i j := .inl ⟨by omega, by omega⟩
theorem cmul_r (h : j.natAbs < 18446744073709551616) : CMul i j := .inr ⟨by omega, by omega⟩
theorem p_pow (h : 0 ≤ j ∧ j ≤ 1000000 ∧ i.natAbs < 2 ^ 64) (q : Q (.v (.int (i ^ j.toNat))) s) : wp (fPow (.int i) (.int j)) (kR Q s) := wp_d (by
  show (if (decide (0 ≤ j) && decide (j ≤ 1000000) && decide (i.natAbs < 2 ^ 64)) = true then _ else none) = _
  rw [decide_eq_true h.1, decide_eq_true h.2.1, decide_eq_true h.2.2]
  rfl) q
theorem p_pow6 (q : Q (.v (.int 1000000)) s) : wp (fPow (.int 10) (.int 6)) (kR Q s) := p_pow ⟨by decide, by decide, by decide⟩ q
theorem p_sub (q : Q (.v (.int (i - j))) s) : wp (fSub (.int i) (.int j)) (kR Q s) := ⟨_, rfl, q⟩
theorem p_addI (q : Q (.v (.int (i + j))) s) : wp (fAdd (.int i) (.int j)) (kR Q s) := ⟨_, rfl, q⟩
theorem p_addS (h : x.length + y.length ≤ 100000) (q : Q (.v (.str (x ++ y))) s) : wp (fAdd (.str x) (.str y)) (kR Q s) := wp_d (by
  show (if x.length + y.length ≤ 100000 then _ else none) = _
  rw [if_pos h]) q
theorem p_addT (h : ds.length + es.length ≤ 100000) (q : Q (.v (.tuple (ds ++ es))) s) : wp (fAdd (.tuple ds) (.tuple es)) (kR Q s) := wp_d (by
  show (if ds.length + es.length ≤ 100000 then _ else none) = _
  rw [if_pos h]) q
theorem p_lt (q : Q (.v (.bool (decide (i < j)))) s) : wp (fLt (.int i) (.int j)) (kR Q s) := ⟨_, rfl, q⟩
theorem p_le (q : Q (.v (.bool (decide (i ≤ j)))) s) : wp (fLe (.int i) (.int j)) (kR Q s) := ⟨_, rfl, q⟩
theorem p_gt (q : Q (.v (.bool (decide (j < i)))) s) : wp (fGt (.int i) (.int j)) (kR Q s) := ⟨_, rfl, q⟩
theorem p_ge (q : Q (.v (.bool (decide (j ≤ i)))) s) : wp (fGe (.int i) (.int j)) (kR Q s) := ⟨_, rfl, q⟩
/-- of a chain: the first comparison's answer -/
theorem p_leB {R : Bool → Prop} (q : R (decide (i ≤ j))) : wp (fLe (.int i) (.int j)) fun r => ∃ b, r = .d (.bool b) ∧ R b := ⟨_, rfl, _, rfl, q⟩
theorem p_ltB {R : Bool → Prop} (q : R (decide (i < j))) : wp (fLt (.int i) (.int j)) fun r => ∃ b, r = .d (.bool b) ∧ R b := ⟨_, rfl, _, rfl, q⟩
theorem p_neg (q : Q (.v (.int (-i))) s) : wp (fNeg (.int i)) (kR Q s) := ⟨_, rfl, q⟩
theorem p_eqI (q : Q (.v (.bool (decide (i = j)))) s) : wp (fEq (.int i) (.int j)) (kR Q s) := ⟨_, rfl, q⟩
theorem p_eqS (q : Q (.v (.bool (decide (x = y)))) s) : wp (fEq (.str x) (.str y)) (kR Q s) := ⟨_, rfl, q⟩
theorem p_eqB (q : Q (.v (.bool (decide (b = c)))) s) : wp (fEq (.bool b) (.bool c)) (kR Q s) := ⟨_, rfl, q⟩
theorem p_neI (q : Q (.v (.bool (!decide (i = j)))) s) : wp (fNe (.int i) (.int j)) (kR Q s) := ⟨_, rfl, q⟩
theorem p_neS (q : Q (.v (.bool (!decide (x = y)))) s) : wp (fNe (.str x) (.str y)) (kR Q s) := ⟨_, rfl, q⟩
theorem p_neB (q : Q (.v (.bool (!decide (b = c)))) s) : wp (fNe (.bool b) (.bool c)) (kR Q s) := ⟨_, rfl, q⟩
theorem p_isN (q : Q (.v (.bool (isNoneD d))) s) : wp (fIsN d .none) (kR Q s) := wp_d (by unfold fIsN; rfl) q
theorem p_notN (q : Q (.v (.bool (!isNoneD d))) s) : wp (fNotN d .none) (kR Q s) := wp_d (by unfold fNotN; rfl) q
theorem p_ixL (h : atI ds i = some d) (q : Q (.v d) s) : wp (fIx (.list ds) (.int i)) (kR Q s) := wp_d (by
  show (atI ds i).bind _ = _
  rw [h]
  rfl) q
theorem p_ixT (h : atI ds i = some d) (q : Q (.v d) s) : wp (fIx (.tuple ds) (.int i)) (kR Q s) := wp_d (by
  show (atI ds i).bind _ = _
  rw [h]
  rfl) q
theorem p_ixS {ch : Nat} (hz : x.length ≤ 100000) (h : atI x.cps.toList i = some ch) (q : Q (.v (.str ⟨#[ch]⟩)) s) : wp (fIx (.str x) (.int i)) (kR Q s) := wp_d (by
  show (if x.length ≤ 100000 then (atI x.cps.toList i).bind _ else none) = _
  rw [if_pos hz, h]
  rfl) q
theorem p_lenL (q : Q (.v (.int ds.length)) s) : wp (f1 fLen [.list ds]) (kR Q s) := ⟨_, rfl, q⟩
theorem p_lenT (q : Q (.v (.int ds.length)) s) : wp (f1 fLen [.tuple ds]) (kR Q s) := ⟨_, rfl, q⟩
theorem p_lenS (h : x.length ≤ 100000) (q : Q (.v (.int x.length)) s) : wp (f1 fLen [.str x]) (kR Q s) := wp_d (by
  show (if x.length ≤ 100000 then _ else none) = _
  rw [if_pos h]) q
theorem p_intI (q : Q (.v (.int i)) s) : wp (f1 fInt [.int i]) (kR Q s) := ⟨_, rfl, q⟩
theorem p_intB (q : Q (.v (.int (if b then 1 else 0))) s) : wp (f1 fInt [.bool b]) (kR Q s) := ⟨_, rfl, q⟩
theorem p_listL (q : Q (.nw (.lst ds)) s) : wp (f1 fList [.list ds]) (kR Q s) := ⟨_, rfl, q⟩
theorem p_listT (q : Q (.nw (.lst ds)) s) : wp (f1 fList [.tuple ds]) (kR Q s) := ⟨_, rfl, q⟩
theorem p_tupL (q : Q (.v (.tuple ds)) s) : wp (f1 fTuple [.list ds]) (kR Q s) := ⟨_, rfl, q⟩
theorem p_tupT (q : Q (.v (.tuple ds)) s) : wp (f1 fTuple [.tuple ds]) (kR Q s) := ⟨_, rfl, q⟩
theorem p_max2 (q : Q (.v (.int (if j > i then j else i))) s) : wp (f2 fMax2 [.int i, .int j]) (kR Q s) := ⟨_, rfl, q⟩
theorem p_min2 (q : Q (.v (.int (if j < i then j else i))) s) : wp (f2 fMin2 [.int i, .int j]) (kR Q s) := ⟨_, rfl, q⟩
theorem intsD_w : ∀ ns : List Int, intsD (ns.map PyData.int) = some ns
  | [] => rfl
  | n :: ns => by
    show (intsD (ns.map PyData.int)).bind _ = _
    rw [intsD_w ns]
    rfl
theorem p_sum {ns : List Int} (q : Q (.v (.int ns.sum)) s) : wp (f1 fSum [.list (ns.map PyData.int)]) (kR Q s) := wp_d (by
  show (intsD (ns.map PyData.int)).bind _ = _
  rw [intsD_w]
  rfl) q
theorem p_min {ns : List Int} {m : Int} (h : leastL ns = some m) (q : Q (.v (.int m)) s) : wp (f1 fMin [.list (ns.map PyData.int)]) (kR Q s) := wp_d (by
  show (intsD (ns.map PyData.int)).bind _ = _
  rw [intsD_w]
  show (leastL ns).bind _ = _
  rw [h]
  rfl) q
theorem p_max {ns : List Int} {m : Int} (h : mostL ns = some m) (q : Q (.v (.int m)) s) : wp (f1 fMax [.list (ns.map PyData.int)]) (kR Q s) := wp_d (by
  show (intsD (ns.map PyData.int)).bind _ = _
  rw [intsD_w]
  show (mostL ns).bind _ = _
  rw [h]
  rfl) q
theorem p_sorted {ns : List Int} (q : Q (.nw (.lst ((ns.mergeSort (· ≤ ·)).map PyData.int))) s) : wp (f1 fSorted [.list (ns.map PyData.int)]) (kR Q s) := wp_l (by
  show (intsD (ns.map PyData.int)).bind _ = _
  rw [intsD_w]
  rfl) q
/-- isinstance -/
def isiB (T : String) (d : D) : Bool := (kitB (tyD d) T).getD false
theorem kit_all : ∀ a ∈ ["NoneType", "bool", "int", "str", "list", "tuple"], ∀ b ∈ ["bool", "int", "str", "list", "tuple"], (kitB a b).isSome = true := by decide +kernel
theorem p_isi {T : String} {r : Bool} (h : kitB (tyD d) T = some r) (q : Q (.v (.bool r)) s) : wp (fIsi T d) (kR Q s) := wp_d (by
  show (kitB (tyD d) T).bind _ = _
  rw [h]
  rfl) q
theorem k_ii : kitB "int" "int" = some true := by decide +kernel
theorem k_ib : kitB "int" "bool" = some false := by decide +kernel
theorem k_bi : kitB "bool" "int" = some true := by decide +kernel
theorem k_bb : kitB "bool" "bool" = some true := by decide +kernel
theorem k_si : kitB "str" "int" = some false := by decide +kernel
theorem k_sb : kitB "str" "bool" = some false := by decide +kernel
theorem k_ss : kitB "str" "str" = some true := by decide +kernel
theorem k_is : kitB "int" "str" = some false := by decide +kernel
theorem k_st : kitB "str" "tuple" = some false := by decide +kernel
theorem k_it : kitB "int" "tuple" = some false := by decide +kernel
theorem k_tt : kitB "tuple" "tuple" = some true := by decide +kernel
theorem k_ts : kitB "tuple" "str" = some false := by decide +kernel
theorem k_ti : kitB "tuple" "int" = some false := by decide +kernel
theorem k_tb : kitB "tuple" "bool" = some false := by decide +kernel
theorem k_tl : kitB "tuple" "list" = some false := by decide +kernel
theorem k_ll : kitB "list" "list" = some true := by decide +kernel
theorem k_lt : kitB "list" "tuple" = some false := by decide +kernel
theorem k_ni : kitB "NoneType" "int" = some false := by decide +kernel
theorem k_nb : kitB "NoneType" "bool" = some false := by decide +kernel
theorem k_ns : kitB "NoneType" "str" = some false := by decide +kernel
theorem p_isiInt {T : String} {r : Bool} (h : kitB "int" T = some r) (q : Q (.v (.bool r)) s) : wp (fIsi T (.int i)) (kR Q s) := p_isi h q
theorem p_isiStr {T : String} {r : Bool} (h : kitB "str" T = some r) (q : Q (.v (.bool r)) s) : wp (fIsi T (.str x)) (kR Q s) := p_isi h q
theorem p_isiTup {T : String} {r : Bool} (h : kitB "tuple" T = some r) (q : Q (.v (.bool r)) s) : wp (fIsi T (.tuple ds)) (kR Q s) := p_isi h q
theorem p_isiLst {T : String} {r : Bool} (h : kitB "list" T = some r) (q : Q (.v (.bool r)) s) : wp (fIsi T (.list ds)) (kR Q s) := p_isi h q
theorem p_isiB {T : String} {r : Bool} (h : kitB "bool" T = some r) (q : Q (.v (.bool r)) s) : wp (fIsi T (.bool b)) (kR Q s) := p_isi h q
theorem p_isiN {T : String} {r : Bool} (h : kitB "NoneType" T = some r) (q : Q (.v (.bool r)) s) : wp (fIsi T .none) (kR Q s) := p_isi h q
/-- displays of dicts asked at once -/
theorem v_getS {kv : List (Str × Int)} {me mf : M} (h : wp2 (me s) fun o s1 => wp2 (mf s1) fun o2 s2 => wp (cD s2 o) fun d => wp (cD s2 o2) fun z => ∃ x n, d = .str x ∧ getD2 kv x z = some n ∧ Q (.v (.int n)) s2) : wp2 (mGetS kv me mf s) Q :=
  wp2_bnd2 (wp2_mono h fun _ _ h => wp2_bnd2 (wp2_mono h fun _ _ h => wp2_bnd (wp_mono h fun _ h => wp2_bnd (wp_mono h fun _ h => by
    obtain ⟨x, n, rfl, e, q⟩ := h
    refine ⟨_, _, ?_, q⟩
    show (getD2 kv x _).bind _ = _
    rw [e]
    rfl))))
/-! ### lists of one's own -/
theorem v_app {n : Nat} {me : M} (h : ∃ p ds, s[n]? = some (.ow p (.lst ds)) ∧ wp2 (mFz me s) fun o s1 => wp (vD o) fun d => ∃ p ds, s1[n]? = some (.ow p (.lst ds)) ∧ ds.length < 100000 ∧ Q (.v .none) (s1.set n (.ow p (.lst (ds ++ [d]))))) : wp2 (mApp n me s) Q := by
  obtain ⟨p, ds, h0, h⟩ := h
  have e0 : owL s n = some (p, ds) := by unfold owL; rw [h0]
  show wp2 ((owL s n).bind _) Q
  refine wp2_bnd ⟨_, e0, wp2_bnd2 (wp2_mono h fun _ s1 h => wp2_bnd (wp_mono h fun d h => ?_))⟩
  obtain ⟨p, ds, h1, hz, q⟩ := h
  have e1 : owL s1 n = some (p, ds) := by unfold owL; rw [h1]
  exact wp2_bnd ⟨_, e1, wp2_ck hz ⟨_, _, rfl, q⟩⟩
theorem v_pop {n : Nat} {me : M} (h : ∃ p ds, s[n]? = some (.ow p (.lst ds)) ∧ wp2 (me s) fun o s1 => wp (cD s1 o) fun d => ∃ p ds j k d', s1[n]? = some (.ow p (.lst ds)) ∧ d = .int j ∧ ixN ds.length j = some k ∧ ds[k]? = some d' ∧ (-(2 ^ 63) ≤ j ∧ j < 2 ^ 63) ∧ Q (.v d') (s1.set n (.ow p (.lst (ds.eraseIdx k))))) : wp2 (mPopAt n me s) Q := by
  obtain ⟨p, ds, h0, h⟩ := h
  have e0 : owL s n = some (p, ds) := by unfold owL; rw [h0]
  show wp2 ((owL s n).bind _) Q
  refine wp2_bnd ⟨_, e0, wp2_bnd2 (wp2_mono h fun _ s1 h => wp2_bnd (wp_mono h fun d h => ?_))⟩
  obtain ⟨p, ds, j, k, d', h1, rfl, h2, h3, h4, q⟩ := h
  have e1 : owL s1 n = some (p, ds) := by unfold owL; rw [h1]
  exact wp2_bnd ⟨_, e1, wp2_bnd ⟨_, h2, wp2_bnd ⟨_, h3, wp2_ck h4 ⟨_, _, rfl, q⟩⟩⟩⟩
theorem v_ext {n : Nat} {me : M} (h : ∃ p ds, s[n]? = some (.ow p (.lst ds)) ∧ wp2 (mFz me s) fun o s1 => wp (vD o) fun d => wp (selTL d) fun es => ∃ p ds, s1[n]? = some (.ow p (.lst ds)) ∧ ds.length + es.length ≤ 100000 ∧ Q (.v .none) (s1.set n (.ow p (.lst (ds ++ es))))) : wp2 (mExt n me s) Q := by
  obtain ⟨p, ds, h0, h⟩ := h
  have e0 : owL s n = some (p, ds) := by unfold owL; rw [h0]
  show wp2 ((owL s n).bind _) Q
  refine wp2_bnd ⟨_, e0, wp2_bnd2 (wp2_mono h fun _ s1 h => wp2_bnd (wp_mono h fun d h => wp2_bnd (wp_mono h fun es h => ?_)))⟩
  obtain ⟨p, ds, h1, hz, q⟩ := h
  have e1 : owL s1 n = some (p, ds) := by unfold owL; rw [h1]
  exact wp2_bnd ⟨_, e1, wp2_ck hz ⟨_, _, rfl, q⟩⟩
theorem s_setI {n : Nat} {mj me : M} {Q : Out → Prop} (h : wp2 (mFz me s) fun o s1 => wp (vD o) fun d => ∃ p ds, s1[n]? = some (.ow p (.lst ds)) ∧ wp2 (mj s1) fun o2 s2 => wp (cD s2 o2) fun dj => ∃ p ds j k, s2[n]? = some (.ow p (.lst ds)) ∧ dj = .int j ∧ ixN ds.length j = some k ∧ Q (.nx (s2.set n (.ow p (.lst (ds.set k d)))))) : wp (mSetI n mj me s) Q := by
  refine wp_bnd2 (wp2_mono h fun _ s1 h => wp_bnd (wp_mono h fun d h => ?_))
  obtain ⟨p, ds, h0, h⟩ := h
  have e0 : owL s1 n = some (p, ds) := by unfold owL; rw [h0]
  refine wp_bnd ⟨_, e0, wp_bnd2 (wp2_mono h fun _ s2 h => wp_bnd (wp_mono h fun dj h => ?_))⟩
  obtain ⟨p, ds, j, k, h1, rfl, h2, q⟩ := h
  have e1 : owL s2 n = some (p, ds) := by unfold owL; rw [h1]
  exact wp_bnd ⟨_, e1, wp_bnd ⟨_, h2, ⟨_, rfl, q⟩⟩⟩
theorem wp_cLn {o : Op} {P : List D → Prop} (h : cLn s o = some ds) (q : P ds) : wp (cLn s o) P := ⟨_, h, q⟩
theorem v_cat {ma mb : M} (h : wp2 (ma s) fun o1 s1 => wp2 (mb s1) fun o2 s2 => wp (cLn s2 o1) fun ds => wp (cLn s2 o2) fun es => ds.length + es.length ≤ 100000 ∧ Q (.nw (.lst (ds ++ es))) s2) : wp2 (mCat ma mb s) Q :=
  wp2_bnd2 (wp2_mono h fun _ _ h => wp2_bnd2 (wp2_mono h fun _ _ h => wp2_bnd (wp_mono h fun _ h => wp2_bnd (wp_mono h fun _ h => wp2_ck h.1 ⟨_, _, rfl, h.2⟩))))
theorem v_rep {ma mb : M} (h : wp2 (ma s) fun o1 s1 => wp2 (mb s1) fun o2 s2 => wp (cLn s2 o1) fun ds => wp (cD s2 o2) fun e => ∃ n : Int, e = .int n ∧ (-(2 ^ 63) ≤ n ∧ n < 2 ^ 63 ∧ ds.length * n.toNat ≤ 100000) ∧ Q (.nw (.lst (List.replicate n.toNat ds).flatten)) s2) : wp2 (mRep ma mb s) Q :=
  wp2_bnd2 (wp2_mono h fun _ _ h => wp2_bnd2 (wp2_mono h fun _ _ h => wp2_bnd (wp_mono h fun _ h => wp2_bnd (wp_mono h fun _ h => by
    obtain ⟨n, rfl, hz, q⟩ := h
    exact wp2_ck hz ⟨_, _, rfl, q⟩))))
/-! ### slices -/
theorem o_none {P : Option Int → SL → Prop} (q : P none s) : wp2 (mNoPart s) P := ⟨_, _, rfl, q⟩
theorem o_part {m : M} {P : Option Int → SL → Prop} (h : wp2 (m s) fun o s1 => wp (cD s1 o) fun d => ∃ i, d = .int i ∧ P (some i) s1) : wp2 (mPart m s) P := wp2_bnd2 (wp2_mono h fun _ _ h => wp2_bnd (wp_mono h fun _ h => by
  obtain ⟨i, rfl, q⟩ := h
  exact ⟨_, _, rfl, q⟩))
theorem v_sl {ma : M} {ml mh : MO} (h : wp2 (ma s) fun o s1 => wp2 (ml s1) fun l s2 => wp2 (mh s2) fun h s3 => wp (cD s3 o) fun d => wp (fSl d l h) (kR Q s3)) : wp2 (mSl ma ml mh s) Q :=
  wp2_bnd2 (wp2_mono h fun _ _ h => wp2_bnd2 (wp2_mono h fun _ _ h => wp2_bnd2 (wp2_mono h fun _ _ h => wp2_bnd (wp_mono h fun _ h => wp_res h))))
end
end Sh
-- Sw3.lean
set_option Elab.async false
set_option linter.all false
set_option maxRecDepth 100000
set_option maxHeartbeats 1000000
/-! Sw3: the rules' last premises. -/
namespace Sh
open PySem L2
theorem wp_cD {s : SL} {o : Op} {d : D} {K : D → Prop} (h : cD s o = some d) (q : K d) : wp (cD s o) K := ⟨_, h, q⟩
theorem wp_cDs {s : SL} {os : List Op} {ds : List D} {K : List D → Prop} (h : cDs s os = some ds) (q : K ds) : wp (cDs s os) K := ⟨_, h, q⟩
theorem wp_seqL {ds : List D} {K : List D → Prop} (q : K ds) : wp (seqD (.list ds)) K := ⟨_, rfl, q⟩
theorem wp_seqT {ds : List D} {K : List D → Prop} (q : K ds) : wp (seqD (.tuple ds)) K := ⟨_, rfl, q⟩
theorem wp_selL {ds : List D} {K : List D → Prop} (q : K ds) : wp (selL (.list ds)) K := ⟨_, rfl, q⟩
theorem wp_selTL1 {ds : List D} {K : List D → Prop} (q : K ds) : wp (selTL (.list ds)) K := ⟨_, rfl, q⟩
theorem wp_selTL2 {ds : List D} {K : List D → Prop} (q : K ds) : wp (selTL (.tuple ds)) K := ⟨_, rfl, q⟩
theorem ex_b {b : Bool} {R : Bool → Prop} (q : R b) : ∃ c, PyData.bool b = .bool c ∧ R c := ⟨b, rfl, q⟩
theorem ex_i {i : Int} {R : Int → Prop} (q : R i) : ∃ c, PyData.int i = .int c ∧ R c := ⟨i, rfl, q⟩
theorem ck_le {a b : Nat} {P : Prop} (h : Nat.ble a b = true) (q : P) : a ≤ b ∧ P := ⟨Nat.le_of_ble_eq_true h, q⟩
theorem ck_62 {i : Int} {P : Prop} (h : i.natAbs < 4611686018427387904) (q : P) : (-(2 ^ 62) ≤ i ∧ i < 2 ^ 62) ∧ P := ⟨⟨by omega, by omega⟩, q⟩
theorem ex_w {x : Str} {kv : List (Str × Int)} {z : D} {n : Int} {R : Int → Prop} (h : getD2 kv x z = some n) (q : R n) : ∃ y m, PyData.str x = .str y ∧ getD2 kv y z = some m ∧ R m := ⟨x, n, rfl, h, q⟩
theorem ex_app {s : SL} {n : Nat} {p : Bool} {ds : List D} {R : Bool → List D → Prop} (h : s[n]? = some (.ow p (.lst ds))) (q : R p ds) : ∃ p ds, s[n]? = some (.ow p (.lst ds)) ∧ R p ds := ⟨p, ds, h, q⟩
theorem kT_y {me : M} {vs : List Nat} {Y : D → SL → Prop} {N : SL → Prop} {s : SL} (h : wp2 (mFz me s) fun o s1 => wp (vD o) fun d => wp (unw vs s1) fun s2 => Y d s2) : kT me vs Y N true s := h
theorem unw_nil : unw [] ([] : SL) = some [] := rfl
end Sh
-- Ss.lean
set_option Elab.async false
set_option linter.all false
set_option maxRecDepth 100000
/-! Ss: a set of any texts, made of a list. -/
namespace Sst
open PySem PySem.Spec PyProof.Rows L2
/-- the texts, each once -/
def addT (σ : List Str) (v : Str) : List Str := if σ.any (· == v) then σ else σ ++ [v]
def ddT (xs : List Str) : List Str := xs.foldl addT []
theorem ddT_succ (xs : List Str) (i : Nat) (h : i < xs.length) : ddT (xs.take (i + 1)) = addT (ddT (xs.take i)) (xs.getD i Str.empty) := by
  unfold ddT
  rw [List.take_succ, List.getElem?_eq_getElem h, List.foldl_append]
  simp [List.getD, List.getElem?_eq_getElem h]
theorem addT_any (σ : List Str) (v k : Str) : (addT σ v).any (· == k) = (σ.any (· == k) || decide (k = v)) := by
  unfold addT
  by_cases h : σ.any (· == v) = true
  · rw [if_pos h]
    by_cases e : k = v
    · subst e; rw [h]; simp
    · simp [e]
  · rw [if_neg h, List.any_append]
    by_cases e : k = v
    · subst e; simp
    · have hb : (v == k) = false := by simpa [beq_iff_eq] using (fun h' : v = k => e h'.symm)
      simp [hb, e]
theorem addT_length (σ : List Str) (v : Str) : (addT σ v).length = if σ.any (· == v) then σ.length else σ.length + 1 := by
  unfold addT; split <;> simp
theorem ddT_le (xs : List Str) : (ddT xs).length ≤ xs.length := by
  have key : ∀ (xs σ : List Str), (xs.foldl addT σ).length ≤ σ.length + xs.length := by
    intro xs
    induction xs with
    | nil => intro σ; exact Nat.le_refl _
    | cons x r ih =>
      intro σ
      have h1 := ih (addT σ x)
      have h2 : (addT σ x).length ≤ σ.length + 1 := by rw [addT_length]; split <;> omega
      rw [List.foldl_cons, List.length_cons]
      omega
  have := key xs []
  simpa [ddT] using this
section
variable {prog : Program} {w : World} {A : Around} {R : Result → Shared → Prop} {I : Addr} {fp wr : List Addr} {G : Array GenState → Array GenState → Prop} {n : Nat} {P : Nat → Value → Prop} {St : Nat → Shared → Prop}
theorem loop_T (W : WalksS prog w A.in1 I fp wr G n P St) (S : Addr) (hSf : S ∉ fp) (xs : List Str) (hsz : xs.length = n) (hb : xs.length + 1 < scanBound)
    (hval : ∀ i v, P i v → ∃ t, v = .str (xs.getD i Str.empty) t) :
    ∀ (k i : Nat) (s : Shared), n - i = k → i ≤ n → St i s →
      s.heap.SetOf (PySem.strKind prog w) S (fun k' => (ddT (xs.take i)).any (· == k')) (ddT (xs.take i)).length →
      (∀ s', Moved (S :: wr) G s s' → s'.heap.SetOf (PySem.strKind prog w) S (fun k' => (ddT xs).any (· == k')) (ddT xs).length → R (.ok (.ret .none)) s') →
      codeAny (model prog w) A (.builtin "set.update.loop" ⟨[.ref S, .ref I], []⟩) R s := by
  have hSw : S ∉ wr := fun h => hSf (W.sub _ h)
  have at_ : ∀ {s s' : Shared} {S' : Str → Bool} {m : Nat}, s.heap.SetOf (PySem.strKind prog w) S S' m → (∀ o, s.heap.get? S = some o → s'.heap.get? S = some o) → s'.heap.SetOf (PySem.strKind prog w) S S' m := fun {s s' S' m} ⟨o, es, ep, t, ho, rest⟩ k => ⟨o, es, ep, t, k o ho, rest⟩
  intro k
  induction k with
  | zero =>
    intro i s hk hi hst hS hR
    obtain rfl : i = n := by omega
    refine codeAny_builtin PyProof.Rows.F.entry_set_update_loop ?_
    rw [Around.under_plainId PyProof.Rows.F.plain_set_update_loop _]
    show wpAny _ A.in1 (pyNext (.ref I) >>= _) _ _ s
    refine wpAny_bind (W.done s _ _ hst fun s' hm => wpAny_pure (hR s' (hm.mono fun b hb => List.mem_cons_of_mem _ hb) ?_))
    have := at_ (s' := s') hS fun o e => hm.heap S _ hSw e
    rw [← hsz, List.take_length] at this
    exact this
  | succ k ih =>
    intro i s hk hi hst hS hR
    have hlt : i < n := by omega
    refine codeAny_builtin PyProof.Rows.F.entry_set_update_loop ?_
    rw [Around.under_plainId PyProof.Rows.F.plain_set_update_loop _]
    show wpAny _ A.in1 (pyNext (.ref I) >>= _) _ _ s
    refine wpAny_bind (W.item i s _ _ hlt hst fun v s' hP hst' hm => ?_)
    obtain ⟨t, rfl⟩ := hval i v hP
    have hS' := at_ (s' := s') hS fun o e => hm.heap S _ hSw e
    show wpAny _ A.in1 (holding [Value.str (xs.getD i Str.empty) t] (setAdd S (.str (xs.getD i Str.empty) t)) >>= _) _ _ s'
    refine wpAny_bind (wpAny_holding ?_)
    unfold setAdd
    refine wpAny_holding (wpAny_bind ((PySem.strKind prog w).pyHash (k := xs.getD i Str.empty) (strKind_is _ _ _ _) ?_))
    have hroom : (ddT (xs.take i)).length + 1 < scanBound := by
      have h1 := ddT_le (xs.take i)
      have h2 : (xs.take i).length ≤ xs.length := by rw [List.length_take]; omega
      omega
    refine wpAny_setAddHashed_of (knd := PySem.strKind prog w) (s := { s' with toks := s'.toks + 1 }) (strKind_is _ _ _ _) rfl hS' hroom fun h' hsb hS2 => ?_
    have hSi := SetOf_congr (S' := fun k' => (ddT (xs.take (i + 1))).any (· == k')) (n' := (ddT (xs.take (i + 1))).length) hS2 (fun k' => by rw [ddT_succ xs i (by omega), addT_any]) (by rw [ddT_succ xs i (by omega), addT_length])
    refine wpAny_pure ⟨plainId_quiet PyProof.Rows.F.plain_set_update_loop _, ih (i + 1) _ (by omega) hlt (W.frame _ s' _ _ hst' (Nat.le_succ _) fun b hb o e => ?_) hSi fun s'' hm'' hS'' => ?_⟩
    · rw [hsb.2 b (fun h : b = S => hSf (by rw [← h]; exact hb))]; exact e
    · refine hR s'' (Moved.trans W.gtrans ((hm.mono fun b hb => List.mem_cons_of_mem _ hb).then_heap (Nat.le_succ _) fun b o hb e => ?_) hm'') hS''
      rw [hsb.2 b (fun h : b = S => hb (by rw [h]; exact List.mem_cons_self))]; exact e
end
section
variable {prog : Program} {w : World} {A : Around} {E : Value → Shared → Prop} {s : Shared}
set_option maxHeartbeats 3200000 in
theorem call_set_T {l : Addr} {items : Array Value} {xs : List Str} {Q : Value → Shared → Prop}
    (hh : A.handled = none) (hl : s.heap.IsList l items) (hi : PyProof.Rows.StrsAre items.toList xs) (hb : xs.length + 1 < scanBound)
    (h : ∀ (h' : Heap) (tk : Nat), h'.SetOf (PySem.strKind prog w) s.heap.objs.size (fun k' => (ddT xs).any (· == k')) (ddT xs).length →
      (∀ b o, b < s.heap.objs.size → s.heap.get? b = some o → h'.get? b = some o) → Q (.ref s.heap.objs.size) { s with heap := h', toks := tk }) :
    wpAny (model prog w) A (call (.type "set") [.ref l]) Q E s := by
  obtain ⟨c, tl, hmro⟩ := PySem.F.called_set.mro
  have hmade := PySem.F.called_set.made
  have hsub := PySem.F.called_set.sub
  refine wpAny_call (codeAny_of_tree ?_)
  show wpAny _ _ (callAny (.type "set") _) _ _ _
  refine wpAny_pure ⟨Code.quiet_builtin _ (by decide +kernel), codeAny_builtin PySem.F.entry_type_call ?_⟩
  rw [Around.under_plain (weight_type_call_type "set" [.ref l] []) rfl]
  have h1 := PySem.F.called_set.notType
  have h2 := PySem.F.called_set.canCreate
  have hct := PySem.F.typeCall_set_1 (.ref l)
  repeat (any_goals (first | assumption | wp_step))
  refine codeAny_mono (code_set_new_1 (.ref l) (E := E) (Q₁ := fun obj s₁ => ∃ led : Bool, obj = .ref s.heap.objs.size ∧ s₁ = { s with heap := s.heap.push { cls := .type "set", dict := none, data := .set #[] 0 (.fresh 0 0 led) } }) fun led => ⟨led, rfl, rfl⟩) fun r s₁ hr => ?_
  cases r with
  | error e => exact hr
  | ok fl =>
    cases fl with
    | ret obj =>
      obtain ⟨led, rfl, rfl⟩ := hr
      have hS : (s.heap.push { cls := .type "set", dict := none, data := .set #[] 0 (.fresh 0 0 led) }).get? s.heap.objs.size = some { cls := .type "set", dict := none, data := .set #[] 0 (.fresh 0 0 led) } := Heap.get?_push_size _ rfl
      have hT : Shared.TypeIs { s with heap := s.heap.push { cls := .type "set", dict := none, data := .set #[] 0 (.fresh 0 0 led) } } (.ref s.heap.objs.size) "set" := ⟨_, hS, rfl⟩
      have hli := PySem.F.called_set.init.lookup
      have hbi := PySem.F.called_set.init.bind (.ref s.heap.objs.size)
      repeat (any_goals (first | assumption | wp_step))
      refine codeAny_mono (codeAny_call_builtin (R := wants (fun r s₂ => r = .none ∧ ∃ h' tk, s₂ = { s with heap := h', toks := tk } ∧
          h'.SetOf (PySem.strKind prog w) s.heap.objs.size (fun k' => (ddT xs).any (· == k')) (ddT xs).length ∧
          (∀ b o, b < s.heap.objs.size → s.heap.get? b = some o → h'.get? b = some o)) E) PySem.F.called_set.init.plain PySem.F.entry_set_init (check_set_init_1 hT ?_)) fun r₂ s₂ hr₂ => ?_
      · obtain ⟨ol, hol, hcl, nl, hdl⟩ := hl
        obtain ⟨ocls, odict, odata, oslots⟩ := ol
        simp only at hcl hdl
        subst hcl; subst hdl
        have hol' : (s.heap.push { cls := .type "set", dict := none, data := .set #[] 0 (.fresh 0 0 led) }).get? l = some { cls := .type "list", dict := odict, data := .seq items nl, slots := oslots } := Heap.get?_push_of_some _ hol
        have hsls := PySem.F.sub_list_set
        have hslf := PySem.F.sub_list_frozenset
        have hne : (Value.type "list" == Value.type "dict") = false := by decide
        have hl1 : (s.heap.push { cls := .type "set", dict := none, data := .set #[] 0 (.fresh 0 0 led) }).IsList l items := ⟨_, hol', rfl, nl, rfl⟩
        unfold Builtin.«set.__init__» noKeywords Builtin.Frozenset.updateFrom
        generalize hPI : pyIter = PI
        wp_walk
        subst hPI
        refine wpAny_pyIter_list hl1 ?_
        refine wpAny_bind (wpAny_runValue ?_)
        have hlS : l < s.heap.objs.size := Heap.lt_size hol
        have hh3 : A.in1.in1.in1.handled = none := by simp [hh]
        have hneI : l ≠ (s.heap.push { cls := .type "set", dict := none, data := .set #[] 0 (.fresh 0 0 led) }).objs.size := by
          rw [Heap.size_push]; exact Nat.ne_of_lt (Nat.lt_succ_of_lt hlS)
        have hSf : s.heap.objs.size ∉ [(s.heap.push { cls := .type "set", dict := none, data := .set #[] 0 (.fresh 0 0 led) }).objs.size, l] := by
          rw [Heap.size_push]; simp only [List.mem_cons, List.mem_singleton, List.not_mem_nil, or_false, not_or]
          exact ⟨Nat.ne_of_lt (Nat.lt_succ_self _), Nat.ne_of_gt hlS⟩
        have hsz : xs.length = items.size := by rw [← StrsAre.len_eq hi, Array.length_toList]
        have hval : ∀ (i : Nat) (v : Value), items[i]? = some v → ∃ t, v = .str (xs.getD i Str.empty) t := fun i v hv => SS.strs_at hi i v (by rw [Array.getElem?_toList]; exact hv)
        refine loop_T ((Walks.list hh3 _ l hneI items).toS) s.heap.objs.size
          hSf xs hsz hb hval (items.size - 0) 0 _ (by omega) (Nat.zero_le _)
          ⟨⟨_, Heap.get?_push_size _ rfl, rfl, rfl⟩, (hl1.push _)⟩ ?hS0 ?hR
        case hS0 =>
          have hget : ((s.heap.push { cls := .type "set", dict := none, data := .set #[] 0 (.fresh 0 0 led) }).push { cls := .type "list_iterator", data := .fields #[.ref l, .int 0 0] }).get? s.heap.objs.size
              = some { cls := .type "set", dict := none, data := .set #[] 0 (.fresh 0 0 led) } := Heap.get?_push_of_some _ hS
          exact PyProof.Rows.SetOf_congr ((PyProof.Rows.setObjOf_fresh (knd := PySem.strKind prog w) led).setOf hget (by unfold scanBound; omega)) (fun _ => rfl) rfl
        case hR =>
          intro s' hm hS'
          obtain ⟨h', g', d', tk', os'⟩ := s'
          have eg : g' = s.gens := hm.gens
          have ed : d' = s.drawn := hm.drawn
          have eo : os' = s.os := hm.os
          subst eg; subst ed; subst eo
          show wpAny _ _ _ _ _ _
          refine wpAny_pure ?_
          show wpAny _ _ (ret Value.none) _ _ _
          refine wpAny_pure ⟨rfl, h', tk', rfl, hS', fun b o hb e => ?_⟩
          have hb1 : b ≠ s.heap.objs.size := Nat.ne_of_lt hb
          have hb2 : b ≠ (s.heap.push { cls := .type "set", dict := none, data := .set #[] 0 (.fresh 0 0 led) }).objs.size := by
            rw [Heap.size_push]; exact Nat.ne_of_lt (Nat.lt_succ_of_lt hb)
          exact hm.heap b o (by simp only [List.mem_cons, List.mem_singleton, List.not_mem_nil, or_false, not_or]; exact ⟨hb1, hb2⟩) (Heap.get?_push_of_some _ (Heap.get?_push_of_some _ e))
      · cases r₂ with
        | error e => exact hr₂
        | ok fl₂ =>
          cases fl₂ with
          | ret r =>
            obtain ⟨rfl, h', tk, rfl, hS', hk'⟩ := hr₂
            repeat (any_goals (first | assumption | wp_step))
            exact h _ _ hS' hk'
          | _ => exact hr₂.elim
    | _ => exact hr.elim
end
/-- len(set(xs)), xs a list of texts -/
def tLenT (K : PySem.W.Frag) (ta : TE) : TE := fun σ H Q => ta σ H fun x H1 => ∃ (l : Addr) (xs : List Str), x = .ref l ∧ SqL K H1 l (xs.map V.str) ∧ xs.length ≤ 1000 ∧ Q (.int ((ddT xs).length : Nat)) H1
theorem pe_lenT {X : Cx} {a : Expr} {ta : TE} {p p2 q pos : Pos} (hg : Gl X "len") (hm : X.mg "len" = none) (hg2 : Gl X "set") (hm2 : X.mg "set" = none) (ha : PE X a ta) (hc : X.calm = true := by rfl)
    (na : starEach [a] X.env = (false, eval a X.env) :: starEach [] X.env := by rfl) : PE X (.Call (.Name "len" p) [.Call (.Name "set" p2) [a] [] q] [] pos) (tLenT X.K ta) := by
  refine ⟨fun pins s σ H Q I h => ?_⟩
  refine Call_ (ld_blt I hg hm boot_len ?_)
  refine PyProof.Rows.callWith_builtin1 (PyProof.Rows.args_cons ?_ rfl) rfl rfl
  refine Call_ (ld_blt I hg2 hm2 boot_set ?_)
  refine PyProof.Rows.callWith_type1 (PyProof.Rows.args_cons (thn (ha.run pins s σ H _ I h) fun v s1 ⟨x, H1, I1, r1, q1⟩ => PyProof.Rows.args_nil ?_) na) na rfl
  obtain ⟨l, xs, rfl, hq, hl, q1⟩ := q1
  cases r1
  obtain ⟨its, r, pl, hz⟩ := I1.list hq
  refine call_set_T (I1.ok.hd hc) pl.isList (by simpa using strsAre_of r) (by unfold scanBound; omega) fun h' tk hS hk => ?_
  refine PyProof.Rows.args_nil ?_
  obtain ⟨o, es, ep, t, ho, hex, hd, _, _, _, hf, hn⟩ := hS
  have I2 : Inv X pins σ H1 { s1 with heap := h', toks := tk } := I1.kept fun b o e => hk b o (Heap.lt_size e) e
  have hle := ddT_le xs
  exact call_len_set ho hex hd hf (by rw [hn] <;> omega) ⟨.int ((ddT xs).length : Nat), H1, I2.tok _, ⟨_, by rw [hn]⟩, q1⟩
end Sst
-- Sh15.lean
set_option Elab.async false
set_option linter.all false
set_option maxRecDepth 100000
set_option maxHeartbeats 1000000
/-! Sh15: all, any of a generator expression. -/
namespace Sh
open PySem L2
theorem _root_.L2.Room.gen {k : Nat} {A : Around} (r : Room (k + 1) A) (env : Env) : Room k (A.in1.in1.deeper env) :=
  ⟨r.hd, by have := r.dp; show A.depth + 1 + 3 * k + 5 < _; omega, by have := r.un; show A.units + 1 + 1 + 3 + 16 * k + 200 < _; omega⟩
/-- all (d true), any (d false) over items -/
def loopA (d : Bool) (t : Tgt) (mt : MT) (me : M) (vs : List Nat) : List D → List Slot → Option (Bool × List Slot)
  | [], s => some (d, s)
  | x :: r, s => (t x s).bind fun s1 => (mt s1).bind fun p => if p.1 = true then (me p.2).bind fun q => (cD q.2 q.1).bind fun y => (bD y).bind fun b => (unw vs q.2).bind fun s4 => if b = d then loopA d t mt me vs r s4 else some (b, s4) else (unw vs p.2).bind fun s4 => loopA d t mt me vs r s4
def mAll (d : Bool) (sel : D → Option (List D)) (ml : M) (t : Tgt) (mt : MT) (me : M) (vs : List Nat) : M := fun s => (mFz ml s).bind fun p => (cD p.2 p.1).bind fun x => (sel x).bind fun ds => (unw vs p.2).bind fun s2 => (loopA d t mt me vs ds s2).bind fun z => some (.v (.bool z.1), rst vs p.2 z.2)
section
variable {K : PySem.W.Frag} {c : Cfg K}
/-- a table of codes has grown -/
theorem tab_le {w : W} {σ : St} {s : List Slot} {P : Addr} {H2 : Hp} (R : Rel c w σ s) (hP : P ∈ c.T) (h : GxR.Tabbed P w.H H2) : Le w { w with H := H2 } ∧ Rel c { w with H := H2 } σ s := by
  have hw := R.tb.1 P hP
  obtain ⟨h1, h2, h3⟩ := R.tb.2 P hw
  have ne : ∀ b, b ∉ w.T → H2 b = w.H b := fun b hb => h.2 b fun z => hb (by rw [z]; exact hw)
  have tb : ∀ a ∈ w.T, GxR.TabG w.H a → GxR.TabG H2 a := fun a ha q => by
    by_cases z : a = P
    · rw [z]
      exact h.1
    · obtain ⟨ps, q1, q2⟩ := q
      exact ⟨ps, (h.2 a z).trans q1, q2⟩
  refine ⟨⟨fun _ _ z => z, fun a o q n => ⟨(ne a n.2).trans q, rfl⟩, fun i a z => .inl z, fun a o q => ?_, ⟨rfl, fun a ha q => ⟨tb a ha q, rfl⟩⟩⟩, ⟨R.len, fun a o q => ?_, fun i a ha => ?_, R.fz, fun i p k hi => ?_, R.dis, R.non, ⟨R.tb.1, fun a ha => ⟨tb a ha (R.tb.2 a ha).1, (R.tb.2 a ha).2⟩⟩⟩⟩
  · by_cases z : a = P
    · obtain ⟨ps, q1, _⟩ := h.1
      exact ⟨_, by rw [z]; exact q1⟩
    · exact ⟨o, (h.2 a z).trans q⟩
  · by_cases z : a = P
    · rw [z, h2] at q
      cases q
    · exact (h.2 a z).trans (R.sub a o q)
  · obtain ⟨q1, o, q2⟩ := R.out i a ha
    exact ⟨q1, o, (h.2 a fun z => h3 i (by rw [← z]; exact ha)).trans q2⟩
  · obtain ⟨v, q1, q2⟩ := R.ow i p k hi
    exact ⟨v, q1, q2.mono (fun _ _ z => z) fun a ha o ho => (h.2 a fun z => h3 i (by rw [← z]; exact ha)).trans ho⟩
theorem lift_all {P : Addr} {d : Bool} {g : TG} {t : Tgt} {ts vs : List Nat} {mt : MT} {me : M} {J : It} {ds : List D} {w : W} {σ : St} {s s2 : List Slot} {z : Bool × List Slot} {Q : VK} (hP : P ∈ c.T) (hg : TgtC c g t ts) (hts : ∀ i ∈ ts, i ∈ vs) (hw : Walks (K := K) J ds w) (R : Rel c w σ s) (hu : unw vs s = some s2)
    (e : loopA d t mt me vs ds s2 = some z) (k : ∀ w', Le w w' → Rel c w' σ (rst vs s z.2) → Keep s (rst vs s z.2) → Q (.bl z.1) w'.H) :
    GxR.TabG w.H P ∧ ∀ H2, GxR.Tabbed P w.H H2 → ∃ Wv : Nat → Nat → Hp → Prop, (∃ m, Wv 0 m H2) ∧ Gx.Turns d J g (liftT c mt) (liftE c me) (L2.wipe σ vs) vs Q Wv := by
  have hn := (unw_get hu).1
  refine ⟨(R.tb.2 P (R.tb.1 P hP)).1, fun H2 hT => ?_⟩
  obtain ⟨lT, RT⟩ := tab_le R hP hT
  let In : Nat → Hp → Prop := fun i H => ∃ w' s', w'.H = H ∧ Le w w' ∧ Rel c w' (L2.wipe σ vs) s' ∧ Keep s s' ∧ loopA d t mt me vs (ds.drop i) s' = some z
  refine ⟨fun i m H => m = ds.length - i ∧ i ≤ ds.length ∧ In i H, ⟨ds.length, by simp, Nat.zero_le _, ?_⟩, ?_⟩
  · exact ⟨_, s2, rfl, lT, RT.wipe hu, keep_unw hu, e⟩
  · rintro i m H ⟨rfl, hi, w', s', rfl, l', R', k', e'⟩
    obtain ⟨hgo, hstop⟩ := hw w' l' R'.sub
    by_cases hlt : i < ds.length
    · refine .inr ?_
      obtain ⟨h1, h2⟩ := hgo i _ (List.getElem?_eq_getElem hlt)
      rw [List.drop_eq_getElem_cons hlt] at e'
      obtain ⟨s1, e1, e2⟩ := bnd (x := t ds[i] s') e'
      obtain ⟨⟨b, s3⟩, e3, e4⟩ := bnd e2
      refine ⟨h1, In (i + 1), fun H' q => ⟨ds.length - (i + 1), by omega, rfl, hlt, q⟩, fun x H'' hy => ?_⟩
      obtain ⟨w1, rfl, g1, dx⟩ := h2 x H'' hy
      have R1 := R'.grow g1
      have l1 : Le w w1 := l'.trans g1.le
      refine hg w1 w1 _ s' s1 x ds[i] (Le.refl w1) R1 dx e1 _ fun σ2 w2 hh l2 R2 k2 hl2 hs2 => ?_
      have hwp : L2.wipe σ2 vs = L2.wipe σ vs := by
        apply List.ext_getElem?
        intro j
        rw [wipe_get, wipe_get]
        by_cases hj : j ∈ vs
        · rw [if_pos hj, if_pos hj]
          rw [wipe_length] at hl2
          by_cases hjl : j < σ.length
          · rw [List.getElem?_eq_getElem hjl, List.getElem?_eq_getElem (by omega)]
            rfl
          · rw [List.getElem?_eq_none (by omega), List.getElem?_eq_none (by omega)]
        · rw [if_neg hj, if_neg hj, hs2 j (fun q => hj (hts j q)), wipe_get, if_neg hj]
      have kk2 : Keep s' s1 := fun j kc q => (k2 j kc q).2
      refine ⟨hwp, w2, s1, rfl, R2, b, s3, e3, fun w3 l3 R3 k3 => ?_⟩
      cases b with
      | true =>
        obtain ⟨⟨o4, s4⟩, e5, e6⟩ := bnd (x := me s3) e4
        obtain ⟨y', e7, e8⟩ := bnd e6
        obtain ⟨b', e9, e10⟩ := bnd e8
        obtain ⟨s5, e11, e12⟩ := bnd e10
        rw [if_pos rfl]
        refine ⟨w3, s3, rfl, R3, o4, s4, e5, fun y w4 l4 R4 k4 q4 => ⟨b', view_b R4 q4 e7 e9, ?_⟩⟩
        have l14 : Le w w4 := l1.trans ((l2.trans l3).trans l4)
        have Rw := R4.wipe e11
        rw [hwp] at Rw
        have kk : Keep s s5 := k'.trans (kk2.trans (k3.trans (k4.trans (keep_unw e11))))
        by_cases hb : b' = d
        · rw [if_pos hb]
          exact ⟨w4, s5, rfl, l14, Rw, kk, by
            have e12 : (if b' = d then loopA d t mt me vs (ds.drop (i + 1)) s5 else some (b', s5)) = some z := e12
            rw [if_pos hb] at e12
            exact e12⟩
        · rw [if_neg hb]
          have e12 : (if b' = d then loopA d t mt me vs (ds.drop (i + 1)) s5 else some (b', s5)) = some z := e12
          rw [if_neg hb] at e12
          cases e12
          exact k w4 l14 (R.unwipe l14 Rw hn) (keep_rst hn kk)
      | false =>
        obtain ⟨s5, e9, e10⟩ := bnd (x := unw vs s3) e4
        have Rw := R3.wipe e9
        rw [hwp] at Rw
        rw [if_neg Bool.false_ne_true]
        exact ⟨w3, s5, rfl, l1.trans (l2.trans l3), Rw, k'.trans (kk2.trans (k3.trans (keep_unw e9))), e10⟩
    · have e0 : i = ds.length := by omega
      subst e0
      rw [List.drop_length] at e'
      cases e'
      exact .inl ⟨hstop, k w' l' (R.unwipe l' R' hn) (keep_rst hn k')⟩
theorem lift_allS {P : Addr} {d : Bool} {ml : M} {g : TG} {t : Tgt} {ts vs : List Nat} {mt : MT} {me : M} {σ : St} {H : Hp} {Q : VK} (hP : P ∈ c.T) (hg : TgtC c g t ts) (hts : ∀ i ∈ ts, i ∈ vs) (h : liftE c (mAll d seqD ml t mt me vs) σ H Q) : Gx.tAll d P (iSeq K (liftE c (mFz ml))) g (liftT c mt) (liftE c me) vs σ H Q := by
  obtain ⟨w, s, rfl, R, o, s', e, k⟩ := h
  obtain ⟨⟨o1, s1⟩, e1, e⟩ := bnd e
  obtain ⟨x, e2, e⟩ := bnd e
  obtain ⟨ds, e3, e⟩ := bnd e
  obtain ⟨s2, e4, e⟩ := bnd e
  obtain ⟨z, e5, e⟩ := bnd e
  cases e
  obtain ⟨d1, rfl⟩ := mfz_v e1
  cases e2
  cases x with
  | list ds' =>
    cases e3
    refine .inl ⟨w, s, rfl, R, _, s1, e1, fun v w1 l1 R1 k1 q1 => ?_⟩
    have q1 : Dp K w1.F v (.list ds) := q1
    cases q1 with
    | lst h1 h2 => exact ⟨_, rfl, ⟨_, sqL_mono R1.sub h1⟩, lift_all hP hg hts (walks_list h1 h2) R1 e4 e5 fun w' l' R' k' => k _ w' (l1.trans l') R' (k1.trans k') (.bl _)⟩
  | tuple ds' =>
    cases e3
    refine .inr ⟨w, s, rfl, R, _, s1, e1, fun v w1 l1 R1 k1 q1 => ?_⟩
    have q1 : Dp K w1.F v (.tuple ds) := q1
    cases q1 with
    | tup h1 h2 => exact ⟨_, rfl, ⟨_, sqT_mono R1.sub h1⟩, lift_all hP hg hts (walks_tup h1 h2) R1 e4 e5 fun w' l' R' k' => k _ w' (l1.trans l') R' (k1.trans k') (.bl _)⟩
  | _ => cases e3
/-- a text's signs -/
def sgD (x : Str) : List D := x.cps.toList.map fun n => .str ⟨#[n]⟩
def selS : D → Option (List D)
  | .str x => some (sgD x)
  | _ => none
theorem walks_str {w : W} (x : Str) : Walks (K := K) (Its x) (sgD x) w := fun w' l sb => by
  have hl : (sgD x).length = x.cps.size := by simp [sgD]
  refine ⟨fun i d e => ?_, by rw [hl]; exact Nat.le_refl _⟩
  unfold sgD at e
  rw [List.getElem?_map, Array.getElem?_toList] at e
  cases hc : x.cps[i]? with
  | none =>
    rw [hc] at e
    cases e
  | some n =>
    rw [hc] at e
    cases e
    refine ⟨(Array.getElem?_eq_some_iff.mp hc).1, fun y H' hy => ?_⟩
    obtain ⟨rfl, n', h1, rfl⟩ := hy
    rw [hc] at h1
    cases h1
    exact ⟨w', rfl, Gr.refl sb, .str _⟩
theorem lift_allT {P : Addr} {d : Bool} {ml : M} {g : TG} {t : Tgt} {ts vs : List Nat} {mt : MT} {me : M} {σ : St} {H : Hp} {Q : VK} (hP : P ∈ c.T) (hg : TgtC c g t ts) (hts : ∀ i ∈ ts, i ∈ vs) (h : liftE c (mAll d selS ml t mt me vs) σ H Q) : Gx.tAll d P (iStr (liftE c (mFz ml))) g (liftT c mt) (liftE c me) vs σ H Q := by
  obtain ⟨w, s, rfl, R, o, s', e, k⟩ := h
  obtain ⟨⟨o1, s1⟩, e1, e⟩ := bnd e
  obtain ⟨x, e2, e⟩ := bnd e
  obtain ⟨ds, e3, e⟩ := bnd e
  obtain ⟨s2, e4, e⟩ := bnd e
  obtain ⟨z, e5, e⟩ := bnd e
  cases e
  obtain ⟨d1, rfl⟩ := mfz_v e1
  cases e2
  cases x with
  | str x =>
    cases e3
    refine ⟨w, s, rfl, R, _, s1, e1, fun v w1 l1 R1 k1 q1 => ?_⟩
    have q1 : Dp K w1.F v (.str x) := q1
    cases q1
    exact ⟨x, rfl, lift_all hP hg hts (walks_str x) R1 e4 e5 fun w' l' R' k' => k _ w' (l1.trans l') R' (k1.trans k') (.bl _)⟩
  | _ => cases e3
end
section
variable {X : Cx} {c : Cfg X.K} {elt tg iter : Expr} {ifs : List Expr} {scope : Scope} {own : List (Str × Nat)} {p pos gpos : Pos} {g : TG} {t : Tgt} {ts : List Nat} {mt : MT} {me ml : M} {cc P : Addr} {k : Nat}
/-- what a generator expression's place must be -/
structure GenAt (X : Cx) (k : Nat) (cc P : Addr) : Prop where
  room : Room k X.A
  tab : GxR.TabB X.base X.mg cc P
  code : X.env.code = .ref cc
theorem she_allS (hb : GenAt X k cc P) (hP : P ∈ c.T) (hgl : Gl X "all") (hm : X.mg "all" = none) (hz : bootBuiltins "all" = some (.builtin "all")) (hc : X.calm = true) (hN : X.N.Nodup) (hi : PE X iter (liftE c ml)) (ok : Gx.GenOk X.N X.env.scope scope own)
    (hg : ∀ (s : Shared) (H : Hp) (C : Addr) (cl : List (Str × Addr)) (code : Value) (fp : List Addr), PG (Gx.cxGen X (X.A.in1.in1.deeper (genEnv scope cl C code builtinsNs X.env)) s H (genEnv scope cl C code builtinsNs X.env) fp) tg g) (hg' : TgtC c g t ts) (hts : ∀ i ∈ ts, i ∈ own.map (·.2))
    (ht : ∀ (s : Shared) (H : Hp) (C : Addr) (cl : List (Str × Addr)) (code : Value) (fp : List Addr), PTs (Gx.cxGen X (X.A.in1.in1.deeper (genEnv scope cl C code builtinsNs X.env)) s H (genEnv scope cl C code builtinsNs X.env) fp) ifs (liftT c mt))
    (he : ∀ (s : Shared) (H : Hp) (C : Addr) (cl : List (Str × Addr)) (code : Value) (fp : List Addr), PE (Gx.cxGen X (X.A.in1.in1.deeper (genEnv scope cl C code builtinsNs X.env)) s H (genEnv scope cl C code builtinsNs X.env) fp) elt (liftE c me))
    (hs : Gx.FoldOk X iter := by first | exact Gx.fold_pure (by intro _; rfl) | exact Gx.fold_star rfl) (hst : starEach [.GeneratorExp elt [⟨tg, iter, ifs, 0⟩] scope gpos] X.env = (false, eval (.GeneratorExp elt [⟨tg, iter, ifs, 0⟩] scope gpos) X.env) :: starEach [] X.env := by rfl) :
    PE X (.Call (.Name "all" p) [.GeneratorExp elt [⟨tg, iter, ifs, 0⟩] scope gpos] [] pos) (liftE c (mAll true seqD ml t mt me (own.map (·.2)))) :=
  (Gx.pe_allG hb.room hgl hm hz hb.tab hb.code ok hc hN (pi_seq (she_fz hi)) hg ht he hs hst).imp fun _ _ _ h => lift_allS hP hg' hts h
theorem she_allT (hb : GenAt X k cc P) (hP : P ∈ c.T) (hgl : Gl X "all") (hm : X.mg "all" = none) (hz : bootBuiltins "all" = some (.builtin "all")) (hc : X.calm = true) (hN : X.N.Nodup) (hi : PE X iter (liftE c ml)) (ok : Gx.GenOk X.N X.env.scope scope own)
    (hg : ∀ (s : Shared) (H : Hp) (C : Addr) (cl : List (Str × Addr)) (code : Value) (fp : List Addr), PG (Gx.cxGen X (X.A.in1.in1.deeper (genEnv scope cl C code builtinsNs X.env)) s H (genEnv scope cl C code builtinsNs X.env) fp) tg g) (hg' : TgtC c g t ts) (hts : ∀ i ∈ ts, i ∈ own.map (·.2))
    (ht : ∀ (s : Shared) (H : Hp) (C : Addr) (cl : List (Str × Addr)) (code : Value) (fp : List Addr), PTs (Gx.cxGen X (X.A.in1.in1.deeper (genEnv scope cl C code builtinsNs X.env)) s H (genEnv scope cl C code builtinsNs X.env) fp) ifs (liftT c mt))
    (he : ∀ (s : Shared) (H : Hp) (C : Addr) (cl : List (Str × Addr)) (code : Value) (fp : List Addr), PE (Gx.cxGen X (X.A.in1.in1.deeper (genEnv scope cl C code builtinsNs X.env)) s H (genEnv scope cl C code builtinsNs X.env) fp) elt (liftE c me))
    (hs : Gx.FoldOk X iter := by first | exact Gx.fold_pure (by intro _; rfl) | exact Gx.fold_star rfl) (hst : starEach [.GeneratorExp elt [⟨tg, iter, ifs, 0⟩] scope gpos] X.env = (false, eval (.GeneratorExp elt [⟨tg, iter, ifs, 0⟩] scope gpos) X.env) :: starEach [] X.env := by rfl) :
    PE X (.Call (.Name "all" p) [.GeneratorExp elt [⟨tg, iter, ifs, 0⟩] scope gpos] [] pos) (liftE c (mAll true selS ml t mt me (own.map (·.2)))) :=
  (Gx.pe_allG hb.room hgl hm hz hb.tab hb.code ok hc hN (pi_str (she_fz hi)) hg ht he hs hst).imp fun _ _ _ h => lift_allT hP hg' hts h
theorem she_anyS (hb : GenAt X k cc P) (hP : P ∈ c.T) (hgl : Gl X "any") (hm : X.mg "any" = none) (hz : bootBuiltins "any" = some (.builtin "any")) (hc : X.calm = true) (hN : X.N.Nodup) (hi : PE X iter (liftE c ml)) (ok : Gx.GenOk X.N X.env.scope scope own)
    (hg : ∀ (s : Shared) (H : Hp) (C : Addr) (cl : List (Str × Addr)) (code : Value) (fp : List Addr), PG (Gx.cxGen X (X.A.in1.in1.deeper (genEnv scope cl C code builtinsNs X.env)) s H (genEnv scope cl C code builtinsNs X.env) fp) tg g) (hg' : TgtC c g t ts) (hts : ∀ i ∈ ts, i ∈ own.map (·.2))
    (ht : ∀ (s : Shared) (H : Hp) (C : Addr) (cl : List (Str × Addr)) (code : Value) (fp : List Addr), PTs (Gx.cxGen X (X.A.in1.in1.deeper (genEnv scope cl C code builtinsNs X.env)) s H (genEnv scope cl C code builtinsNs X.env) fp) ifs (liftT c mt))
    (he : ∀ (s : Shared) (H : Hp) (C : Addr) (cl : List (Str × Addr)) (code : Value) (fp : List Addr), PE (Gx.cxGen X (X.A.in1.in1.deeper (genEnv scope cl C code builtinsNs X.env)) s H (genEnv scope cl C code builtinsNs X.env) fp) elt (liftE c me))
    (hs : Gx.FoldOk X iter := by first | exact Gx.fold_pure (by intro _; rfl) | exact Gx.fold_star rfl) (hst : starEach [.GeneratorExp elt [⟨tg, iter, ifs, 0⟩] scope gpos] X.env = (false, eval (.GeneratorExp elt [⟨tg, iter, ifs, 0⟩] scope gpos) X.env) :: starEach [] X.env := by rfl) :
    PE X (.Call (.Name "any" p) [.GeneratorExp elt [⟨tg, iter, ifs, 0⟩] scope gpos] [] pos) (liftE c (mAll false seqD ml t mt me (own.map (·.2)))) :=
  (Gx.pe_anyG hb.room hgl hm hz hb.tab hb.code ok hc hN (pi_seq (she_fz hi)) hg ht he hs hst).imp fun _ _ _ h => lift_allS hP hg' hts h
theorem she_anyT (hb : GenAt X k cc P) (hP : P ∈ c.T) (hgl : Gl X "any") (hm : X.mg "any" = none) (hz : bootBuiltins "any" = some (.builtin "any")) (hc : X.calm = true) (hN : X.N.Nodup) (hi : PE X iter (liftE c ml)) (ok : Gx.GenOk X.N X.env.scope scope own)
    (hg : ∀ (s : Shared) (H : Hp) (C : Addr) (cl : List (Str × Addr)) (code : Value) (fp : List Addr), PG (Gx.cxGen X (X.A.in1.in1.deeper (genEnv scope cl C code builtinsNs X.env)) s H (genEnv scope cl C code builtinsNs X.env) fp) tg g) (hg' : TgtC c g t ts) (hts : ∀ i ∈ ts, i ∈ own.map (·.2))
    (ht : ∀ (s : Shared) (H : Hp) (C : Addr) (cl : List (Str × Addr)) (code : Value) (fp : List Addr), PTs (Gx.cxGen X (X.A.in1.in1.deeper (genEnv scope cl C code builtinsNs X.env)) s H (genEnv scope cl C code builtinsNs X.env) fp) ifs (liftT c mt))
    (he : ∀ (s : Shared) (H : Hp) (C : Addr) (cl : List (Str × Addr)) (code : Value) (fp : List Addr), PE (Gx.cxGen X (X.A.in1.in1.deeper (genEnv scope cl C code builtinsNs X.env)) s H (genEnv scope cl C code builtinsNs X.env) fp) elt (liftE c me))
    (hs : Gx.FoldOk X iter := by first | exact Gx.fold_pure (by intro _; rfl) | exact Gx.fold_star rfl) (hst : starEach [.GeneratorExp elt [⟨tg, iter, ifs, 0⟩] scope gpos] X.env = (false, eval (.GeneratorExp elt [⟨tg, iter, ifs, 0⟩] scope gpos) X.env) :: starEach [] X.env := by rfl) :
    PE X (.Call (.Name "any" p) [.GeneratorExp elt [⟨tg, iter, ifs, 0⟩] scope gpos] [] pos) (liftE c (mAll false selS ml t mt me (own.map (·.2)))) :=
  (Gx.pe_anyG hb.room hgl hm hz hb.tab hb.code ok hc hN (pi_str (she_fz hi)) hg ht he hs hst).imp fun _ _ _ h => lift_allT hP hg' hts h
end
theorem fn_okG {P : Program} {w : World} {K : PySem.W.Frag} {mg : Str → Option Value} {base : Heap} {x qual : Str} {st : Stmt} {f : Addr} {fd : FuncData} {N ps : List Str} {k : Nat} {sp : Sp} {cc : Addr} (F : Fun K x qual st f fd) (hcc : fd.code = .ref cc) (S : FnScope N ps (defScope st)) (len : ∀ vs H Q E, sp vs H Q E → vs.length = ps.length)
    (hbody : ∀ (A : Around) (outer : List Env) (s : Shared) (H : Hp) (vs : List V) (Q : VK) (E : XK), Room k (A.deeper (PyProof.Rows.envOfC qual (defScope st) s.heap.objs.size f (.ref cc))) → sp vs H Q E →
      ∃ t, PSs (cxOf CX0 P w K mg base N qual (defScope st) f (.ref cc) A outer s H E).nox (defBody st) t ∧ t { nx := fun _ H' => Q .non H', rt := Q } (L2.start N vs) H) : FnOk P w K mg base CX0 (k + 1) f fd ps sp := by
  obtain ⟨oc, od, kV, doc, pm, an, cdv, ct, osl, rfl, lk, hcd⟩ := F.ex
  obtain rfl : cdv = .ref cc := hcc
  refine fn_of lk hcd S len fun A outer s H vs Q E hr hsp => ?_
  obtain ⟨t, h, q⟩ := hbody A outer s H vs Q E hr hsp
  exact ⟨t, h.nox, q⟩
/-- a def that runs by its code object -/
theorem fn_semG {P : Program} {w : World} {K : PySem.W.Frag} {mg : Str → Option Value} {base : Heap} {x qual : Str} {st : Stmt} {f : Addr} {fd : FuncData} {N ps : List Str} {k l n : Nat} {c : Cfg K} {m : MS} (cc : Addr) (F : Fun K x qual st f fd) (hcc : fd.code = .ref cc) (S : FnScope N ps (defScope st)) (hN : N.length = l) (hn : ps.length = n)
    (hb : ∀ (A : Around) (outer : List Env) (s : Shared) (H : Hp) (E : XK), Room k (A.deeper (PyProof.Rows.envOfC qual (defScope st) s.heap.objs.size f (.ref cc))) →
      PSs (cxOf CX0 P w K mg base N qual (defScope st) f (.ref cc) A outer s H E).nox (defBody st) (liftS c m)) : FnOk P w K mg base CX0 (k + 1) f fd ps (spF c n (bodyF l m)) := by
  subst hN hn
  refine fn_okG F hcc S (fun vs H Q E h => h.1) (fun A outer s H vs Q E hr h => ⟨_, hb A outer s H E hr, ?_⟩)
  obtain ⟨hl, w1, ss, rfl, R, o, ss', e, ns, q⟩ := h
  obtain ⟨out, e1, e⟩ := bnd e
  have hlen : vs.length = ss.length := by
    have := R.len
    rw [List.length_map] at this
    exact this
  have R1 : Rel c w1 (L2.start N vs) (ss ++ List.replicate (N.length - ss.length) .un) := by
    unfold L2.start
    rw [hlen]
    exact R.pad _
  refine ⟨w1, _, rfl, R1, out, e1, ?_⟩
  have kp' : ∀ {σ' : St} {s' : List Slot}, Kp (L2.start N vs) (ss ++ List.replicate (N.length - ss.length) .un) σ' s' → Kp (vs.map some ++ List.replicate (N.length - ss.length) none) (ss ++ List.replicate (N.length - ss.length) .un) σ' s' := fun {σ' s'} h => by
    unfold L2.start at h
    rw [hlen] at h
    exact h
  cases out with
  | nx s' =>
    obtain ⟨ss2, e2, e⟩ := bnd (x := outs ss s') e
    cases e
    intro σ' w' l R' kp
    obtain ⟨w2, hh, l2, R2, _⟩ := R.leave l R' (kp' kp) e2
    show Q .non w'.H
    rw [← hh]
    exact q _ w2 l2 R2 .non
  | rt o1 s' =>
    obtain ⟨o2, e2, e⟩ := bnd (x := conv ss s' o1) e
    obtain ⟨ss2, e3, e⟩ := bnd e
    cases e
    intro v σ' w' l R' kp ho
    obtain ⟨w2, hh, l2, R2, hc⟩ := R.leave l R' (kp' kp) e3
    show Q v w'.H
    rw [← hh]
    exact q _ w2 l2 R2 (hc o1 _ v e2 ho)
  | bk s' => cases e
  | ct s' => cases e
  | ex n s' => trivial
end Sh
-- Sh16.lean
set_option Elab.async false
set_option linter.all false
set_option maxRecDepth 100000
set_option maxHeartbeats 1000000
/-! Sh16: texts, dicts of the module, stars, what never comes to run. -/
namespace Sh
open PySem L2
theorem vd_list' {K : PySem.W.Frag} {w : W} {v : V} {ds : List D} (h : VD (K := K) w v (.list ds)) : ∃ a xs, v = .ref a ∧ SqL K w.H a xs ∧ DpAll K w.F xs ds := h
/-- a statement that never comes to run -/
def mNever : MS := fun _ => none
theorem shs_never {X : Cx} {c : Cfg X.K} {st : Stmt} : PS X st (liftS c mNever) := ⟨fun pins s σ H D I h => by
  obtain ⟨w, s, _, _, out, e, _⟩ := h
  cases e⟩
theorem shss_never {X : Cx} {c : Cfg X.K} {st : List Stmt} : PSs X st (liftS c mNever) := ⟨fun pins s σ H D I h => by
  obtain ⟨w, s, _, _, out, e, _⟩ := h
  cases e⟩
/-- try, where nothing is raised -/
theorem shs_try {X : Cx} {c : Cfg X.K} {body : List Stmt} {h₀ : ExceptHandler} {hs : List ExceptHandler} {pos : Pos} {m : MS} (hb : PSs X.nox body (liftS c m)) : PS X (.Try body (h₀ :: hs) [] [] pos) (liftS c m) := ps_try_thru0 hb
section
variable {K : PySem.W.Frag} {c : Cfg K}
theorem strs_dp {F : Hp} : ∀ {ys : List Str} {xs : List V}, DpAll K F xs (ys.map PyData.str) → xs = ys.map V.str
  | [], _, h => by
    cases h
    rfl
  | y :: ys, _, h => by
    cases h with
    | cons h1 h2 =>
      cases h1
      rw [strs_dp h2]
      rfl
theorem dp_strs {F : Hp} : ∀ (ys : List Str), DpAll K F (ys.map V.str) (ys.map PyData.str)
  | [] => .nil
  | y :: ys => .cons (.str y) (dp_strs ys)
/-- a list of texts -/
def strsD : List D → Option (List Str)
  | [] => some []
  | .str x :: r => (strsD r).bind fun t => some (x :: t)
  | _ => none
theorem strsD_map : ∀ (ys : List Str), strsD (ys.map PyData.str) = some ys
  | [] => rfl
  | y :: ys => by
    show (strsD (ys.map PyData.str)).bind _ = _
    rw [strsD_map ys]
    rfl
theorem strsD_eq : ∀ {ds : List D} {ys : List Str}, strsD ds = some ys → ds = ys.map PyData.str
  | [], _, h => by
    cases h
    rfl
  | d :: ds, ys, h => by
    cases d with
    | str x =>
      obtain ⟨t, h1, h2⟩ := bnd (x := strsD ds) h
      cases h2
      rw [strsD_eq h1]
      rfl
    | _ => cases h
/-- is a sign in a text -/
def fInSg (d e : D) : Option Res := match d, e with
  | .str x, .str z => match x.cps.toList with
    | [n] => some (.d (.bool (decide (n ∈ z.cps.toList))))
    | _ => none
  | _, _ => none
theorem sem_insg : Sem2 K (fun x y H Q => ∃ (c : Nat) (z : Str), x = .str ⟨#[c]⟩ ∧ y = .str z ∧ Q (.bl (decide (c ∈ z.cps.toList))) H) fInSg := fun w x y d e res sb vx vy q Q k => by
  cases d with
  | str a =>
    cases e with
    | str z =>
      have q : (match a.cps.toList with | [n] => some (Res.d (.bool (decide (n ∈ z.cps.toList)))) | _ => none) = some res := q
      split at q
      · rename_i n hn
        cases q
        have ea : a = ⟨#[n]⟩ := by
          obtain ⟨l⟩ := a
          have hn : l.toList = [n] := hn
          have : l = #[n] := by rw [← Array.toArray_toList (xs := l), hn]
          rw [this]
        exact ⟨n, z, by rw [vd_str vx, ea], vd_str vy, k.val sb (.bl _)⟩
      · cases q
    | _ => cases q
  | _ => cases q
/-! ### a dict of the module -/
def KdOk (K : PySem.W.Frag) (w : World) (d : Addr) (kvs : List (Str × D)) : Prop := (∃ es n, KDict K w d es n) ∧ ∀ p ∈ kvs, ∃ v, KDct K w d p.1 v ∧ ∀ F, Dp K F v p.2
def fKdIn (kvs : List (Str × D)) : D → Option Res
  | .str z => if (kvs.lookup z).isSome = true then some (.d (.bool true)) else none
  | _ => none
def fKdAt (kvs : List (Str × D)) : D → Option Res
  | .str z => (kvs.lookup z).bind fun d => some (.d d)
  | _ => none
theorem lift_kdin {wd : World} {d : Addr} {kvs : List (Str × D)} {ma : M} {σ : St} {H : Hp} {Q : VK} (hk : KdOk K wd d kvs) (h : liftE c (mUn (fKdIn kvs) ma) σ H Q) :
    tOp (fun x y H Q => ∃ (z : Str) (r : Option Value), x = .str z ∧ y = .ref d ∧ PySem.W.nsIn K d z = some r ∧ Q (.bl r.isSome) H) (liftE c ma) (tC (.ref d)) σ H Q := by
  obtain ⟨w, s, rfl, R, o, s', e, k⟩ := h
  obtain ⟨⟨o1, s1⟩, e1, e⟩ := bnd e
  obtain ⟨x, e2, e⟩ := bnd e
  obtain ⟨res, e3, e⟩ := bnd e
  cases e
  refine ⟨w, s, rfl, R, o1, s1, e1, fun v1 w1 l1 R1 k1 q1 => ?_⟩
  cases x with
  | str z =>
    have e3 : (if (kvs.lookup z).isSome = true then some (Res.d (.bool true)) else none) = some res := e3
    split at e3
    · rename_i hz
      cases e3
      obtain ⟨y, hy⟩ := Option.isSome_iff_exists.mp hz
      obtain ⟨v, ⟨es, n, u, _, _, h1, _⟩, _⟩ := hk.2 (z, y) (PySem.mem_of_lookup hy)
      exact ⟨z, some u, vd_str (R1.view q1 e2), rfl, h1, k _ w1 l1 R1 k1 (.bl _)⟩
    · cases e3
  | _ => cases e3
theorem lift_kdat {wd : World} {d : Addr} {kvs : List (Str × D)} {ma : M} {σ : St} {H : Hp} {Q : VK} (hk : KdOk K wd d kvs) (h : liftE c (mUn (fKdAt kvs) ma) σ H Q) :
    tOp (rIxD K wd) (tC (.ref d)) (liftE c ma) σ H Q := by
  obtain ⟨w, s, rfl, R, o, s', e, k⟩ := h
  obtain ⟨⟨o1, s1⟩, e1, e⟩ := bnd e
  obtain ⟨x, e2, e⟩ := bnd e
  obtain ⟨res, e3, e⟩ := bnd e
  cases e
  refine ⟨w, s, rfl, R, o1, s1, e1, fun v1 w1 l1 R1 k1 q1 => ?_⟩
  cases x with
  | str z =>
    obtain ⟨y, hy, e3⟩ := bnd (x := kvs.lookup z) e3
    cases e3
    obtain ⟨v, h1, h2⟩ := hk.2 (z, y) (PySem.mem_of_lookup hy)
    exact ⟨d, z, v, rfl, vd_str (R1.view q1 e2), h1, k v w1 l1 R1 k1 (h2 _)⟩
  | _ => cases e3
/-! ### stars -/
def mAStar (m : M) (ma : MA) : MA := fun s => (mFz m s).bind fun p => (cD p.2 p.1).bind fun d => (seqD d).bind fun ds => (ma p.2).bind fun q => some (ds.map Op.v ++ q.1, q.2)
theorem paired_app {α β : Type} {F : α → β → Prop} : ∀ {a a' : List α} {b b' : List β}, Paired F a b → Paired F a' b' → Paired F (a ++ a') (b ++ b')
  | _, _, _, _, .nil, g => g
  | _, _, _, _, .cons h t, g => .cons h (paired_app t g)
theorem ops_of {B : Hp} {w : W} {σ : St} : ∀ {xs : List V} {ds : List D}, DpAll K w.F xs ds → RepOs c B w σ (ds.map Op.v) xs
  | _, [], h => by
    cases h
    exact .nil
  | _, d :: ds, h => by
    cases h with
    | cons h1 h2 => exact .cons h1 (ops_of h2)
theorem lift_star {m : M} {ma : MA} {σ : St} {H : Hp} {Q : List V → Hp → Prop} (h : liftA c (mAStar m ma) σ H Q) : StX.tStar K (liftE c (mFz m)) (liftA c ma) σ H Q := by
  obtain ⟨w, s, rfl, R, os, s', e, k⟩ := h
  obtain ⟨⟨o1, s1⟩, e1, e⟩ := bnd e
  obtain ⟨d, e2, e⟩ := bnd e
  obtain ⟨ds, e3, e⟩ := bnd e
  obtain ⟨⟨os2, s2⟩, e4, e⟩ := bnd e
  cases e
  obtain ⟨d1, rfl⟩ := mfz_v e1
  cases e2
  refine ⟨w, s, rfl, R, _, s1, e1, fun v w1 l1 R1 k1 q1 => ?_⟩
  have fin : ∀ (p : Addr) (xs : List V), (SqT K w1.H p xs ∨ SqL K w1.H p xs) → DpAll K w1.F xs ds → v = .ref p → ∃ p xs, v = V.ref p ∧ (SqT K w1.H p xs ∨ SqL K w1.H p xs) ∧ liftA c ma σ w1.H fun ys H2 => Q (xs ++ ys) H2 := fun p xs hx hd ev =>
    ⟨p, xs, ev, hx, w1, s1, rfl, R1, os2, s2, e4, fun ys w2 l2 R2 k2 q2 => k _ w2 (l1.trans l2) R2 (k1.trans k2) (paired_app (ops_of (dpAll_mono l2.f _ _ hd)) (q2.back l1))⟩
  cases d with
  | list es =>
    cases e3
    have q1 : Dp K w1.F v (.list ds) := q1
    cases q1 with
    | lst h1 h2 => exact fin _ _ (.inr (sqL_mono R1.sub h1)) h2 rfl
  | tuple es =>
    cases e3
    have q1 : Dp K w1.F v (.tuple ds) := q1
    cases q1 with
    | tup h1 h2 => exact fin _ _ (.inl (sqT_mono R1.sub h1)) h2 rfl
  | _ => cases e3
/-! ### str, int of a text, a text times n, join, split, count, index -/
def fStr : D → Option Res
  | .int i => if i.natAbs.log2 < 1920 then some (.d (.str (toString i))) else none
  | .str x => some (.d (.str x))
  | _ => none
theorem sem_str : SemC K (fun xs H Q => (∃ i, xs = [.int i] ∧ i.natAbs.log2 < 1920 ∧ Q (.str (toString i)) H) ∨ ∃ a, xs = [.str a] ∧ Q (.str a) H) (f1 fStr) := sem_1 fun w x d res sb vx q Q k => by
  cases d with
  | int i =>
    have q : (if i.natAbs.log2 < 1920 then some (Res.d (.str (toString i))) else none) = some res := q
    split at q
    · rename_i hz
      cases q
      exact .inl ⟨i, by rw [vd_int vx], hz, k.val sb (.str _)⟩
    · cases q
  | str a =>
    cases q
    exact .inr ⟨a, by rw [vd_str vx], k.val sb (.str _)⟩
  | _ => cases q
def fIntT : D → Option Res
  | .str x => if x.length ≤ 640 then (PySem.intText? x).bind fun n => some (.d (.int n)) else none
  | _ => none
theorem sem_intT : SemC K (fun xs H Q => ∃ a n, xs = [.str a] ∧ PySem.intText? a = some n ∧ a.length ≤ 640 ∧ Q (.int n) H) (f1 fIntT) := sem_1 fun w x d res sb vx q Q k => by
  cases d with
  | str a =>
    have q : (if a.length ≤ 640 then (PySem.intText? a).bind fun n => some (Res.d (.int n)) else none) = some res := q
    split at q
    · rename_i hz
      obtain ⟨n, h1, q⟩ := bnd q
      cases q
      exact ⟨a, n, by rw [vd_str vx], h1, hz, k.val sb (.int _)⟩
    · cases q
  | _ => cases q
def timesT (x : Str) (n : Nat) : Str := ⟨(List.replicate n x.cps).foldl (· ++ ·) #[]⟩
theorem times_size (xs : Array Nat) : ∀ (n : Nat) (acc : Array Nat), ((List.replicate n xs).foldl (· ++ ·) acc).size = acc.size + n * xs.size
  | 0, acc => by simp
  | n + 1, acc => by
    rw [List.replicate_succ, List.foldl_cons, times_size xs n, Array.size_append, Nat.succ_mul]
    omega
def fMulS (d e : D) : Option Res := match d, e with
  | .str x, .int n => if 2 ≤ n ∧ n ≤ 1000 ∧ 1 ≤ x.length ∧ x.length ≤ 100 then some (.d (.str (timesT x n.toNat))) else if 0 ≤ n ∧ n ≤ 1 then some (.d (.str (if n = 1 then x else Str.empty))) else none
  | _, _ => none
def rMulS : R2 := fun x y H Q => ∃ (a : Str) (n : Int), x = .str a ∧ y = .int n ∧ ((2 ≤ n ∧ n ≤ 1000 ∧ 1 ≤ a.length ∧ a.length ≤ 100 ∧ Q (.str (timesT a n.toNat)) H) ∨ (0 ≤ n ∧ n ≤ 1 ∧ Q (.str (if n = 1 then a else Str.empty)) H))
theorem op_mulS {X : Cx} : OpR X (binaryOp .Mult) rMulS := by
  intro pins s σ H x y v u Q I rx ry h
  obtain ⟨a, n, rfl, rfl, h⟩ := h
  obtain ⟨t, rfl⟩ := rx
  obtain ⟨t', rfl⟩ := ry
  have hr : (decide (n < -(2 ^ 63 : Int)) || decide (n ≥ 2 ^ 63)) = false := by
    have h1 : ¬ n < -(2 ^ 63 : Int) := by rcases h with ⟨h, h', _⟩ | ⟨h, h', _⟩ <;> omega
    have h2 : ¬ n ≥ 2 ^ 63 := by rcases h with ⟨h, h', _⟩ | ⟨h, h', _⟩ <;> omega
    rw [decide_eq_false h1, decide_eq_false h2]
    rfl
  rcases h with ⟨h1, h2, h3, h4, q⟩ | ⟨h1, h2, q⟩
  · have hn : ¬ n < 1 := by omega
    have hk : (n == 1 || a.length == 0) = false := by
      have e1 : (n == 1) = false := beq_eq_false_iff_ne.mpr (by omega)
      have e2 : (a.length == 0) = false := beq_eq_false_iff_ne.mpr (by omega)
      rw [e1, e2]
      rfl
    have hlen : a.length * n.toNat ≤ 100 * 1000 := Nat.mul_le_mul h4 (by omega)
    refine PySem.P.mul_str hr (fun _ _ => ?_) (fun _ _ => ?_) ?_
    · have : (100 : Int) ≤ (2 ^ 63 - 1) / n := by
        refine Int.le_ediv_of_mul_le (by omega) ?_
        have : (100 : Int) * n ≤ 100 * 1000 := Int.mul_le_mul_of_nonneg_left h2 (by decide)
        omega
      omega
    · unfold Builtin.Str.tooLong
      exact decide_eq_false (by have := Evl.sz_of (n := 100 * 1000) (by decide); omega)
    · rw [if_neg hn, hk]
      exact ⟨by
        show (timesT a n.toNat).length ≤ sizeLine
        have e1 : (timesT a n.toNat).length = n.toNat * a.length := by
          show ((List.replicate n.toNat a.cps).foldl (· ++ ·) #[]).size = _
          rw [times_size]
          simp
          rfl
        rw [e1, Nat.mul_comm]
        exact Evl.sz_of (by omega), ⟨.str _, H, I.tok _, ⟨_, rfl⟩, q⟩⟩
  · by_cases hn : n = 1
    · subst hn
      refine PySem.P.mul_str hr (fun _ z => by simp at z) (fun _ z => by simp at z) ?_
      rw [if_neg (by decide), if_pos (by rfl)]
      exact ⟨.str _, H, I, ⟨t, rfl⟩, q⟩
    · obtain rfl : n = 0 := by omega
      refine PySem.P.mul_str_none (by decide) (by decide) ?_
      exact ⟨.str _, H, I.tok _, ⟨_, rfl⟩, q⟩
end
end Sh
-- Sh17.lean
set_option Elab.async false
set_option linter.all false
set_option maxRecDepth 100000
set_option maxHeartbeats 1000000
/-! Sh17: methods of texts and lists, len(set(..)), comprehensions with two fors. -/
namespace Sh
open PySem L2
section
variable {K : PySem.W.Frag} {c : Cfg K}
/-! ### a method of one argument -/
def isS : D → Bool
  | .str _ => true
  | _ => false
def isLst : D → Bool
  | .list _ => true
  | _ => false
def mM1 (p : D → Bool) (f : D → D → Option Res) (mo me : M) : M := fun s => (mo s).bind fun a => (cD a.2 a.1).bind fun d0 => if p d0 = true then (me a.2).bind fun b => (cD b.2 a.1).bind fun d => (cD b.2 b.1).bind fun e => (f d e).bind fun r => some (r.op, b.2) else none
theorem m1_get {p : D → Bool} {f : D → D → Option Res} {mo me : M} {s s' : List Slot} {o : Op} (h : mM1 p f mo me s = some (o, s')) :
    ∃ o1 s1 d0 o2 s2 d e r, mo s = some (o1, s1) ∧ cD s1 o1 = some d0 ∧ p d0 = true ∧ me s1 = some (o2, s2) ∧ cD s2 o1 = some d ∧ cD s2 o2 = some e ∧ f d e = some r ∧ o = r.op ∧ s' = s2 := by
  obtain ⟨⟨o1, s1⟩, e1, h⟩ := bnd (x := mo s) h
  obtain ⟨d0, e2, h⟩ := bnd h
  have h : (if p d0 = true then (me s1).bind fun b => (cD b.2 o1).bind fun d => (cD b.2 b.1).bind fun e => (f d e).bind fun r => some (r.op, b.2) else none) = some (o, s') := h
  split at h
  · rename_i hp
    obtain ⟨⟨o2, s2⟩, e3, h⟩ := bnd h
    obtain ⟨d, e4, h⟩ := bnd h
    obtain ⟨e, e5, h⟩ := bnd h
    obtain ⟨r, e6, h⟩ := bnd h
    cases h
    exact ⟨o1, s1, d0, o2, s2, d, e, r, e1, e2, hp, e3, e4, e5, e6, rfl, rfl⟩
  · cases h
theorem lift_m1 {r : V → List V → Hp → VK → Prop} {f : D → D → Option Res} {mo me : M} {σ : St} {H : Hp} {Q : VK} (hs : Sem2 K (fun x y H Q => r x [y] H Q) f) (h : liftE c (mM1 isS f mo me) σ H Q) : tM1 r (liftE c mo) (liftE c me) σ H Q := by
  obtain ⟨w, s, rfl, R, o, s', e, k⟩ := h
  obtain ⟨o1, s1, d0, o2, s2, d, e', res, e1, e2, hp, e3, e4, e5, e6, rfl, rfl⟩ := m1_get e
  refine ⟨w, s, rfl, R, o1, s1, e1, fun v1 w1 l1 R1 k1 q1 => ⟨?_, ?_⟩⟩
  · cases d0 with
    | str a => exact ⟨a, vd_str (R1.view q1 e2)⟩
    | _ => cases hp
  · refine ⟨w1, s1, rfl, R1, o2, s', e3, fun v2 w2 l2 R2 k2 q2 => ?_⟩
    exact hs w2 v1 v2 d e' res R2.sub (R2.view (q1.go l2) e4) (R2.view q2 e5) e6 _ (Fin.go R2 fun v w' l R' q => k v w' ((l1.trans l2).trans l) R' (k1.trans k2) (q.back (l1.trans l2)))
theorem lift_bm1 {r : V → List V → Hp → VK → Prop} {f : D → D → Option Res} {mo me : M} {σ : St} {H : Hp} {Q : VK} (hs : Sem2 K (fun x y H Q => r x [y] H Q) f) (h : liftE c (mM1 isLst f mo me) σ H Q) : tBM K "list" r (liftE c mo) (tCons (liftE c me) tNil) σ H Q := by
  obtain ⟨w, s, rfl, R, o, s', e, k⟩ := h
  obtain ⟨o1, s1, d0, o2, s2, d, e', res, e1, e2, hp, e3, e4, e5, e6, rfl, rfl⟩ := m1_get e
  refine ⟨w, s, rfl, R, o1, s1, e1, fun v1 w1 l1 R1 k1 q1 => ⟨?_, ?_⟩⟩
  · cases d0 with
    | list ds =>
      obtain ⟨a, xs, rfl, h1, _⟩ := vd_list' (R1.view q1 e2)
      exact .inl ⟨rfl, xs, h1⟩
    | _ => cases hp
  · refine ⟨w1, s1, rfl, R1, o2, s', e3, fun v2 w2 l2 R2 k2 q2 => ?_⟩
    exact hs w2 v1 v2 d e' res R2.sub (R2.view (q1.go l2) e4) (R2.view q2 e5) e6 _ (Fin.go R2 fun v w' l R' q => k v w' ((l1.trans l2).trans l) R' (k1.trans k2) (q.back (l1.trans l2)))
/-! ### join, split -/
def fJoin (d e : D) : Option Res := match d with
  | .str a => (seqD e).bind fun ds => (strsD ds).bind fun ys => if (ys.map (·.length)).sum + ys.length * a.length ≤ 100000 then some (.d (.str (Txt.join a ys))) else none
  | _ => none
theorem sem_join : Sem2 K (fun x y H Q => (fun x xs H Q => ∃ a p, ∃ ys : List Str, x = .str a ∧ xs = [.ref p] ∧ (SqL K H p (ys.map V.str) ∨ SqT K H p (ys.map V.str)) ∧ (ys.map (·.length)).sum + ys.length * a.length ≤ 16777216 ∧ Q (.str (Txt.join a ys)) H) x [y] H Q) fJoin := fun w x y d e res sb vx vy q Q k => by
  cases d with
  | str a =>
    obtain ⟨ds, h1, q⟩ := bnd (x := seqD e) q
    obtain ⟨ys, h2, q⟩ := bnd q
    split at q
    · rename_i hz
      cases q
      obtain rfl := strsD_eq h2
      cases e with
      | list es =>
        cases h1
        obtain ⟨p, xs, rfl, h3, h4⟩ := vd_list' vy
        obtain rfl := strs_dp h4
        exact ⟨a, p, ys, vd_str vx, rfl, .inl h3, by omega, k.val sb (.str _)⟩
      | tuple es =>
        cases h1
        obtain ⟨p, xs, rfl, h3, h4⟩ := vd_tup vy
        obtain rfl := strs_dp h4
        exact ⟨a, p, ys, vd_str vx, rfl, .inr (sqT_mono sb h3), by omega, k.val sb (.str _)⟩
      | _ => cases h1
    · cases q
  | _ => cases q
def fSplit (d e : D) : Option Res := match d, e with
  | .str a, .str b => if (b.length == 0) = false ∧ a.length + 2 ≤ 100000 then some (.nl ((Txt.split a b).map PyData.str)) else none
  | _, _ => none
theorem sem_split : Sem2 K (fun x y H Q => (fun x xs H Q => ∃ a b, x = .str a ∧ xs = [.str b] ∧ (b.length == 0) = false ∧ a.length + 2 ≤ sizeLine ∧ rNewStrs (Txt.split a b) H Q) x [y] H Q) fSplit := fun w x y d e res sb vx vy q Q k => by
  cases d with
  | str a =>
    cases e with
    | str b =>
      have q : (if (b.length == 0) = false ∧ a.length + 2 ≤ 100000 then some (Res.nl ((Txt.split a b).map PyData.str)) else none) = some res := q
      split at q
      · rename_i hz
        cases q
        exact ⟨a, b, vd_str vx, by rw [vd_str vy], hz.1, Evl.sz_of hz.2, fun p hp => k.lst sb (dp_strs _) hp⟩
      · cases q
    | _ => cases q
  | _ => cases q
/-! ### count, index of texts in a list -/
def rCntS (K : PySem.W.Frag) : V → List V → Hp → VK → Prop := fun x xs H Q => ∃ (p : Addr) (ys : List Str) (z : Str), x = .ref p ∧ xs = [.str z] ∧ SqL K H p (ys.map V.str) ∧ Q (.int (ys.count z : Nat)) H
theorem count_eqU {z : Str} : ∀ {ys : List Str} {us : List Value}, Vals (ys.map V.str) us → us.countP (eqU (.str z)) = ys.count z
  | [], _, .nil => rfl
  | y :: ys, _, .cons r t => by
    obtain ⟨k, rfl⟩ := r
    rw [List.countP_cons, List.count_cons, count_eqU t]
    rfl
theorem mt_lcountS {X : Cx} : MtR X "list.count" (rCntS X.K) := by
  intro pins s σ H x xs v us Q I rx rxs h
  obtain ⟨p, ys, z, rfl, rfl, hs, q⟩ := h
  cases rx
  obtain ⟨u, rfl, ru⟩ := rxs.one
  obtain ⟨t, rfl⟩ := ru
  obtain ⟨its, rv, ⟨⟨cls, dd, data, sl⟩, n, ho, hc, hdn, hd⟩, hlen⟩ := I.list hs
  simp only at hc hd
  subst hc hd
  refine call_meets PySem.F.slot_list_count ⟨_, ho, rfl⟩ PySem.F.entry_list_count (PySem.F.args_list_count_2 _ _)
    (SeqAt.list_countAt p its.toArray n dd sl (.str z t) (eqU (.str z))) ⟨ho, fun w hw => mem_eqAt (x := .str z) ⟨t, rfl⟩ rfl rv (flat_strs ys) w (by simpa using hw), ?_⟩
  have ec : its.toArray.toList.countP (eqU (.str z)) = ys.count z := count_eqU rv
  refine ⟨.int (ys.count z : Nat), H, I.tok _, ⟨s.toks, ?_⟩, q⟩
  show Value.int ((its.toArray.toList.countP (eqU (.str z)) : Nat) : Int) s.toks = Value.int ((ys.count z : Nat) : Int) s.toks
  rw [ec]
def fCntS (d e : D) : Option Res := match d, e with
  | .list ds, .str z => (strsD ds).bind fun ys => some (.d (.int (ys.count z : Nat)))
  | _, _ => none
theorem sem_cntS : Sem2 K (fun x y H Q => rCntS K x [y] H Q) fCntS := fun w x y d e res sb vx vy q Q k => by
  cases d with
  | list ds =>
    cases e with
    | str z =>
      obtain ⟨ys, h1, q⟩ := bnd (x := strsD ds) q
      cases q
      obtain rfl := strsD_eq h1
      obtain ⟨p, xs, rfl, h3, h4⟩ := vd_list' vx
      obtain rfl := strs_dp h4
      exact ⟨p, ys, z, rfl, by rw [vd_str vy], h3, k.val sb (.int _)⟩
    | _ => cases q
  | _ => cases q
def fIdxS (d e : D) : Option Res := match d, e with
  | .list ds, .str z => (strsD ds).bind fun ys => (ys.findIdx? (· == z)).bind fun j => some (.d (.int (j : Nat)))
  | _, _ => none
theorem sem_idxS : Sem2 K (fun x y H Q => rIndex K x [y] H Q) fIdxS := fun w x y d e res sb vx vy q Q k => by
  cases d with
  | list ds =>
    cases e with
    | str z =>
      obtain ⟨ys, h1, q⟩ := bnd (x := strsD ds) q
      obtain ⟨j, h2, q⟩ := bnd q
      cases q
      obtain rfl := strsD_eq h1
      obtain ⟨p, xs, rfl, h3, h4⟩ := vd_list' vx
      obtain rfl := strs_dp h4
      obtain ⟨hj, hjz, hno⟩ := List.findIdx?_eq_some_iff_getElem.mp h2
      have ez : ys[j] = z := beq_iff_eq.mp hjz
      refine ⟨p, ys.map V.str, .str z, j, .str z, rfl, by rw [vd_str vy], h3, rfl, flat_strs ys, ?_, ?_, fun m z' hm hz' => ?_, k.val sb (.int _)⟩
      · rw [List.getElem?_map, List.getElem?_eq_getElem hj, ez] <;> rfl
      · show (z == z) = true
        exact beq_self_eq_true z
      · have hml : m < ys.length := by omega
        rw [List.getElem?_map, List.getElem?_eq_getElem hml] at hz'
        cases hz'
        have := hno m hm
        show (ys[m] == z) = false
        simpa using this
    | _ => cases q
  | _ => cases q
/-! ### len(set(texts)) -/
def mLenT (m : M) : M := fun s => (mFz m s).bind fun p => (cD p.2 p.1).bind fun d => match d with
  | .list ds => (strsD ds).bind fun ys => if ys.length ≤ 1000 then some (.v (.int ((Sst.ddT ys).length : Nat)), p.2) else none
  | _ => none
theorem lift_lenT {m : M} {σ : St} {H : Hp} {Q : VK} (h : liftE c (mLenT m) σ H Q) : Sst.tLenT K (liftE c (mFz m)) σ H Q := by
  obtain ⟨w, s, rfl, R, o, s', e, k⟩ := h
  obtain ⟨⟨o1, s1⟩, e1, e⟩ := bnd e
  obtain ⟨d, e2, e⟩ := bnd e
  cases d with
  | list ds =>
    obtain ⟨ys, e3, e⟩ := bnd (x := strsD ds) e
    split at e
    · rename_i hz
      cases e
      obtain rfl := strsD_eq e3
      refine ⟨w, s, rfl, R, o1, s1, e1, fun v w1 l1 R1 k1 q1 => ?_⟩
      obtain ⟨p, xs, rfl, h3, h4⟩ := vd_list' (R1.view q1 e2)
      obtain rfl := strs_dp h4
      exact ⟨p, ys, rfl, h3, hz, k _ w1 l1 R1 k1 (.int _)⟩
    · cases e
  | _ => cases e
/-! ### two fors -/
def loopC2 (t : Tgt) (mt : MT) (m1 : M) (t1 : Tgt) (mt1 : MT) (me : M) (vs vs1 : List Nat) : List D → List Slot → Option (List D × List Slot)
  | [], s => some ([], s)
  | d :: r, s => (t d s).bind fun s1 => (mt s1).bind fun p => if p.1 = true then (mFz m1 p.2).bind fun q => (cD q.2 q.1).bind fun x => (seqD x).bind fun ds1 => (unw vs1 q.2).bind fun s2 => (loopC t1 mt1 me vs1 ds1 s2).bind fun z1 => (unw vs z1.2).bind fun s4 => (loopC2 t mt m1 t1 mt1 me vs vs1 r s4).bind fun z => some (z1.1 ++ z.1, z.2)
    else (unw vs p.2).bind fun s4 => loopC2 t mt m1 t1 mt1 me vs vs1 r s4
def mLc2 (ml : M) (t : Tgt) (mt : MT) (m1 : M) (t1 : Tgt) (mt1 : MT) (me : M) (vs vs1 : List Nat) : M := fun s => (mFz ml s).bind fun p => (cD p.2 p.1).bind fun d => (seqD d).bind fun ds => (unw vs p.2).bind fun s2 => (loopC2 t mt m1 t1 mt1 me vs vs1 ds s2).bind fun z => endC vs p.2 z
theorem wipe_wipe {σ : St} {vs vs1 : List Nat} (hv : ∀ i ∈ vs1, i ∈ vs) : L2.wipe (L2.wipe σ vs1) vs = L2.wipe σ vs := by
  apply List.ext_getElem?
  intro j
  rw [wipe_get, wipe_get, wipe_get]
  by_cases hj : j ∈ vs
  · rw [if_pos hj, if_pos hj]
    by_cases h1 : j ∈ vs1
    · rw [if_pos h1]
      cases σ[j]? <;> rfl
    · rw [if_neg h1]
  · rw [if_neg hj, if_neg hj, if_neg fun z => hj (hv j z)]
theorem wipe_tg {σ σ2 : St} {vs ts : List Nat} (hl : σ2.length = (L2.wipe σ vs).length) (hts : ∀ i ∈ ts, i ∈ vs) (hs : ∀ i, i ∉ ts → σ2[i]? = (L2.wipe σ vs)[i]?) : L2.wipe σ2 vs = L2.wipe σ vs := by
  apply List.ext_getElem?
  intro j
  rw [wipe_get, wipe_get]
  by_cases hj : j ∈ vs
  · rw [if_pos hj, if_pos hj]
    rw [wipe_length] at hl
    by_cases hjl : j < σ.length
    · rw [List.getElem?_eq_getElem hjl, List.getElem?_eq_getElem (by omega)]
      rfl
    · rw [List.getElem?_eq_none (by omega), List.getElem?_eq_none (by omega)]
  · rw [if_neg hj, if_neg hj, hs j (fun q => hj (hts j q)), wipe_get, if_neg hj]
/-- the list that grows, as a turn leaves it -/
structure Grows (K : PySem.W.Frag) (w : W) (D' : Addr) (acc : List V) (das : List D) : Prop where
  at_ : w.H D' = some (.lst acc)
  dp : DpAll K w.F acc das
  nf : w.F D' = none
  no : w.no D'
theorem Grows.le {w w' : W} {D' : Addr} {acc : List V} {das : List D} (g : Grows K w D' acc das) (l : Le w w') : Grows K w' D' acc das := by
  obtain ⟨q1, q2⟩ := l.h D' _ g.at_ g.no
  exact ⟨q1, dpAll_mono l.f _ _ g.dp, q2.trans g.nf, l.np g.at_ g.no⟩
/-- what is fixed stays, whatever else happens -/
theorem le_fix {w w5 : W} {σ : St} {s : List Slot} (R : Rel c w5 σ s) (f : Sub w.F w5.F) : Le ⟨w.F, w.F, fun _ => [], w5.T⟩ w5 :=
  ⟨f, fun a o h _ => ⟨R.sub a o (f a o h), (f a o h).trans h.symm⟩, fun i a h => .inr (by
    show w.F a = none
    cases q : w.F a with
    | none => rfl
    | some o =>
      have := (R.out i a h).1
      rw [f a o q] at this
      cases this), fun a o h => ⟨o, R.sub a o (f a o h)⟩, ⟨rfl, fun a ha h => by
    obtain ⟨ps, h1, h2⟩ := h
    exact ⟨⟨ps, R.sub a _ (f a _ h1), h2⟩, (f a _ h1).trans h1.symm⟩⟩⟩
theorem lift_lc2 {g g1 : TG} {t t1 : Tgt} {ts ts1 vs vs1 : List Nat} {mt mt1 : MT} {m1 me : M} {J : It} {ds : List D} {w : W} {σ : St} {s s2 : List Slot} {z : List D × List Slot} {Q : VK} (hv : ∀ i ∈ vs1, i ∈ vs) (hg : TgtC c g t ts) (hts : ∀ i ∈ ts, i ∈ vs) (hg1 : TgtC c g1 t1 ts1) (hts1 : ∀ i ∈ ts1, i ∈ vs1)
    (hw : Walks (K := K) J ds w) (R : Rel c w σ s) (hu : unw vs s = some s2)
    (e : loopC2 t mt m1 t1 mt1 me vs vs1 ds s2 = some z) (hz : z.1.length ≤ 100000) (k : ∀ v w', Le w w' → Rel c w' σ (rst vs s z.2) → Keep s (rst vs s z.2) → RepO c w.H w' σ (.nw (.lst z.1)) v → Q v w'.H) (D' : Addr) (hD : w.H D' = none) :
    ∃ W : Nat → Nat → Hp → Prop, (∃ m, W 0 m (upd w.H D' (.lst []))) ∧ ∀ i m H, W i m H →
      (J.stop i H ∧ Q (.ref D') H) ∨ (J.go i H ∧ ∃ Nx : Hp → Prop, (∀ H', Nx H' → ∃ m', m' < m ∧ W (i + 1) m' H') ∧ ∀ x H', J.yld i H x H' → g x (L2.wipe σ vs) H' fun σ2 H2 => L2.wipe σ2 vs = L2.wipe σ vs ∧ liftT c mt σ2 H2 fun b H3 =>
        if b = true then iSeq K (liftE c (mFz m1)) σ2 H3 fun J1 H4 => ∃ W1 : Nat → Nat → Hp → Prop, (∃ m, W1 0 m H4) ∧ ∀ j k H, W1 j k H →
          (J1.stop j H ∧ Nx H) ∨ (J1.go j H ∧ ∃ Nx1 : Hp → Prop, (∀ H', Nx1 H' → ∃ k', k' < k ∧ W1 (j + 1) k' H') ∧ ∀ x H', J1.yld j H x H' → g1 x (L2.wipe σ2 vs1) H' fun σ3 H5 => L2.wipe σ3 vs1 = L2.wipe σ2 vs1 ∧ liftT c mt1 σ3 H5 fun b H6 =>
            if b = true then liftE c (mFz me) σ3 H6 fun y H7 => ∃ acc, H7 D' = some (.lst acc) ∧ acc.length < sizeLine ∧ Nx1 (upd H7 D' (.lst (acc ++ [y]))) else Nx1 H6)
        else Nx H3) := by
  have hn := (unw_get hu).1
  let In : Nat → Hp → Prop := fun i H => ∃ w' s' das acc z', w'.H = H ∧ Le w w' ∧ Rel c w' (L2.wipe σ vs) s' ∧ Keep s s' ∧ Grows K w' D' acc das ∧ loopC2 t mt m1 t1 mt1 me vs vs1 (ds.drop i) s' = some z' ∧ das ++ z'.1 = z.1 ∧ z'.2 = z.2
  refine ⟨fun i m H => m = ds.length - i ∧ i ≤ ds.length ∧ In i H, ⟨ds.length, by simp, Nat.zero_le _, ?_⟩, ?_⟩
  · have gl := gr_lay (x := .lst []) R.sub hD
    exact ⟨_, s2, [], [], z, rfl, gl.le, (R.wipe hu).grow gl, keep_unw hu, ⟨upd_same, .nil, none_of_sub R.sub hD, R.no_of hD⟩, e, rfl, rfl⟩
  · rintro i m H ⟨rfl, hi, w', s', das, acc, z', rfl, l', R', k', G, e', ez, ez2⟩
    obtain ⟨hgo, hstop⟩ := hw w' l' R'.sub
    by_cases hlt : i < ds.length
    · refine .inr ?_
      obtain ⟨h1, h2⟩ := hgo i _ (List.getElem?_eq_getElem hlt)
      rw [List.drop_eq_getElem_cons hlt] at e'
      obtain ⟨s1, e1, e2⟩ := bnd (x := t ds[i] s') e'
      obtain ⟨⟨b, s3⟩, e3, e4⟩ := bnd e2
      refine ⟨h1, In (i + 1), fun H' q => ⟨ds.length - (i + 1), by omega, rfl, hlt, q⟩, fun x H'' hy => ?_⟩
      obtain ⟨w1, rfl, g1', dx⟩ := h2 x H'' hy
      have R1 := R'.grow g1'
      have l1 : Le w w1 := l'.trans g1'.le
      have G1 := G.le g1'.le
      refine hg w1 w1 _ s' s1 x ds[i] (Le.refl w1) R1 dx e1 _ fun σ2 w2 hh l2 R2 k2 hl2 hs2 => ?_
      have hwp : L2.wipe σ2 vs = L2.wipe σ vs := wipe_tg hl2 hts hs2
      have kk2 : Keep s' s1 := fun j kc q => (k2 j kc q).2
      refine ⟨hwp, w2, s1, rfl, R2, b, s3, e3, fun w3 l3 R3 k3 => ?_⟩
      cases b with
      | false =>
        obtain ⟨s5, e9, e10⟩ := bnd (x := unw vs s3) e4
        have l13 : Le w1 w3 := l2.trans l3
        have Rw := R3.wipe e9
        rw [hwp] at Rw
        rw [if_neg Bool.false_ne_true]
        exact ⟨w3, s5, das, acc, z', rfl, l1.trans l13, Rw, k'.trans (kk2.trans (k3.trans (keep_unw e9))), G1.le l13, e10, ez, ez2⟩
      | true =>
        rw [if_pos rfl]
        obtain ⟨⟨o4, s4⟩, e5, e6⟩ := bnd (x := mFz m1 s3) e4
        obtain ⟨y, e7, e8⟩ := bnd e6
        obtain ⟨ds1, e9, e10⟩ := bnd e8
        obtain ⟨s5, e11, e12⟩ := bnd e10
        obtain ⟨z1, e13, e14⟩ := bnd e12
        obtain ⟨s6, e15, e16⟩ := bnd e14
        obtain ⟨z2, e17, e18⟩ := bnd e16
        have e18 := Option.some.inj e18
        subst e18
        obtain ⟨d4, rfl⟩ := mfz_v e5
        cases e7
        have inner : ∀ (J1 : It) (w4 : W), Le w3 w4 → Rel c w4 σ2 s4 → Keep s3 s4 → (∀ T, Walks (K := K) J1 ds1 ⟨w4.F, w4.F, fun _ => [], T⟩) → ∃ W1 : Nat → Nat → Hp → Prop, (∃ m, W1 0 m w4.H) ∧ ∀ j k H, W1 j k H →
            (J1.stop j H ∧ In (i + 1) H) ∨ (J1.go j H ∧ ∃ Nx1 : Hp → Prop, (∀ H', Nx1 H' → ∃ k', k' < k ∧ W1 (j + 1) k' H') ∧ ∀ x H', J1.yld j H x H' → g1 x (L2.wipe σ2 vs1) H' fun σ3 H5 => L2.wipe σ3 vs1 = L2.wipe σ2 vs1 ∧ liftT c mt1 σ3 H5 fun b H6 =>
              if b = true then liftE c (mFz me) σ3 H6 fun y H7 => ∃ acc, H7 D' = some (.lst acc) ∧ acc.length < sizeLine ∧ Nx1 (upd H7 D' (.lst (acc ++ [y]))) else Nx1 H6) := by
          intro J1 w4 l4 R4 k4 hw1
          have l04 : Le w w4 := l1.trans ((l2.trans l3).trans l4)
          let In1 : Nat → Hp → Prop := fun j H => ∃ w' s' das' acc' zi, w'.H = H ∧ (Le w w' ∧ Sub w4.F w'.F) ∧ Rel c w' (L2.wipe σ2 vs1) s' ∧ Keep s4 s' ∧ Grows K w' D' acc' das' ∧ loopC t1 mt1 me vs1 (ds1.drop j) s' = some zi ∧ das' ++ zi.1 = das ++ z1.1 ∧ zi.2 = z1.2
          refine ⟨fun j m H => m = ds1.length - j ∧ j ≤ ds1.length ∧ In1 j H, ⟨ds1.length, by simp, Nat.zero_le _, w4, s5, das, acc, z1, rfl, ⟨l04, fun _ _ h => h⟩, R4.wipe e11, keep_unw e11, G1.le ((l2.trans l3).trans l4), e13, rfl, rfl⟩, ?_⟩
          rintro j m1' H ⟨rfl, hj, w5, s7, das5, acc5, zi, rfl, l5, R5, k5, G5, ei, ez5, ez6⟩
          obtain ⟨l5, f5'⟩ := l5
          obtain ⟨hgo1, hstop1⟩ := hw1 w5.T w5 (le_fix R5 f5') R5.sub
          by_cases hlt1 : j < ds1.length
          · refine .inr ?_
            obtain ⟨h1', h2'⟩ := hgo1 j _ (List.getElem?_eq_getElem hlt1)
            rw [List.drop_eq_getElem_cons hlt1] at ei
            obtain ⟨s8, f1, f2⟩ := bnd (x := t1 ds1[j] s7) ei
            obtain ⟨⟨b1, s9⟩, f3, f4⟩ := bnd f2
            refine ⟨h1', In1 (j + 1), fun H' q => ⟨ds1.length - (j + 1), by omega, rfl, hlt1, q⟩, fun x1 H8 hy1 => ?_⟩
            obtain ⟨w6, rfl, g6, dx1⟩ := h2' x1 H8 hy1
            have R6 := R5.grow g6
            refine hg1 w6 w6 _ s7 s8 x1 ds1[j] (Le.refl w6) R6 dx1 f1 _ fun σ3 w7 hh7 l7 R7 k7 hl7 hs7 => ?_
            have hwp1 : L2.wipe σ3 vs1 = L2.wipe σ2 vs1 := wipe_tg hl7 hts1 hs7
            have kk7 : Keep s7 s8 := fun j kc q => (k7 j kc q).2
            refine ⟨hwp1, w7, s8, rfl, R7, b1, s9, f3, fun w8 l8 R8 k8 => ?_⟩
            have l58 : Le w5 w8 := g6.le.trans (l7.trans l8)
            cases b1 with
            | true =>
              obtain ⟨⟨o10, s10⟩, f5, f6⟩ := bnd (x := mFz me s9) f4
              obtain ⟨d', f7, f8⟩ := bnd f6
              obtain ⟨s11, f9, f10⟩ := bnd f8
              obtain ⟨zj, f11, f12⟩ := bnd f10
              have f12 := Option.some.inj f12
              subst f12
              refine iteT ?_
              refine ⟨w8, s9, rfl, R8, o10, s10, f5, fun y9 w9 l9 R9 k9 q9 => ?_⟩
              have G9 := G5.le (l58.trans l9)
              have dy : Dp K w9.F y9 d' := by
                cases o10 with
                | v d4 =>
                  cases f7
                  exact q9
                | nw _ => cases f7
                | sl _ => cases f7
                | ex _ => cases f7
              have ez5' : das5 ++ (d' :: zj.1) = das ++ z1.1 := ez5
              have hzl := congrArg List.length ez5'
              have hzl2 := congrArg List.length ez
              have hzz : (z1.1 ++ z2.1).length = z1.1.length + z2.1.length := List.length_append
              rw [List.length_append, List.length_cons, List.length_append] at hzl
              rw [List.length_append, hzz] at hzl2
              refine ⟨acc5, G9.at_, ?_, ?_⟩
              · rw [dpa_len G9.dp]
                exact Evl.sz_lt (by omega)
              · have Rw := R9.wipe f9
                rw [hwp1] at Rw
                have l09 : Le w w9 := l5.trans (l58.trans l9)
                refine ⟨{ w9 with H := upd w9.H D' (.lst (acc5 ++ [y9])) }, s11, das5 ++ [d'], acc5 ++ [y9], zj, rfl, ⟨l09.mutD hD, fun a o h => (l58.trans l9).f a o (f5' a o h)⟩, Rw.mutD G9.no G9.nf ⟨_, G9.at_⟩, k5.trans (kk7.trans (k8.trans (k9.trans (keep_unw f9)))), ⟨upd_same, dpa_app G9.dp (dpa_one dy), G9.nf, G9.no⟩, f11, ?_, ez6⟩
                rw [← ez5', List.append_assoc]
                rfl
            | false =>
              obtain ⟨s11, f9, f10⟩ := bnd (x := unw vs1 s9) f4
              have Rw := R8.wipe f9
              rw [hwp1] at Rw
              refine iteF ?_
              exact ⟨w8, s11, das5, acc5, zi, rfl, ⟨l5.trans l58, fun a o h => l58.f a o (f5' a o h)⟩, Rw, k5.trans (kk7.trans (k8.trans (keep_unw f9))), G5.le l58, f10, ez5, ez6⟩
          · have e0 : j = ds1.length := by omega
            subst e0
            rw [List.drop_length] at ei
            cases ei
            have ez5 : das5 ++ [] = das ++ z1.1 := ez5
            rw [List.append_nil] at ez5
            have ez6' : s7 = z1.2 := ez6
            have u6 : unw vs s7 = some s6 := by rw [ez6']; exact e15
            have Rw := R5.wipe u6
            rw [wipe_wipe hv, hwp] at Rw
            refine .inl ⟨hstop1, w5, s6, das5, acc5, z2, rfl, l5, Rw, k'.trans (kk2.trans (k3.trans (k4.trans (k5.trans (keep_unw u6))))), G5, e17, ?_, ez2⟩
            rw [ez5, List.append_assoc]
            exact ez
        cases y with
        | list es =>
          cases e9
          refine .inl ⟨w3, s3, rfl, R3, _, s4, e5, fun v w4 l4 R4 k4 q4 => ?_⟩
          have q4 : Dp K w4.F v (.list ds1) := q4
          cases q4 with
          | lst h1 h2 => exact ⟨_, rfl, ⟨_, sqL_mono R4.sub h1⟩, inner _ w4 l4 R4 k4 fun T => walks_list h1 h2⟩
        | tuple es =>
          cases e9
          refine .inr ⟨w3, s3, rfl, R3, _, s4, e5, fun v w4 l4 R4 k4 q4 => ?_⟩
          have q4 : Dp K w4.F v (.tuple ds1) := q4
          cases q4 with
          | tup h1 h2 => exact ⟨_, rfl, ⟨_, sqT_mono R4.sub h1⟩, inner _ w4 l4 R4 k4 fun T => walks_tup h1 h2⟩
        | _ => cases e9
    · have e0 : i = ds.length := by omega
      subst e0
      rw [List.drop_length] at e'
      cases e'
      have ez : das ++ [] = z.1 := ez
      rw [List.append_nil] at ez
      subst ez
      refine .inl ⟨hstop, k (.ref D') w' l' ?_ ?_ ⟨[D'], ⟨D', acc, rfl, rfl, G.at_, G.dp⟩, fun a ha => ?_⟩⟩
      · rw [← ez2]
        exact R.unwipe l' R' hn
      · rw [← ez2]
        exact keep_rst hn k'
      · have ea : a = D' := List.mem_singleton.mp ha
        subst ea
        exact ⟨hD, G.nf, G.no, _, G.at_⟩
end
end Sh
-- Sh18.lean
set_option Elab.async false
set_option linter.all false
set_option maxRecDepth 100000
set_option maxHeartbeats 1000000
/-! Sh18: the rules of Sh15-17 as the generator writes them. -/
namespace Sh
open PySem L2
theorem sem_mulS {K : PySem.W.Frag} : Sem2 K rMulS fMulS := fun w x y d e res sb vx vy q Q k => by
  cases d with
  | str a =>
    cases e with
    | int n =>
      have q : (if 2 ≤ n ∧ n ≤ 1000 ∧ 1 ≤ a.length ∧ a.length ≤ 100 then some (Res.d (.str (timesT a n.toNat))) else if 0 ≤ n ∧ n ≤ 1 then some (Res.d (.str (if n = 1 then a else Str.empty))) else none) = some res := q
      refine ⟨a, n, vd_str vx, vd_int vy, ?_⟩
      split at q
      · rename_i h
        cases q
        exact .inl ⟨h.1, h.2.1, h.2.2.1, h.2.2.2, k.val sb (.str _)⟩
      · split at q
        · rename_i h
          cases q
          exact .inr ⟨h.1, h.2, k.val sb (.str _)⟩
        · cases q
    | _ => cases q
  | _ => cases q
/-- a dict of the module at a global name -/
structure KdAt (K : PySem.W.Frag) (w : World) (mg : Str → Option Value) (x : Str) (kvs : List (Str × D)) : Prop where
  ex : ∃ d, mg x = some (.ref d) ∧ KdOk K w d kvs
section
variable {X : Cx} {c : Cfg X.K} {a b o e : Expr} {ma mb mo me : M} {p pos apos : Pos} {x : Str} {kvs : List (Str × D)}
theorem she_kdin (Z : KdAt X.K X.w X.mg x kvs) (hg : Gl X x) (ha : PE X a (liftE c ma)) (hd : (x == ("__debug__" : Str)) = false := by decide) (hb : behindInMarks .In (.Name x p) = false := by rfl) : PE X (.Compare a [.In] [.Name x p] pos) (liftE c (mUn (fKdIn kvs) ma)) := by
  obtain ⟨d, h1, h2⟩ := Z.ex
  obtain ⟨es, n, D⟩ := h2.1
  exact (pe_cmpR (op_in_kd D) ha (pe_glob (v := .ref d) hg h1 rfl hd) hb).imp fun _ _ _ h => lift_kdin h2 h
theorem she_kdat (Z : KdAt X.K X.w X.mg x kvs) (hg : Gl X x) (hb : PE X b (liftE c mb)) (hp : PlainIx b) (hd : (x == ("__debug__" : Str)) = false := by decide) : PE X (.Subscript (.Name x p) b pos) (liftE c (mUn (fKdAt kvs) mb)) := by
  obtain ⟨d, h1, h2⟩ := Z.ex
  exact (pe_ix ix_kdict (pe_glob (v := .ref d) hg h1 rfl hd) hb hp).imp fun _ _ _ h => lift_kdat h2 h
theorem sha_star {es : List Expr} {na : MA} (ha : PE X e (liftE c me)) (hr : PA X es (liftA c na)) (hs : starEach (.Starred e p :: es) X.env = (true, eval e X.env) :: starEach es X.env := by rfl) : PA X (.Starred e p :: es) (liftA c (mAStar me na)) :=
  (StX.pa_star (she_fz ha) hr hs).imp fun _ _ _ h => lift_star h
theorem she_join (ho : PE X o (liftE c mo)) (he : PE X e (liftE c me)) (hs : starEach [e] X.env = [(false, eval e X.env)] := by rfl) (hbase : attributeBase o "join" X.env (eval o X.env) = eval o X.env := by rfl) (hline : (apos.endLine == pos.line) = true := by rfl) :
    PE X (.Call (.Attribute o "join" apos) [e] [] pos) (liftE c (mM1 isS fJoin mo me)) := (pe_join ho he hs hbase hline).imp fun _ _ _ h => lift_m1 sem_join h
theorem she_split (ho : PE X o (liftE c mo)) (he : PE X e (liftE c me)) (hs : starEach [e] X.env = [(false, eval e X.env)] := by rfl) (hbase : attributeBase o "split" X.env (eval o X.env) = eval o X.env := by rfl) (hline : (apos.endLine == pos.line) = true := by rfl) :
    PE X (.Call (.Attribute o "split" apos) [e] [] pos) (liftE c (mM1 isS fSplit mo me)) := (pe_split ho he hs hbase hline).imp fun _ _ _ h => lift_m1 sem_split h
theorem she_lenT {p2 q : Pos} (hg : Gl X "len") (hm : X.mg "len" = none) (hg2 : Gl X "set") (hm2 : X.mg "set" = none) (ha : PE X a (liftE c ma)) (hc : X.calm = true := by rfl) (na : starEach [a] X.env = (false, eval a X.env) :: starEach [] X.env := by rfl) :
    PE X (.Call (.Name "len" p) [.Call (.Name "set" p2) [a] [] q] [] pos) (liftE c (mLenT ma)) := (Sst.pe_lenT hg hm hg2 hm2 (she_fz ha) hc na).imp fun _ _ _ h => lift_lenT h
end
section
variable {X : Cx} {c : Cfg X.K} {elt tg iter tg1 iter1 : Expr} {ifs ifs1 : List Expr} {scope : Scope} {own : List (Str × Nat)} {vs1 : List Nat} {pos : Pos} {g g1 : TG} {t t1 : Tgt} {ts ts1 : List Nat} {mt mt1 : MT} {me ml m1 : M}
theorem she_lc2 (hc : X.calm = true) (hN : X.N.Nodup) (hi : PE X iter (liftE c ml)) (ok : BlkOk X.N X.env.scope scope own) (hv : ∀ i ∈ vs1, i ∈ own.map (·.2))
    (hg : ∀ (s : Shared) (H : Hp) (C : Addr) (cl : List (Str × Addr)) (fp : List Addr), PG (X.blk s H scope (compEnvC scope cl C X.env) fp) tg g) (hg' : TgtC c g t ts) (hts : ∀ i ∈ ts, i ∈ own.map (·.2)) (ht : ∀ (s : Shared) (H : Hp) (C : Addr) (cl : List (Str × Addr)) (fp : List Addr), PTs (X.blk s H scope (compEnvC scope cl C X.env) fp) ifs (liftT c mt))
    (hi1 : ∀ (s : Shared) (H : Hp) (C : Addr) (cl : List (Str × Addr)) (fp : List Addr), PE (X.blk s H scope (compEnvC scope cl C X.env) fp) iter1 (liftE c m1))
    (hg1 : ∀ (s : Shared) (H : Hp) (C : Addr) (cl : List (Str × Addr)) (fp : List Addr), PG (X.blk s H scope (compEnvC scope cl C X.env) fp) tg1 g1) (hg1' : TgtC c g1 t1 ts1) (hts1 : ∀ i ∈ ts1, i ∈ vs1) (ht1 : ∀ (s : Shared) (H : Hp) (C : Addr) (cl : List (Str × Addr)) (fp : List Addr), PTs (X.blk s H scope (compEnvC scope cl C X.env) fp) ifs1 (liftT c mt1))
    (he : ∀ (s : Shared) (H : Hp) (C : Addr) (cl : List (Str × Addr)) (fp : List Addr), PE (X.blk s H scope (compEnvC scope cl C X.env) fp) elt (liftE c me)) (hs : ∀ x, foldedSetIterable iter X.env x = pure x := by intro _; rfl) (hs1 : ∀ env x, foldedSetIterable iter1 env x = pure x := by intro _ _; rfl) :
    PE X (.ListComp elt [⟨tg, iter, ifs, 0⟩, ⟨tg1, iter1, ifs1, 0⟩] scope pos) (liftE c (mLc2 ml t mt m1 t1 mt1 me (own.map (·.2)) vs1)) :=
  (pe_lc2 hc hN (pi_seq (she_fz hi)) ok hv hg ht (fun s H C cl fp => pi_seq (she_fz (hi1 s H C cl fp))) hg1 ht1 (fun s H C cl fp => she_fz (he s H C cl fp)) hs hs1).imp fun σ H Q h => by
    obtain ⟨w, s, rfl, R, o, s', e, k⟩ := h
    obtain ⟨⟨o1, s1⟩, e1, e⟩ := bnd e
    obtain ⟨d, e2, e⟩ := bnd e
    obtain ⟨ds, e3, e⟩ := bnd e
    obtain ⟨s2, e4, e⟩ := bnd e
    obtain ⟨z, e5, e⟩ := bnd e
    obtain ⟨hz, e⟩ := endC_le e
    cases e
    obtain ⟨d1, rfl⟩ := mfz_v e1
    cases e2
    cases d with
    | list ds' =>
      cases e3
      refine .inl ⟨w, s, rfl, R, _, s1, e1, fun v w1 l1 R1 k1 q1 => ?_⟩
      have q1 : Dp X.K w1.F v (.list ds) := q1
      cases q1 with
      | lst h1 h2 => exact ⟨_, rfl, ⟨_, sqL_mono R1.sub h1⟩, lift_lc2 hv hg' hts hg1' hts1 (walks_list h1 h2) R1 e4 e5 hz fun v w' l' R' k' q => k v w' (l1.trans l') R' (k1.trans k') (q.back l1)⟩
    | tuple ds' =>
      cases e3
      refine .inr ⟨w, s, rfl, R, _, s1, e1, fun v w1 l1 R1 k1 q1 => ?_⟩
      have q1 : Dp X.K w1.F v (.tuple ds) := q1
      cases q1 with
      | tup h1 h2 => exact ⟨_, rfl, ⟨_, sqT_mono R1.sub h1⟩, lift_lc2 hv hg' hts hg1' hts1 (walks_tup h1 h2) R1 e4 e5 hz fun v w' l' R' k' q => k v w' (l1.trans l') R' (k1.trans k') (q.back l1)⟩
    | _ => cases e3
end
/-- the place of a generator expression, by running it -/
def genC (N : List Str) (sc scope : Scope) (own : List (Str × Nat)) : Bool :=
  (match scope.kind with | .function => true | _ => false) && !scope.isCoroutine && (scope.names.all fun y => match y.2 with | .cell => false | _ => true) && decide (scope.names.lookup (".0" : Str) = some NameKind.local) && (scope.names.all fun y => decide (scope.names.lookup y.1 = some y.2)) && (own.all fun p => decide (N[p.2]? = some p.1)) &&
    (scope.names.all fun y => match y.2 with
      | .free => (match sc.names.lookup y.1 with | some .cell => true | some .free => true | _ => false)
      | .local => decide (y.1 ∈ own.map (·.1)) || decide (y.1 ∉ N)
      | _ => true)
theorem genOk_by {N : List Str} {sc scope : Scope} {own : List (Str × Nat)} (h : genC N sc scope own = true) : Gx.GenOk N sc scope own := by
  unfold genC at h
  simp only [Bool.and_eq_true, List.all_eq_true, decide_eq_true_eq] at h
  obtain ⟨⟨⟨⟨⟨⟨h1, h2⟩, h3⟩, h4⟩, h5⟩, h6⟩, h7⟩ := h
  refine ⟨?_, by simpa using h2, fun y hy e => ?_, h4, h5, h6, fun y hy e => ?_, fun y hy e => ?_⟩
  · split at h1
    · assumption
    · cases h1
  · have q := h3 y hy
    rw [e] at q
    cases q
  · have q := h7 y hy
    simp only [e] at q
    split at q <;> first | exact .inl (by assumption) | exact .inr (by assumption) | cases q
  · have q := h7 y hy
    simp only [e, Bool.or_eq_true, decide_eq_true_eq] at q
    exact q
/-- a def told by nothing -/
theorem fn_none {P : Program} {w : World} {K : PySem.W.Frag} {mg : Str → Option Value} {base : Heap} {x qual : Str} {st : Stmt} {f : Addr} {fd : FuncData} {N ps : List Str} {k n : Nat} {c : Cfg K} (F : Fun K x qual st f fd) (S : FnScope N ps (defScope st)) (hn : ps.length = n) : FnOk P w K mg base CX0 (k + 1) f fd ps (spF c n fun _ => none) :=
  (fn_sem (c := c) (l := N.length) (m := mNever) F S rfl hn fun _ _ _ _ _ _ _ => shss_never).imp fun vs H Q E q => by
    obtain ⟨_, w1, ss, _, _, o, ss', e, _⟩ := q
    cases e
end Sh
namespace Sh
open PySem L2
theorem bb_all : bootBuiltins "all" = some (.builtin "all") := by decide +kernel
theorem bb_any : bootBuiltins "any" = some (.builtin "any") := by decide +kernel
end Sh
-- Sw4.lean
set_option Elab.async false
set_option linter.all false
set_option maxRecDepth 100000
set_option maxHeartbeats 1000000
/-! Sw4: what holds behind the rules of Sh15-18. -/
namespace Sh
open PySem L2
section
variable {s : SL} {Q : Op → SL → Prop}
theorem v_all {d : Bool} {sel : D → Option (List D)} {ml : M} {t : Tgt} {mt : MT} {me : M} {vs : List Nat} (h : wp2 (mFz ml s) fun o s1 => wp (cD s1 o) fun x => wp (sel x) fun ds => wp (unw vs s1) fun s2 => wp2 (loopA d t mt me vs ds s2) fun b s3 => Q (.v (.bool b)) (rst vs s1 s3)) : wp2 (mAll d sel ml t mt me vs s) Q :=
  wp2_bnd2 (wp2_mono h fun _ _ h => wp2_bnd (wp_mono h fun _ h => wp2_bnd (wp_mono h fun _ h => wp2_bnd (wp_mono h fun _ h => wp2_bnd2 (wp2_mono h fun _ _ h => ⟨_, _, rfl, h⟩)))))
theorem wp_selS {x : Str} {K : List D → Prop} (q : K (sgD x)) : wp (selS (.str x)) K := ⟨_, rfl, q⟩
/-- each item passes -/
theorem w_allT {α : Type} {f : α → D} {t : Tgt} {me : M} {vs : List Nat} {Q : Bool → SL → Prop} : ∀ {xs : List α} {s : SL}, (∀ x ∈ xs, wp (t (f x) s) fun s1 => wp2 (me s1) fun o s2 => o = .v (.bool true) ∧ unw vs s2 = some s) → Q true s → wp2 (loopA true t mYes me vs (xs.map f) s) Q
  | [], s, _, q => ⟨_, _, rfl, q⟩
  | x :: xs, s, h, q => by
    obtain ⟨s1, e1, o, s2, e2, rfl, e3⟩ := h x List.mem_cons_self
    obtain ⟨b, s3, e4, q'⟩ := w_allT (xs := xs) (s := s) (Q := Q) (fun y hy => h y (List.mem_cons_of_mem _ hy)) q
    refine ⟨b, s3, ?_, q'⟩
    show (t (f x) s).bind _ = _
    rw [e1]
    show (me s1).bind _ = _
    rw [e2]
    show (unw vs s2).bind _ = _
    rw [e3]
    exact e4
theorem v_lc2 {ml : M} {t : Tgt} {mt : MT} {m1 : M} {t1 : Tgt} {mt1 : MT} {me : M} {vs vs1 : List Nat} (h : wp2 (mFz ml s) fun o s1 => wp (cD s1 o) fun d => wp (seqD d) fun ds => wp (unw vs s1) fun s2 => wp2 (loopC2 t mt m1 t1 mt1 me vs vs1 ds s2) (kE vs s1 Q)) : wp2 (mLc2 ml t mt m1 t1 mt1 me vs vs1 s) Q :=
  wp2_bnd2 (wp2_mono h fun _ _ h => wp2_bnd (wp_mono h fun _ h => wp2_bnd (wp_mono h fun _ h => wp2_bnd (wp_mono h fun _ h => endC_w h))))
/-- two fors, no ifs: each x gives its g x -/
theorem w_map2 {α : Type} {f : α → D} {g : α → List D} {t : Tgt} {m1 : M} {t1 : Tgt} {me : M} {vs vs1 : List Nat} {Q : List D → SL → Prop} : ∀ {xs : List α} {s : SL}, (∀ x ∈ xs, wp (t (f x) s) fun s1 => wp2 (mFz m1 s1) fun o s2 => wp (cD s2 o) fun d => wp (seqD d) fun ds1 => wp (unw vs1 s2) fun s3 => wp2 (loopC t1 mYes me vs1 ds1 s3) fun z s4 => z = g x ∧ unw vs s4 = some s) → Q (xs.flatMap g) s → wp2 (loopC2 t mYes m1 t1 mYes me vs vs1 (xs.map f) s) Q
  | [], s, _, q => ⟨_, _, rfl, q⟩
  | x :: xs, s, h, q => by
    obtain ⟨s1, e1, o, s2, e2, d, e3, ds1, e4, s3, e5, z, s4, e6, rfl, e7⟩ := h x List.mem_cons_self
    obtain ⟨zs, s5, e8, rfl, rfl⟩ := w_map2 (xs := xs) (s := s) (Q := fun zs s' => zs = xs.flatMap g ∧ s' = s) (fun y hy => h y (List.mem_cons_of_mem _ hy)) ⟨rfl, rfl⟩
    refine ⟨_, _, ?_, q⟩
    show (t (f x) s5).bind _ = _
    rw [e1]
    show (mFz m1 s1).bind _ = _
    rw [e2]
    show (cD s2 o).bind _ = _
    rw [e3]
    show (seqD d).bind _ = _
    rw [e4]
    show (unw vs1 s2).bind _ = _
    rw [e5]
    show (loopC t1 mYes me vs1 ds1 s3).bind _ = _
    rw [e6]
    show (unw vs s4).bind _ = _
    rw [e7]
    show (loopC2 t mYes m1 t1 mYes me vs vs1 (xs.map f) s5).bind _ = _
    rw [e8]
    rfl
theorem v_lenT {m : M} (h : wp2 (mFz m s) fun o s1 => wp (cD s1 o) fun d => ∃ ys : List Str, d = .list (ys.map PyData.str) ∧ ys.length ≤ 1000 ∧ Q (.v (.int ((Sst.ddT ys).length : Nat))) s1) : wp2 (mLenT m s) Q :=
  wp2_bnd2 (wp2_mono h fun _ _ h => wp2_bnd (wp_mono h fun _ h => by
    obtain ⟨ys, rfl, hz, q⟩ := h
    refine ⟨_, _, ?_, q⟩
    show (strsD (ys.map PyData.str)).bind _ = _
    rw [strsD_map]
    show (if ys.length ≤ 1000 then _ else none) = _
    rw [if_pos hz]))
theorem v_m1 {p : D → Bool} {f : D → D → Option Res} {mo me : M} (h : wp2 (mo s) fun o1 s1 => wp (cD s1 o1) fun d0 => p d0 = true ∧ wp2 (me s1) fun o2 s2 => wp (cD s2 o1) fun d => wp (cD s2 o2) fun e => wp (f d e) (kR Q s2)) : wp2 (mM1 p f mo me s) Q :=
  wp2_bnd2 (wp2_mono h fun _ _ h => wp2_bnd (wp_mono h fun _ h => wp2_ck h.1 (wp2_bnd2 (wp2_mono h.2 fun _ _ h => wp2_bnd (wp_mono h fun _ h => wp2_bnd (wp_mono h fun _ h => wp_res h))))))
theorem ex_p {P : Prop} (h : P) : true = true ∧ P := ⟨rfl, h⟩
theorem a_star {m : M} {ma : MA} {Q : List Op → SL → Prop} (h : wp2 (mFz m s) fun o s1 => wp (cD s1 o) fun d => wp (seqD d) fun ds => wp2 (ma s1) fun os s2 => Q (ds.map Op.v ++ os) s2) : wp2 (mAStar m ma s) Q :=
  wp2_bnd2 (wp2_mono h fun _ _ h => wp2_bnd (wp_mono h fun _ h => wp2_bnd (wp_mono h fun _ h => wp2_bnd2 (wp2_mono h fun _ _ h => ⟨_, _, rfl, h⟩))))
theorem opsD_v : ∀ (ds : List D) (os : List Op) {es : List D}, opsD os = some es → opsD (ds.map Op.v ++ os) = some (ds ++ es)
  | [], _, _, h => h
  | d :: ds, os, es, h => by
    show (opsD (ds.map Op.v ++ os)).bind _ = _
    rw [opsD_v ds os h]
    rfl
theorem p_inSg {n : Nat} {z : Str} (q : Q (.v (.bool (decide (n ∈ z.cps.toList)))) s) : wp (fInSg (.str ⟨#[n]⟩) (.str z)) (kR Q s) := ⟨_, rfl, q⟩
theorem p_kdin {kvs : List (Str × D)} {z : Str} (h : (kvs.lookup z).isSome = true) (q : Q (.v (.bool true)) s) : wp (fKdIn kvs (.str z)) (kR Q s) := ⟨.d (.bool true), by
  show (if (kvs.lookup z).isSome = true then _ else none) = _
  rw [if_pos h], q⟩
theorem p_kdat {kvs : List (Str × D)} {z : Str} {d : D} (h : kvs.lookup z = some d) (q : Q (.v d) s) : wp (fKdAt kvs (.str z)) (kR Q s) := ⟨.d d, by
  show (kvs.lookup z).bind _ = _
  rw [h]
  rfl, q⟩
theorem p_strI {i : Int} (h : i.natAbs.log2 < 1920) (q : Q (.v (.str (toString i))) s) : wp (f1 fStr [.int i]) (kR Q s) := ⟨.d (.str (toString i)), by
  show (if i.natAbs.log2 < 1920 then _ else none) = _
  rw [if_pos h], q⟩
theorem p_strS {x : Str} (q : Q (.v (.str x)) s) : wp (f1 fStr [.str x]) (kR Q s) := ⟨_, rfl, q⟩
theorem p_intT {x : Str} {n : Int} (hz : x.length ≤ 640) (h : PySem.intText? x = some n) (q : Q (.v (.int n)) s) : wp (f1 fIntT [.str x]) (kR Q s) := ⟨.d (.int n), by
  show (if x.length ≤ 640 then (PySem.intText? x).bind _ else none) = _
  rw [if_pos hz, h]
  rfl, q⟩
theorem p_join {a : Str} {ys : List Str} (h : (ys.map (·.length)).sum + ys.length * a.length ≤ 100000) (q : Q (.v (.str (Txt.join a ys))) s) : wp (fJoin (.str a) (.list (ys.map PyData.str))) (kR Q s) := ⟨.d (.str (Txt.join a ys)), by
  show (strsD (ys.map PyData.str)).bind _ = _
  rw [strsD_map]
  show (if _ then _ else none) = _
  rw [if_pos h], q⟩
theorem p_split {a b : Str} (h : (b.length == 0) = false ∧ a.length + 2 ≤ 100000) (q : Q (.nw (.lst ((Txt.split a b).map PyData.str))) s) : wp (fSplit (.str a) (.str b)) (kR Q s) := ⟨.nl ((Txt.split a b).map PyData.str), by
  show (if _ then _ else none) = _
  rw [if_pos h], q⟩
theorem p_cnt {ys : List Str} {z : Str} (q : Q (.v (.int (ys.count z : Nat))) s) : wp (fCntS (.list (ys.map PyData.str)) (.str z)) (kR Q s) := ⟨.d (.int (ys.count z : Nat)), by
  show (strsD (ys.map PyData.str)).bind _ = _
  rw [strsD_map]
  rfl, q⟩
theorem p_idx {ys : List Str} {z : Str} {j : Nat} (h : ys.findIdx? (· == z) = some j) (q : Q (.v (.int (j : Nat))) s) : wp (fIdxS (.list (ys.map PyData.str)) (.str z)) (kR Q s) := ⟨.d (.int (j : Nat)), by
  show (strsD (ys.map PyData.str)).bind _ = _
  rw [strsD_map]
  show (ys.findIdx? (· == z)).bind _ = _
  rw [h]
  rfl, q⟩
/-- a text n times, as its signs -/
def rep1 (c n : Nat) : Str := ⟨(List.replicate n c).toArray⟩
theorem times_list (xs : Array Nat) : ∀ (n : Nat) (acc : Array Nat), ((List.replicate n xs).foldl (· ++ ·) acc).toList = acc.toList ++ (List.replicate n xs.toList).flatten
  | 0, acc => by simp
  | n + 1, acc => by
    rw [List.replicate_succ, List.foldl_cons, times_list xs n, Array.toList_append, List.replicate_succ, List.flatten_cons, List.append_assoc]
theorem flat1 (c : Nat) : ∀ n, (List.replicate n [c]).flatten = List.replicate n c
  | 0 => rfl
  | n + 1 => by
    rw [List.replicate_succ, List.flatten_cons, flat1 c n]
    rfl
theorem timesT_1 (c n : Nat) : timesT ⟨#[c]⟩ n = rep1 c n := by
  unfold timesT rep1
  congr 1
  rw [← Array.toArray_toList (xs := (List.replicate n #[c]).foldl (· ++ ·) #[]), times_list]
  rw [show (#[] : Array Nat).toList = [] from rfl, List.nil_append, show (#[c] : Array Nat).toList = [c] from rfl, flat1]
theorem p_mul1 {c : Nat} {n : Int} (h0 : 0 ≤ n) (h1 : n ≤ 1000) (q : Q (.v (.str (rep1 c n.toNat))) s) : wp (fMulS (.str ⟨#[c]⟩) (.int n)) (kR Q s) := by
  have e : fMulS (.str ⟨#[c]⟩) (.int n) = some (.d (.str (rep1 c n.toNat))) := by
    show (if 2 ≤ n ∧ n ≤ 1000 ∧ 1 ≤ (1 : Nat) ∧ (1 : Nat) ≤ 100 then some (Res.d (.str (timesT ⟨#[c]⟩ n.toNat))) else if 0 ≤ n ∧ n ≤ 1 then some (Res.d (.str (if n = 1 then ⟨#[c]⟩ else Str.empty))) else none) = _
    by_cases h2 : 2 ≤ n
    · rw [if_pos ⟨h2, h1, by decide, by decide⟩, timesT_1]
    · rw [if_neg (fun z => h2 z.1), if_pos (by omega)]
      by_cases h3 : n = 1
      · subst h3
        rfl
      · obtain rfl : n = 0 := by omega
        rfl
  exact ⟨_, e, q⟩
/-! ### slots unset and set again, as lists -/
def U (vs : List Nat) (k : Nat) (s s' : SL) : Prop := s' = s.mapIdx (fun i x => if i + k ∈ vs then .un else x) ∧ ∀ v ∈ vs, k ≤ v → isOw s[v - k]? = false
theorem U_nil {vs : List Nat} {k : Nat} : U vs k [] [] := ⟨rfl, fun v _ _ => by simp [isOw]⟩
theorem map_k {vs : List Nat} {k : Nat} {r : SL} {f : Nat → Slot} : (r.mapIdx fun i x => if i + 1 + k ∈ vs then f (i + 1) else x) = r.mapIdx fun i x => if i + (k + 1) ∈ vs then f (i + 1) else x := by
  apply List.ext_getElem?
  intro i
  rw [List.getElem?_mapIdx, List.getElem?_mapIdx, show i + 1 + k = i + (k + 1) by omega]
theorem U_rest {vs : List Nat} {k : Nat} {x : Slot} {r r' : SL} (h : U vs (k + 1) r r') (hx : k ∈ vs → isOw (some x) = false) : ∀ v ∈ vs, k ≤ v → isOw (x :: r)[v - k]? = false := fun v hv hk => by
  by_cases e : v = k
  · subst e
    rw [Nat.sub_self]
    exact hx hv
  · have := h.2 v hv (by omega)
    rw [show v - k = (v - (k + 1)) + 1 by omega]
    exact this
theorem U_in {vs : List Nat} {k : Nat} {x : Slot} {r r' : SL} (hk : k ∈ vs) (hx : isOw (some x) = false) (h : U vs (k + 1) r r') : U vs k (x :: r) (.un :: r') := ⟨by
  rw [List.mapIdx_cons, if_pos (by rw [Nat.zero_add]; exact hk), map_k (f := fun _ => .un), ← h.1], U_rest h fun _ => hx⟩
theorem U_out {vs : List Nat} {k : Nat} {x : Slot} {r r' : SL} (hk : k ∉ vs) (h : U vs (k + 1) r r') : U vs k (x :: r) (x :: r') := ⟨by
  rw [List.mapIdx_cons, if_neg (by rw [Nat.zero_add]; exact hk), map_k (f := fun _ => .un), ← h.1], U_rest h fun z => absurd z hk⟩
theorem unw_U {vs : List Nat} {s s' : SL} (h : U vs 0 s s') : unw vs s = some s' := by
  obtain ⟨h1, h2⟩ := h
  unfold unw
  rw [if_pos (List.all_eq_true.mpr fun v hv => by have := h2 v hv (Nat.zero_le _); rw [Nat.sub_zero] at this; rw [this]; rfl), h1]
  rfl
theorem wp_unwN {vs : List Nat} {s s' : SL} {Q : SL → Prop} (h : U vs 0 s s') (q : Q s') : wp (unw vs s) Q := ⟨_, unw_U h, q⟩
def Rs (vs : List Nat) (k : Nat) (s1 s s' : SL) : Prop := s' = s.mapIdx fun i x => if i + k ∈ vs then s1[i]?.getD .un else x
theorem Rs_nil {vs : List Nat} {k : Nat} : Rs vs k [] [] [] := rfl
theorem Rs_in {vs : List Nat} {k : Nat} {x y : Slot} {r1 r r' : SL} (hk : k ∈ vs) (h : Rs vs (k + 1) r1 r r') : Rs vs k (y :: r1) (x :: r) (y :: r') := by
  show y :: r' = List.mapIdx _ (x :: r)
  rw [List.mapIdx_cons, if_pos (by rw [Nat.zero_add]; exact hk)]
  rw [show r' = _ from h]
  congr 1
  apply List.ext_getElem?
  intro i
  rw [List.getElem?_mapIdx, List.getElem?_mapIdx, show i + 1 + k = i + (k + 1) by omega]
  rfl
theorem Rs_out {vs : List Nat} {k : Nat} {x y : Slot} {r1 r r' : SL} (hk : k ∉ vs) (h : Rs vs (k + 1) r1 r r') : Rs vs k (y :: r1) (x :: r) (x :: r') := by
  show x :: r' = List.mapIdx _ (x :: r)
  rw [List.mapIdx_cons, if_neg (by rw [Nat.zero_add]; exact hk)]
  rw [show r' = _ from h]
  congr 1
  apply List.ext_getElem?
  intro i
  rw [List.getElem?_mapIdx, List.getElem?_mapIdx, show i + 1 + k = i + (k + 1) by omega]
  rfl
theorem rst_Rs {vs : List Nat} {s1 s s' : SL} (h : Rs vs 0 s1 s s') : rst vs s1 s = s' := h.symm
theorem ex_rs {vs : List Nat} {s1 s s' : SL} {R : SL → Prop} (h : Rs vs 0 s1 s s') (q : R s') : ∃ s', Rs vs 0 s1 s s' ∧ R s' := ⟨_, h, q⟩
def kN (vs : List Nat) (s1 : SL) (Q : Op → SL → Prop) : List D → SL → Prop := fun zs s => zs.length ≤ 100000 ∧ ∃ s', Rs vs 0 s1 s s' ∧ Q (.nw (.lst zs)) s'
theorem kN_E {vs : List Nat} {s1 : SL} {x : Option (List D × SL)} (h : wp2 x (kN vs s1 Q)) : wp2 x (kE vs s1 Q) := wp2_mono h fun zs s2 ⟨h1, s', h2, q⟩ => ⟨h1, by rw [rst_Rs h2]; exact q⟩
theorem v_allN {d : Bool} {sel : D → Option (List D)} {ml : M} {t : Tgt} {mt : MT} {me : M} {vs : List Nat} (h : wp2 (mFz ml s) fun o s1 => wp (cD s1 o) fun x => wp (sel x) fun ds => wp (unw vs s1) fun s2 => wp2 (loopA d t mt me vs ds s2) fun b s3 => ∃ s', Rs vs 0 s1 s3 s' ∧ Q (.v (.bool b)) s') : wp2 (mAll d sel ml t mt me vs s) Q :=
  v_all (wp2_mono h fun _ _ h => wp_mono h fun _ h => wp_mono h fun _ h => wp_mono h fun _ h => wp2_mono h fun b s3 ⟨s', h1, q⟩ => by rw [rst_Rs h1]; exact q)
theorem v_lcN {sel : D → Option (List D)} {ml : M} {t : Tgt} {mt : MT} {me : M} {vs : List Nat} (h : wp2 (mFz ml s) fun o s1 => wp (cD s1 o) fun d => wp (sel d) fun ds => wp (unw vs s1) fun s2 => wp2 (loopC t mt me vs ds s2) (kN vs s1 Q)) : wp2 (mLc sel ml t mt me vs s) Q :=
  v_lc (wp2_mono h fun _ _ h => wp_mono h fun _ h => wp_mono h fun _ h => wp_mono h fun _ h => kN_E h)
theorem v_lc2N {ml : M} {t : Tgt} {mt : MT} {m1 : M} {t1 : Tgt} {mt1 : MT} {me : M} {vs vs1 : List Nat} (h : wp2 (mFz ml s) fun o s1 => wp (cD s1 o) fun d => wp (seqD d) fun ds => wp (unw vs s1) fun s2 => wp2 (loopC2 t mt m1 t1 mt1 me vs vs1 ds s2) (kN vs s1 Q)) : wp2 (mLc2 ml t mt m1 t1 mt1 me vs vs1 s) Q :=
  v_lc2 (wp2_mono h fun _ _ h => wp_mono h fun _ h => wp_mono h fun _ h => wp_mono h fun _ h => kN_E h)
theorem v_lcR1N {m : M} {t : Tgt} {mt : MT} {me : M} {vs : List Nat} (h : wp2 (m s) fun o s1 => wp (cD s1 o) fun d => ∃ n : Int, d = .int n ∧ (-(2 ^ 62) ≤ n ∧ n < 2 ^ 62) ∧ wp (unw vs s1) fun s2 => wp2 (loopC t mt me vs (rngD 0 n.toNat) s2) (kN vs s1 Q)) : wp2 (mLcR1 m t mt me vs s) Q :=
  v_lcR1 (wp2_mono h fun _ _ h => wp_mono h fun _ ⟨n, h1, h2, h⟩ => ⟨n, h1, h2, wp_mono h fun _ h => kN_E h⟩)
theorem w_mapI {g : D → D} {t : Tgt} {me : M} {vs : List Nat} {ds : List D} {Q : List D → SL → Prop} (hs : ∀ x ∈ ds, wp (t x s) fun s1 => wp2 (mFz me s1) fun o s2 => o = .v (g x) ∧ unw vs s2 = some s) (q : Q (ds.map g) s) : wp2 (loopC t mYes me vs ds s) Q := by
  have h := w_map (f := fun d : D => d) (g := g) (t := t) (me := me) (vs := vs) (xs := ds) (s := s) (Q := Q) hs q
  rw [List.map_id'] at h
  exact h
end
end Sh
-- K12a.lean
set_option Elab.async false
set_option linter.all false
set_option maxRecDepth 100000
set_option maxHeartbeats 4000000
namespace K12
open PySem L2 Sh
def topS (i : Nat) : Stmt := PySem.Challenge.pw_readyfire_k12_shown_and_read.main.body.getD i (.Pass ⟨0, 0, 0, 0⟩)
def kd_COUNTS : List (Str × D) := [("sum", .tuple [.int 1, .int 4, .int 1, .int 3]), ("times", .tuple [.int 1, .int 4, .int 1, .int 3]), ("least", .tuple [.int 1, .int 4, .int 1, .int 3]), ("most", .tuple [.int 1, .int 4, .int 1, .int 3]), ("fixed", .tuple [.int 1, .int 4, .int 1, .int 3]), ("later", .tuple [.int 1, .int 1, .int 1, .int 3]), ("way", .tuple [.int 2, .int 2, .int 2, .int 2]), ("choose", .tuple [.int 3, .int 3, .int 1, .int 3])]
abbrev s_is_whole : Stmt := topS 5
theorem sc_is_whole : FnScope ["thing"] ["thing"] (defScope s_is_whole) := ⟨rfl, rfl, rfl, by decide +kernel, rfl, by decide +kernel, by decide +kernel⟩
def m_is_whole : MS :=
  (mRet (mAndV (mUn (fIsi "int") (mVar 0)) (mNotV (mUn (fIsi "bool") (mVar 0)))))
def f_is_whole : SemF := bodyF 1 m_is_whole
abbrev s_is_value : Stmt := topS 6
theorem sc_is_value : FnScope ["thing"] ["thing"] (defScope s_is_value) := ⟨rfl, rfl, rfl, by decide +kernel, rfl, by decide +kernel, by decide +kernel⟩
def m_is_value : MS :=
  (mRet (mAndV (mCallF f_is_whole (mACons (mFz (mVar 0)) mANil)) (mChain fLe fLt (mC (.int 0)) (mVar 0) (mC (.int 1000000)))))
def f_is_value : SemF := bodyF 1 m_is_value
abbrev s_is_name : Stmt := topS 13
theorem sc_is_name : FnScope ["text", "sign"] ["text"] (defScope s_is_name) := ⟨rfl, rfl, rfl, by decide +kernel, rfl, by decide +kernel, by decide +kernel⟩
def m_is_name : MS :=
  (mSeq (mIf (mNotT (mTst (mChain fLe fLe (mC (.int 1)) (mCall (f1 fLen) (mACons (mVar 0) mANil)) (mC (.int 8))))) (mRet (mC (.bool false))) mNext)
  (mRet (mAndV (mBin fInSg (mBin fIx (mVar 0) (mC (.int 0))) (mC (.str "abcdefghijklmnopqrstuvwxyz"))) (mAll true selS (mVar 0) (tName 1) mYes (mBin fInSg (mVar 1) (mC (.str "abcdefghijklmnopqrstuvwxyz0123456789"))) [1]))))
def f_is_name : SemF := bodyF 2 m_is_name
abbrev s_is_rule : Stmt := topS 14
theorem sc_is_rule : FnScope ["rule"] ["rule"] (defScope s_is_rule) := ⟨rfl, rfl, rfl, by decide +kernel, rfl, by decide +kernel, by decide +kernel⟩
def m_is_rule : MS :=
  (mSeq (mIf (mTst (mBin fEq (mCall (f1 fLen) (mACons (mVar 0) mANil)) (mC (.int 2)))) (mRet (mAndV (mBin fEq (mBin fIx (mVar 0) (mC (.int 0))) (mC (.str "fixed"))) (mCallF f_is_value (mACons (mFz (mBin fIx (mVar 0) (mC (.int 1)))) mANil)))) mNext)
  (mRet (mAndV (mBin fEq (mCall (f1 fLen) (mACons (mVar 0) mANil)) (mC (.int 1))) (mAndV (mUn (fKdIn kd_COUNTS) (mBin fIx (mVar 0) (mC (.int 0)))) (mBin fNe (mBin fIx (mVar 0) (mC (.int 0))) (mC (.str "fixed")))))))
def f_is_rule : SemF := bodyF 1 m_is_rule
abbrev s_counts_fit : Stmt := topS 15
theorem sc_counts_fit : FnScope ["word", "needs", "gives", "least_needs", "most_needs", "least_gives", "most_gives"] ["word", "needs", "gives"] (defScope s_counts_fit) := ⟨rfl, rfl, rfl, by decide +kernel, rfl, by decide +kernel, by decide +kernel⟩
def m_counts_fit : MS :=
  (mSeq (mUnp (mUn (fKdAt kd_COUNTS) (mVar 0)) (tTupT 4 (tConsT (tName 3) (tConsT (tName 4) (tConsT (tName 5) (tConsT (tName 6) tNilT))))))
  (mRet (mAndV (mChain fLe fLe (mVar 3) (mCall (f1 fLen) (mACons (mVar 1) mANil)) (mVar 4)) (mChain fLe fLe (mVar 5) (mCall (f1 fLen) (mACons (mVar 2) mANil)) (mVar 6)))))
def f_counts_fit : SemF := bodyF 7 m_counts_fit
abbrev s_is_step : Stmt := topS 16
theorem sc_is_step : FnScope ["step", "name", "rule", "needs", "gives", "text"] ["step"] (defScope s_is_step) := ⟨rfl, rfl, rfl, by decide +kernel, rfl, by decide +kernel, by decide +kernel⟩
def m_is_step : MS :=
  (mSeq (mUnp (mVar 0) (tTupT 4 (tConsT (tName 1) (tConsT (tName 2) (tConsT (tName 3) (tConsT (tName 4) tNilT))))))
  (mSeq (mIf (mOrT (mNotT (mTst (mCallF f_is_rule (mACons (mFz (mVar 2)) mANil)))) (mNotT (mTst (mCallF f_counts_fit (mACons (mFz (mBin fIx (mVar 2) (mC (.int 0)))) (mACons (mFz (mVar 3)) (mACons (mFz (mVar 4)) mANil))))))) (mRet (mC (.bool false))) mNext)
  (mRet (mAll true seqD (mLst (mACons (mFz (mVar 1)) (mAStar (mVar 3) (mAStar (mVar 4) mANil)))) (tName 5) mYes (mCallF f_is_name (mACons (mFz (mVar 5)) mANil)) [5]))))
def f_is_step : SemF := bodyF 6 m_is_step
abbrev s_given_places : Stmt := topS 17
theorem sc_given_places : FnScope ["plan", "step", "place"] ["plan"] (defScope s_given_places) := ⟨rfl, rfl, rfl, by decide +kernel, rfl, by decide +kernel, by decide +kernel⟩
def m_given_places : MS :=
  (mRet (mLc2 (mVar 0) (tName 1) mYes (mBin fIx (mVar 1) (mC (.int 3))) (tName 2) mYes (mVar 2) [1, 2] [2]))
def f_given_places : SemF := bodyF 3 m_given_places
abbrev s_all_unlike : Stmt := topS 18
theorem sc_all_unlike : FnScope ["names"] ["names"] (defScope s_all_unlike) := ⟨rfl, rfl, rfl, by decide +kernel, rfl, by decide +kernel, by decide +kernel⟩
def m_all_unlike : MS :=
  (mRet (mBin fEq (mLenT (mVar 0)) (mCall (f1 fLen) (mACons (mVar 0) mANil))))
def f_all_unlike : SemF := bodyF 1 m_all_unlike
abbrev s_is_plan : Stmt := topS 19
theorem sc_is_plan : FnScope ["plan", "step"] ["plan"] (defScope s_is_plan) := ⟨rfl, rfl, rfl, by decide +kernel, rfl, by decide +kernel, by decide +kernel⟩
def m_is_plan : MS :=
  (mSeq (mIf (mNotT (mTst (mChain fLe fLe (mC (.int 1)) (mCall (f1 fLen) (mACons (mVar 0) mANil)) (mC (.int 20))))) (mRet (mC (.bool false))) mNext)
  (mSeq (mIf (mNotT (mTst (mAll true seqD (mVar 0) (tName 1) mYes (mCallF f_is_step (mACons (mFz (mVar 1)) mANil)) [1]))) (mRet (mC (.bool false))) mNext)
  (mRet (mAndV (mCallF f_all_unlike (mACons (mFz (mLc seqD (mVar 0) (tName 1) mYes (mBin fIx (mVar 1) (mC (.int 0))) [1])) mANil)) (mCallF f_all_unlike (mACons (mFz (mCallF f_given_places (mACons (mFz (mVar 0)) mANil))) mANil))))))
def f_is_plan : SemF := bodyF 2 m_is_plan
abbrev s_shown_row : Stmt := topS 24
theorem sc_shown_row : FnScope ["step", "name", "rule", "needs", "gives", "words", "part"] ["step"] (defScope s_shown_row) := ⟨rfl, rfl, rfl, by decide +kernel, rfl, by decide +kernel, by decide +kernel⟩
def m_shown_row : MS :=
  (mSeq (mUnp (mVar 0) (tTupT 4 (tConsT (tName 1) (tConsT (tName 2) (tConsT (tName 3) (tConsT (tName 4) tNilT))))))
  (mSeq (mAsg (mLst (mACons (mFz (mVar 1)) mANil)) 5)
  (mSeq (mDrop (mExt 5 (mLc seqD (mVar 2) (tName 6) mYes (mCall (f1 fStr) (mACons (mVar 6) mANil)) [6])))
  (mSeq (mDrop (mExt 5 (mLst (mAStar (mVar 3) (mACons (mFz (mC (.str "->"))) (mAStar (mVar 4) mANil))))))
  (mRet (mBin fAdd (mM1 isS fJoin (mC (.str " ")) (mVar 5)) (mC (.str "\n"))))))))
def f_shown_row : SemF := bodyF 7 m_shown_row
abbrev s_shown : Stmt := topS 25
theorem sc_shown : FnScope ["plan", "step"] ["plan"] (defScope s_shown) := ⟨rfl, rfl, rfl, by decide +kernel, rfl, by decide +kernel, by decide +kernel⟩
def m_shown : MS :=
  (mRet (mM1 isS fJoin (mC (.str "")) (mLc seqD (mVar 0) (tName 1) mYes (mCallF f_shown_row (mACons (mFz (mVar 1)) mANil)) [1])))
def f_shown : SemF := bodyF 2 m_shown
abbrev s_is_number : Stmt := topS 26
theorem sc_is_number : FnScope ["word", "sign"] ["word"] (defScope s_is_number) := ⟨rfl, rfl, rfl, by decide +kernel, rfl, by decide +kernel, by decide +kernel⟩
def m_is_number : MS :=
  (mSeq (mIf (mOrT (mNotT (mTst (mChain fLe fLe (mC (.int 1)) (mCall (f1 fLen) (mACons (mVar 0) mANil)) (mC (.int 6))))) (mNotT (mTst (mAll true selS (mVar 0) (tName 1) mYes (mBin fInSg (mVar 1) (mC (.str "0123456789"))) [1])))) (mRet (mC (.bool false))) mNext)
  (mRet (mOrV (mBin fEq (mVar 0) (mC (.str "0"))) (mBin fNe (mBin fIx (mVar 0) (mC (.int 0))) (mC (.str "0"))))))
def f_is_number : SemF := bodyF 2 m_is_number
abbrev s_split_rule : Stmt := topS 27
theorem sc_split_rule : FnScope ["words"] ["words"] (defScope s_split_rule) := ⟨rfl, rfl, rfl, by decide +kernel, rfl, by decide +kernel, by decide +kernel⟩
def m_split_rule : MS :=
  (mSeq (mIf (mTst (mBin fNe (mSl (mVar 0) mNoPart (mPart (mC (.int 1)))) (mLst (mACons (mFz (mC (.str "fixed"))) mANil)))) (mRet (mTup (mACons (mFz (mCall (f1 fTuple) (mACons (mSl (mVar 0) mNoPart (mPart (mC (.int 1)))) mANil))) (mACons (mFz (mSl (mVar 0) (mPart (mC (.int 1))) mNoPart)) mANil)))) mNext)
  (mSeq (mIf (mOrT (mTst (mBin fLt (mCall (f1 fLen) (mACons (mVar 0) mANil)) (mC (.int 2)))) (mNotT (mTst (mCallF f_is_number (mACons (mFz (mBin fIx (mVar 0) (mC (.int 1)))) mANil))))) mNever mNext)
  (mRet (mTup (mACons (mFz (mTup (mACons (mFz (mC (.str "fixed"))) (mACons (mFz (mCall (f1 fIntT) (mACons (mBin fIx (mVar 0) (mC (.int 1))) mANil))) mANil)))) (mACons (mFz (mSl (mVar 0) (mPart (mC (.int 2))) mNoPart)) mANil))))))
def f_split_rule : SemF := bodyF 1 m_split_rule
abbrev s_read_row : Stmt := topS 28
theorem sc_read_row : FnScope ["row", "words", "at", "rule", "needs"] ["row"] (defScope s_read_row) := ⟨rfl, rfl, rfl, by decide +kernel, rfl, by decide +kernel, by decide +kernel⟩
def m_read_row : MS :=
  (mSeq (mAsg (mM1 isS fSplit (mVar 0) (mC (.str " "))) 1)
  (mSeq (mIf (mTst (mBin fNe (mM1 isLst fCntS (mVar 1) (mC (.str "->"))) (mC (.int 1)))) mNever mNext)
  (mSeq (mAsg (mM1 isLst fIdxS (mVar 1) (mC (.str "->"))) 2)
  (mSeq (mUnp (mCallF f_split_rule (mACons (mFz (mSl (mVar 1) (mPart (mC (.int 1))) (mPart (mVar 2)))) mANil)) (tTupT 2 (tConsT (tName 3) (tConsT (tName 4) tNilT))))
  (mRet (mTup (mACons (mFz (mBin fIx (mVar 1) (mC (.int 0)))) (mACons (mFz (mVar 3)) (mACons (mFz (mCall (f1 fTuple) (mACons (mVar 4) mANil))) (mACons (mFz (mCall (f1 fTuple) (mACons (mSl (mVar 1) (mPart (mBin fAdd (mVar 2) (mC (.int 1)))) mNoPart) mANil))) mANil))))))))))
def f_read_row : SemF := bodyF 5 m_read_row
abbrev s_read : Stmt := topS 29
theorem sc_read : FnScope ["text", "rows", "plan", "row"] ["text"] (defScope s_read) := ⟨rfl, rfl, rfl, by decide +kernel, rfl, by decide +kernel, by decide +kernel⟩
def m_read : MS :=
  (mSeq (mAsg (mM1 isS fSplit (mVar 0) (mC (.str "\n"))) 1)
  (mSeq (mIf (mTst (mBin fNe (mBin fIx (mVar 1) (mUn fNeg (mC (.int 1)))) (mC (.str "")))) mNever mNext)
  (mSeq (mAsg (mCall (f1 fTuple) (mACons (mLc seqD (mSl (mVar 1) mNoPart (mPart (mUn fNeg (mC (.int 1))))) (tName 3) mYes (mCallF f_read_row (mACons (mFz (mVar 3)) mANil)) [3]) mANil)) 2)
  (mSeq (mIf (mNotT (mTst (mCallF f_is_plan (mACons (mFz (mVar 2)) mANil)))) mNever mNext)
  (mRet (mVar 2))))))
def f_read : SemF := bodyF 4 m_read
abbrev s_law_cell_at : Stmt := topS 31
theorem sc_law_cell_at : FnScope ["_law_script", "_law_k"] ["_law_script", "_law_k"] (defScope s_law_cell_at) := ⟨rfl, rfl, rfl, by decide +kernel, rfl, by decide +kernel, by decide +kernel⟩
def m_law_cell_at : MS :=
  (mSeq (mIf (mTst (mBin fLt (mVar 1) (mCall (f1 fLen) (mACons (mVar 0) mANil)))) (mRet (mBin fIx (mVar 0) (mVar 1))) mNext)
  (mRet (mC (.int 0))))
def f_law_cell_at : SemF := bodyF 2 m_law_cell_at
abbrev s_law_next : Stmt := topS 32
theorem sc_law_next : FnScope ["_law_pick", "_law_more"] ["_law_pick"] (defScope s_law_next) := ⟨rfl, rfl, rfl, by decide +kernel, rfl, by decide +kernel, by decide +kernel⟩
def m_law_next : MS :=
  (mSeq (mAsg (mBin fMod (mBin fAdd (mBin fMulI (mVar 0) (mC (.int 48271))) (mC (.int 11))) (mC (.int 2147483647))) 1)
  (mRet (mBin fMod (mBin fMulI (mVar 1) (mVar 1)) (mC (.int 2147483629)))))
def f_law_next : SemF := bodyF 2 m_law_next
abbrev s_law_names : Stmt := topS 33
theorem sc_law_names : FnScope ["_law_cell", "_law_some", "_law_k", "_law_size", "_law_place", "_law_found", "_law_sign"] ["_law_cell"] (defScope s_law_names) := ⟨rfl, rfl, rfl, by decide +kernel, rfl, by decide +kernel, by decide +kernel⟩
def m_law_names : MS :=
  (mSeq (mIf (mTst (mBin fEq (mBin fMod (mVar 0) (mC (.int 9))) (mC (.int 8)))) (mSeq (mAsg (mLst (mACons (mFz (mC (.str "sum"))) (mACons (mFz (mC (.str "later"))) (mACons (mFz (mC (.str "way"))) (mACons (mFz (mC (.str "fixed"))) (mACons (mFz (mC (.str "a9"))) (mACons (mFz (mC (.str "b"))) (mACons (mFz (mC (.str "times"))) (mACons (mFz (mC (.str "choose"))) (mACons (mFz (mC (.str "least"))) (mACons (mFz (mC (.str "most"))) (mACons (mFz (mC (.str "z0"))) (mACons (mFz (mC (.str "put"))) mANil))))))))))))) 1)
  (mRet (mLcR1 (mC (.int 24)) (tName 2) mYes (mBin fAdd (mBin fIx (mVar 1) (mBin fMod (mBin fAdd (mBin fDiv (mVar 0) (mC (.int 9))) (mVar 2)) (mC (.int 12)))) (mBin fIx (mLst (mACons (mFz (mC (.str ""))) (mACons (mFz (mC (.str "x"))) mANil))) (mBin fDiv (mVar 2) (mC (.int 12))))) [2]))) mNext)
  (mSeq (mAsg (mBin fAdd (mC (.int 1)) (mBin fMod (mVar 0) (mC (.int 8)))) 3)
  (mSeq (mAsg (mBin fMod (mBin fDiv (mVar 0) (mC (.int 8))) (mVar 3)) 4)
  (mSeq (mAsg (mC (.str "abcdefghijklmnopqrstuvwxyz0123456789")) 1)
  (mSeq (mAsg (mLst mANil) 5)
  (mSeq (mForR1 (mC (.int 24)) (tName 2) (mSeq (mAsg (mBin fIx (mVar 1) (mBin fMod (mBin fAdd (mBin fDiv (mVar 0) (mC (.int 64))) (mVar 2)) (mBin fIx (mLst (mACons (mFz (mC (.int 26))) (mACons (mFz (mC (.int 36))) mANil))) (mCall (f1 fInt) (mACons (mBin fGt (mVar 4) (mC (.int 0))) mANil))))) 6)
  (mDrop (mApp 5 (mBin fAdd (mBin fAdd (mBin fMulS (mC (.str "m")) (mVar 4)) (mVar 6)) (mBin fMulS (mC (.str "m")) (mBin fSub (mBin fSub (mVar 3) (mC (.int 1))) (mVar 4))))))))
  (mRet (mVar 5))))))))
def f_law_names : SemF := bodyF 7 m_law_names
abbrev s_law_value : Stmt := topS 34
theorem sc_law_value : FnScope ["_law_pick"] ["_law_pick"] (defScope s_law_value) := ⟨rfl, rfl, rfl, by decide +kernel, rfl, by decide +kernel, by decide +kernel⟩
def m_law_value : MS :=
  (mSeq (mIf (mTst (mBin fEq (mBin fMod (mVar 0) (mC (.int 4))) (mC (.int 0)))) (mRet (mBin fIx (mLst (mACons (mFz (mC (.int 0))) (mACons (mFz (mC (.int 0))) (mACons (mFz (mC (.int 1))) (mACons (mFz (mC (.int 999999))) mANil))))) (mBin fMod (mBin fDiv (mVar 0) (mC (.int 4))) (mC (.int 4))))) mNext)
  (mSeq (mIf (mTst (mBin fEq (mBin fMod (mVar 0) (mC (.int 4))) (mC (.int 1)))) (mRet (mBin fMod (mBin fDiv (mVar 0) (mC (.int 4))) (mBin fPow (mC (.int 10)) (mC (.int 6))))) mNext)
  (mRet (mBin fMod (mBin fDiv (mVar 0) (mC (.int 4))) (mC (.int 5))))))
def f_law_value : SemF := bodyF 1 m_law_value
abbrev s_law_rule : Stmt := topS 35
theorem sc_law_rule : FnScope ["_law_pick", "_law_way", "_law_word"] ["_law_pick", "_law_way"] (defScope s_law_rule) := ⟨rfl, rfl, rfl, by decide +kernel, rfl, by decide +kernel, by decide +kernel⟩
def m_law_rule : MS :=
  (mSeq (mAsg (mBin fIx (mLst (mACons (mFz (mC (.str "sum"))) (mACons (mFz (mC (.str "times"))) (mACons (mFz (mC (.str "least"))) (mACons (mFz (mC (.str "most"))) (mACons (mFz (mC (.str "fixed"))) (mACons (mFz (mC (.str "later"))) (mACons (mFz (mC (.str "later"))) (mACons (mFz (mC (.str "way"))) (mACons (mFz (mC (.str "choose"))) (mACons (mFz (mC (.str "way"))) (mACons (mFz (mC (.str "choose"))) (mACons (mFz (mC (.str "sum"))) mANil))))))))))))) (mVar 1)) 2)
  (mSeq (mIf (mTst (mBin fEq (mVar 2) (mC (.str "fixed")))) (mRet (mTup (mACons (mFz (mC (.str "fixed"))) (mACons (mFz (mCallF f_law_value (mACons (mFz (mVar 0)) mANil))) mANil)))) mNext)
  (mRet (mTup (mACons (mFz (mVar 2)) mANil)))))
def f_law_rule : SemF := bodyF 3 m_law_rule
abbrev s_law_plan : Stmt := topS 36
theorem sc_law_plan : FnScope ["_law_script", "_law_at", "_law_names_here", "_law_many", "_law_room", "_law_plan_here", "_law_k", "_law_free", "_law_spots", "_law_pick", "_law_rule_here", "_law_more", "_law_needs", "_law_gives", "_law_wanted", "_law_made", "_law_j"] ["_law_script", "_law_at"] (defScope s_law_plan) := ⟨rfl, rfl, rfl, by decide +kernel, rfl, by decide +kernel, by decide +kernel⟩
def m_law_plan : MS :=
  (mSeq (mAsg (mCallF f_law_names (mACons (mFz (mCallF f_law_cell_at (mACons (mFz (mVar 0)) (mACons (mFz (mVar 1)) mANil)))) mANil)) 2)
  (mSeq (mAsg (mBin fIx (mLst (mACons (mFz (mC (.int 1))) (mACons (mFz (mC (.int 2))) (mACons (mFz (mC (.int 3))) (mACons (mFz (mC (.int 4))) (mACons (mFz (mC (.int 6))) (mACons (mFz (mC (.int 8))) mANil))))))) (mBin fMod (mCallF f_law_cell_at (mACons (mFz (mVar 0)) (mACons (mFz (mBin fAdd (mVar 1) (mC (.int 1)))) mANil))) (mC (.int 6)))) 3)
  (mSeq (mIf (mTst (mBin fEq (mBin fMod (mBin fDiv (mCallF f_law_cell_at (mACons (mFz (mVar 0)) (mACons (mFz (mBin fAdd (mVar 1) (mC (.int 1)))) mANil))) (mC (.int 6))) (mC (.int 10))) (mC (.int 1)))) (mAsg (mBin fAdd (mC (.int 9)) (mBin fMod (mBin fDiv (mCallF f_law_cell_at (mACons (mFz (mVar 0)) (mACons (mFz (mBin fAdd (mVar 1) (mC (.int 1)))) mANil))) (mC (.int 60))) (mC (.int 12)))) 3) mNext)
  (mSeq (mAsg (mBin fIx (mLst (mACons (mFz (mC (.int 2))) (mACons (mFz (mC (.int 4))) (mACons (mFz (mC (.int 6))) (mACons (mFz (mC (.int 9))) mANil))))) (mBin fMod (mCallF f_law_cell_at (mACons (mFz (mVar 0)) (mACons (mFz (mBin fAdd (mVar 1) (mC (.int 2)))) mANil))) (mC (.int 4)))) 4)
  (mSeq (mAsg (mLst mANil) 5)
  (mSeq (mAsg (mLcR1 (mCall (f2 fMin2) (mACons (mC (.int 24)) (mACons (mBin fAdd (mVar 4) (mVar 3)) mANil))) (tName 6) mYes (mBin fIx (mVar 2) (mVar 6)) [6]) 7)
  (mSeq (mAsg (mCall (f1 fList) (mACons (mVar 7) mANil)) 8)
  (mSeq (mForR1 (mVar 3) (tName 6) (mSeq (mAsg (mCallF f_law_next (mACons (mFz (mBin fAdd (mCallF f_law_cell_at (mACons (mFz (mVar 0)) (mACons (mFz (mBin fAdd (mBin fAdd (mVar 1) (mC (.int 3))) (mBin fMod (mVar 6) (mC (.int 8))))) mANil))) (mBin fMulI (mC (.int 977)) (mVar 6)))) mANil)) 9)
  (mSeq (mAsg (mCallF f_law_rule (mACons (mFz (mCallF f_law_next (mACons (mFz (mVar 9)) mANil))) (mACons (mFz (mBin fMod (mBin fDiv (mVar 9) (mC (.int 5))) (mC (.int 12)))) mANil))) 10)
  (mSeq (mAsg (mCallF f_law_next (mACons (mFz (mBin fAdd (mVar 9) (mC (.int 1)))) mANil)) 11)
  (mSeq (mAsg (mBin fIx (mLst (mACons (mFz (mBin fAdd (mC (.int 1)) (mBin fMod (mVar 11) (mC (.int 4))))) (mACons (mFz (mC (.int 1))) mANil))) (mCall (f1 fInt) (mACons (mBin fEq (mBin fIx (mVar 10) (mC (.int 0))) (mC (.str "later"))) mANil))) 12)
  (mSeq (mAsg (mGetS [("way", 2), ("choose", 3)] (mBin fIx (mVar 10) (mC (.int 0))) (mVar 12)) 12)
  (mSeq (mAsg (mGetS [("way", 2)] (mBin fIx (mVar 10) (mC (.int 0))) (mBin fIx (mLst (mACons (mFz (mC (.int 1))) (mACons (mFz (mC (.int 1))) (mACons (mFz (mC (.int 1))) (mACons (mFz (mC (.int 2))) (mACons (mFz (mC (.int 3))) mANil)))))) (mBin fMod (mBin fDiv (mVar 11) (mC (.int 4))) (mC (.int 5))))) 13)
  (mSeq (mAsg (mCall (f2 fMin2) (mACons (mVar 13) (mACons (mCall (f1 fLen) (mACons (mVar 7) mANil)) mANil))) 13)
  (mSeq (mIf (mOrT (mTst (mBin fEq (mVar 13) (mC (.int 0)))) (mAndT (mTst (mBin fEq (mBin fIx (mVar 10) (mC (.int 0))) (mC (.str "way")))) (mTst (mBin fLt (mVar 13) (mC (.int 2)))))) (fun s => some (Out.bk s)) mNext)
  (mSeq (mAsg (mLcR1 (mVar 12) (tName 16) mYes (mBin fIx (mVar 8) (mBin fMod (mCallF f_law_next (mACons (mFz (mBin fAdd (mVar 11) (mBin fMulI (mC (.int 7)) (mVar 16)))) mANil)) (mCall (f1 fLen) (mACons (mVar 8) mANil)))) [16]) 14)
  (mSeq (mAsg (mLcR1 (mVar 13) (tName 16) mYes (mPopAt 7 (mBin fMod (mCallF f_law_next (mACons (mFz (mBin fAdd (mBin fAdd (mVar 11) (mBin fMulI (mC (.int 31)) (mVar 16))) (mC (.int 5)))) mANil)) (mCall (f1 fLen) (mACons (mVar 7) mANil)))) [16]) 15)
  (mDrop (mApp 5 (mTup (mACons (mFz (mBin fIx (mVar 2) (mBin fSub (mC (.int 23)) (mVar 6)))) (mACons (mFz (mVar 10)) (mACons (mFz (mCall (f1 fTuple) (mACons (mVar 14) mANil))) (mACons (mFz (mCall (f1 fTuple) (mACons (mVar 15) mANil))) mANil))))))))))))))))))
  (mSeq (mIf (mTst (mBin fEq (mVar 5) (mLst mANil))) (mDrop (mApp 5 (mTup (mACons (mFz (mBin fIx (mVar 2) (mC (.int 0)))) (mACons (mFz (mTup (mACons (mFz (mC (.str "sum"))) mANil))) (mACons (mFz (mTup (mACons (mFz (mBin fIx (mVar 2) (mC (.int 0)))) mANil))) (mACons (mFz (mTup (mACons (mFz (mBin fIx (mVar 2) (mC (.int 1)))) mANil))) mANil))))))) mNext)
  (mRet (mCall (f1 fTuple) (mACons (mVar 5) mANil))))))))))))
def f_law_plan : SemF := bodyF 17 m_law_plan
abbrev s_law_line : Stmt := topS 37
theorem sc_law_line : FnScope ["_law_step", "_law_words", "_law_word"] ["_law_step"] (defScope s_law_line) := ⟨rfl, rfl, rfl, by decide +kernel, rfl, by decide +kernel, by decide +kernel⟩
def m_law_line : MS :=
  (mSeq (mAsg (mCat (mCat (mCat (mCat (mLst (mACons (mFz (mBin fIx (mVar 0) (mC (.int 0)))) mANil)) (mLc seqD (mBin fIx (mVar 0) (mC (.int 1))) (tName 2) mYes (mCall (f1 fStr) (mACons (mVar 2) mANil)) [2])) (mCall (f1 fList) (mACons (mBin fIx (mVar 0) (mC (.int 2))) mANil))) (mLst (mACons (mFz (mC (.str "->"))) mANil))) (mCall (f1 fList) (mACons (mBin fIx (mVar 0) (mC (.int 3))) mANil))) 1)
  (mRet (mM1 isS fJoin (mC (.str " ")) (mVar 1))))
def f_law_line : SemF := bodyF 3 m_law_line
abbrev s_law_text : Stmt := topS 38
theorem sc_law_text : FnScope ["_law_plan_here", "_law_step"] ["_law_plan_here"] (defScope s_law_text) := ⟨rfl, rfl, rfl, by decide +kernel, rfl, by decide +kernel, by decide +kernel⟩
def m_law_text : MS :=
  (mRet (mM1 isS fJoin (mC (.str "")) (mLc seqD (mVar 0) (tName 1) mYes (mBin fAdd (mCallF f_law_line (mACons (mFz (mVar 1)) mANil)) (mC (.str "\n"))) [1])))
def f_law_text : SemF := bodyF 2 m_law_text
abbrev s_law_same : Stmt := topS 39
theorem sc_law_same : FnScope ["_law_found", "_law_due", "_law_k"] ["_law_found", "_law_due"] (defScope s_law_same) := ⟨rfl, rfl, rfl, by decide +kernel, rfl, by decide +kernel, by decide +kernel⟩
def m_law_same (g : SemF) : MS :=
  (mSeq (mIf (mTst (mUn (fIsi "tuple") (mVar 1))) (mSeq (mIf (mOrT (mNotT (mTst (mUn (fIsi "tuple") (mVar 0)))) (mTst (mBin fNe (mCall (f1 fLen) (mACons (mVar 0) mANil)) (mCall (f1 fLen) (mACons (mVar 1) mANil))))) (mRet (mC (.bool false))) mNext)
  (mRet (mBin fEq (mCall (f1 fLen) (mACons (mLcR1 (mCall (f1 fLen) (mACons (mVar 1) mANil)) (tName 2) (mNotT (mTst (mCallF g (mACons (mFz (mBin fIx (mVar 0) (mVar 2))) (mACons (mFz (mBin fIx (mVar 1) (mVar 2))) mANil))))) (mVar 2) [2]) mANil)) (mC (.int 0))))) mNext)
  (mSeq (mIf (mTst (mUn (fIsi "str") (mVar 1))) (mRet (mAndV (mUn (fIsi "str") (mVar 0)) (mBin fEq (mVar 0) (mVar 1)))) mNext)
  (mRet (mAndV (mUn (fIsi "int") (mVar 0)) (mAndV (mNotV (mUn (fIsi "bool") (mVar 0))) (mBin fEq (mVar 0) (mVar 1)))))))
def f_law_same0 : SemF := bodyF 3 (m_law_same fun _ => none)
def f_law_same1 : SemF := bodyF 3 (m_law_same f_law_same0)
def f_law_same2 : SemF := bodyF 3 (m_law_same f_law_same1)
def f_law_same : SemF := bodyF 3 (m_law_same f_law_same2)
abbrev s_law : Stmt := topS 40
theorem sc_law : FnScope ["_law_script", "_law_plan_here", "_law_due", "_law_turn", "_law_found", "_law_told"] ["_law_script"] (defScope s_law) := ⟨rfl, rfl, rfl, by decide +kernel, rfl, by decide +kernel, by decide +kernel⟩
def m_law : MS :=
  (mSeq (mAsg (mCallF f_law_plan (mACons (mFz (mVar 0)) (mACons (mFz (mC (.int 0))) mANil))) 1)
  (mSeq (mAsg (mCallF f_law_text (mACons (mFz (mVar 1)) mANil)) 2)
  (mSeq (mForR1 (mC (.int 2)) (tName 3) (mSeq (mAsg (mCallF f_shown (mACons (mFz (mVar 1)) mANil)) 4)
  (mSeq (mIf (mOrT (mNotT (mTst (mUn (fIsi "str") (mVar 4)))) (mTst (mBin fNe (mVar 4) (mVar 2)))) (mRet (mC (.bool false))) mNext)
  (mSeq (mAsg (mCallF f_read (mACons (mFz (mVar 2)) mANil)) 5)
  (mSeq (mIf (mNotT (mTst (mCallF f_law_same (mACons (mFz (mVar 5)) (mACons (mFz (mVar 1)) mANil))))) (mRet (mC (.bool false))) mNext)
  (mSeq (mIf (mNotT (mTst (mCallF f_law_same (mACons (mFz (mCallF f_read (mACons (mFz (mC (.str "one fixed 7 a -> b d\n"))) mANil))) (mACons (mFz (mTup (mACons (mFz (mTup (mACons (mFz (mC (.str "one"))) (mACons (mFz (mTup (mACons (mFz (mC (.str "fixed"))) (mACons (mFz (mC (.int 7))) mANil)))) (mACons (mFz (mTup (mACons (mFz (mC (.str "a"))) mANil))) (mACons (mFz (mTup (mACons (mFz (mC (.str "b"))) (mACons (mFz (mC (.str "d"))) mANil)))) mANil)))))) mANil))) mANil))))) (mRet (mC (.bool false))) mNext)
  (mIf (mTst (mBin fNe (mCallF f_shown (mACons (mFz (mTup (mACons (mFz (mTup (mACons (mFz (mC (.str "add"))) (mACons (mFz (mTup (mACons (mFz (mC (.str "sum"))) mANil))) (mACons (mFz (mTup (mACons (mFz (mC (.str "a"))) (mACons (mFz (mC (.str "b"))) mANil)))) (mACons (mFz (mTup (mACons (mFz (mC (.str "c"))) mANil))) mANil)))))) mANil))) mANil)) (mC (.str "add sum a b -> c\n")))) (mRet (mC (.bool false))) mNext)))))))
  (mRet (mC (.bool true))))))
def f_law : SemF := bodyF 6 m_law
end K12
-- K12b.lean
set_option Elab.async false
set_option linter.all false
set_option maxRecDepth 100000
set_option maxHeartbeats 4000000
namespace K12
open PySem L2 Sh
structure Txt (K : PySem.W.Frag) (w : World) (mg : Str → Option Value) : Prop where
  b_all : mg "all" = none
  b_bool : mg "bool" = none
  b_int : mg "int" = none
  b_isinstance : mg "isinstance" = none
  b_len : mg "len" = none
  b_list : mg "list" = none
  b_min : mg "min" = none
  b_range : mg "range" = none
  b_set : mg "set" = none
  b_str : mg "str" = none
  b_tuple : mg "tuple" = none
  c_ARROW : ∃ t, mg "ARROW" = some (.str "->" t)
  c_FIGURES : ∃ t, mg "FIGURES" = some (.str "0123456789" t)
  c_LETTERS : ∃ t, mg "LETTERS" = some (.str "abcdefghijklmnopqrstuvwxyz" t)
  c_LETTERS_AND_FIGURES : ∃ t, mg "LETTERS_AND_FIGURES" = some (.str "abcdefghijklmnopqrstuvwxyz0123456789" t)
  c_MILLION : ∃ t, mg "MILLION" = some (.int 1000000 t)
  c_MOST_FIGURES : ∃ t, mg "MOST_FIGURES" = some (.int 6 t)
  c_MOST_SIGNS : ∃ t, mg "MOST_SIGNS" = some (.int 8 t)
  c_MOST_STEPS : ∃ t, mg "MOST_STEPS" = some (.int 20 t)
  k_COUNTS : KdAt K w mg "COUNTS" kd_COUNTS
section
variable {P : Program} {w : World} {K : PySem.W.Frag} {mg : Str → Option Value} {base : Heap} {c : Cfg K}
theorem ok_is_whole {f : Addr} {fd : FuncData} (F : Fun K "is_whole" "is_whole" s_is_whole f fd) (Z : Txt K w mg) : FnOk P w K mg base CX0 1 f fd ["thing"] (spF c 1 f_is_whole) :=
  fn_sem (m := m_is_whole) F sc_is_whole rfl rfl (fun cdv A outer s H E hr =>
    (shs_one (shs_ret (she_and (L2.PE.imp (pe_callB call_isi (by rfl) Z.b_isinstance bb_isinstance (pa_cons (she_var 0 (pv 0)) (pa_cons (pe_bltn (v := .ty "int") (by rfl) Z.b_int bb_int rfl) pa_nil))) (fun _ _ _ h => lift_isi h)) (she_one (she_not (L2.PE.imp (pe_callB call_isi (by rfl) Z.b_isinstance bb_isinstance (pa_cons (she_var 0 (pv 0)) (pa_cons (pe_bltn (v := .ty "bool") (by rfl) Z.b_bool bb_bool rfl) pa_nil))) (fun _ _ _ h => lift_isi h))))))))
theorem ok_is_value {f : Addr} {fd : FuncData} (F : Fun K "is_value" "is_value" s_is_value f fd) (Z : Txt K w mg) (G_is_whole : Fn P w K mg base c 1 "is_whole" 1 f_is_whole) : FnOk P w K mg base CX0 2 f fd ["thing"] (spF c 1 f_is_value) :=
  fn_sem (m := m_is_value) F sc_is_value rfl rfl (fun cdv A outer s H E hr =>
    (shs_one (shs_ret (she_and (she_call (G_is_whole.mono (by decide)) hr (by rfl) (sha_cons (she_fz (she_var 0 (pv 0))) sha_nil) (len_cons len_nil)) (she_one (she_chain op_le op_lt sem_le sem_lt hint_fLe she_int (she_var 0 (pv 0)) (she_c (d := .int 1000000) (pe_glob (v := V.int 1000000) rfl Z.c_MILLION.choose_spec ⟨_, rfl⟩) (fun _ => .int _)) (nomark _) (nomark _) (pe_chain op_le op_lt she_int (she_var 0 (pv 0)) (she_c (d := .int 1000000) (pe_glob (v := V.int 1000000) rfl Z.c_MILLION.choose_spec ⟨_, rfl⟩) (fun _ => .int _)))))))))
theorem ok_is_name {f : Addr} {fd : FuncData} (F : Fun K "is_name" "is_name" s_is_name f fd) (Z : Txt K w mg) {cc P0 : Addr} (hcc : fd.code = .ref cc) (TB : GxR.TabB base mg cc P0) (hP : P0 ∈ c.T) : FnOk P w K mg base CX0 2 f fd ["text"] (spF c 1 f_is_name) :=
  fn_semG (m := m_is_name) cc F hcc sc_is_name rfl rfl (fun A outer s H E hr =>
    (shs_cons (shs_if (sht_not (sht_chain op_le op_le sem_le sem_le hint_fLe she_int (L2.PE.imp (pe_callB call_lenA (by rfl) Z.b_len bb_len (sha_cons (she_var 0 (pv 0)) sha_nil)) (fun _ _ _ h => lift_call sem_len h)) (she_c (d := .int 8) (pe_glob (v := V.int 8) rfl Z.c_MOST_SIGNS.choose_spec ⟨_, rfl⟩) (fun _ => .int _)))) (shs_one (shs_ret she_bl)) shs_nil)
    (shs_one (shs_ret (she_and (she_cmp op_in_sign sem_insg (she_ix ix_all sem_ix (she_var 0 (pv 0)) she_int (fun _ _ => rfl)) (she_c (d := .str "abcdefghijklmnopqrstuvwxyz") (pe_glob (v := V.str "abcdefghijklmnopqrstuvwxyz") rfl Z.c_LETTERS.choose_spec ⟨_, rfl⟩) (fun _ => .str _)) (by rfl)) (she_one (she_allT (own := [("sign", 1)]) (Sh.GenAt.mk hr TB rfl) hP (by rfl) Z.b_all bb_all rfl sc_is_name.nd (she_var 0 (pv 0)) (genOk_by (own := [("sign", 1)]) (N := ["text", "sign"]) (sc := defScope s_is_name) (by decide +kernel)) (fun _ _ _ _ _ _ => (pg_name (i := 1) sc_is_name.nd rfl (Or.inl rfl))) (tgc_name 1) (by decide) (fun _ _ _ _ _ _ => shts_nil) (fun _ _ _ _ _ _ => (she_cmp op_in_sign sem_insg (she_var 1 (pv 1)) (she_c (d := .str "abcdefghijklmnopqrstuvwxyz0123456789") (pe_glob (v := V.str "abcdefghijklmnopqrstuvwxyz0123456789") rfl Z.c_LETTERS_AND_FIGURES.choose_spec ⟨_, rfl⟩) (fun _ => .str _)) (by rfl))))))))))
theorem ok_is_rule {f : Addr} {fd : FuncData} (F : Fun K "is_rule" "is_rule" s_is_rule f fd) (Z : Txt K w mg) (G_is_value : Fn P w K mg base c 2 "is_value" 1 f_is_value) : FnOk P w K mg base CX0 3 f fd ["rule"] (spF c 1 f_is_rule) :=
  fn_sem (m := m_is_rule) F sc_is_rule rfl rfl (fun cdv A outer s H E hr =>
    (shs_cons (shs_if (sht_cmp (op_eqA hr.units) sem_eq (L2.PE.imp (pe_callB call_lenA (by rfl) Z.b_len bb_len (sha_cons (she_var 0 (pv 0)) sha_nil)) (fun _ _ _ h => lift_call sem_len h)) she_int (nomark _)) (shs_one (shs_ret (she_and (she_cmp (op_eqA hr.units) sem_eq (she_ix ix_all sem_ix (she_var 0 (pv 0)) she_int (fun _ _ => rfl)) she_str (nomark _)) (she_one (she_call (G_is_value.mono (by decide)) hr (by rfl) (sha_cons (she_fz (she_ix ix_all sem_ix (she_var 0 (pv 0)) she_int (fun _ _ => rfl))) sha_nil) (len_cons len_nil)))))) shs_nil)
    (shs_one (shs_ret (she_and (she_cmp (op_eqA hr.units) sem_eq (L2.PE.imp (pe_callB call_lenA (by rfl) Z.b_len bb_len (sha_cons (she_var 0 (pv 0)) sha_nil)) (fun _ _ _ h => lift_call sem_len h)) she_int (nomark _)) (she_and (she_kdin Z.k_COUNTS (by rfl) (she_ix ix_all sem_ix (she_var 0 (pv 0)) she_int (fun _ _ => rfl))) (she_one (she_cmp (op_neA hr.units) sem_ne (she_ix ix_all sem_ix (she_var 0 (pv 0)) she_int (fun _ _ => rfl)) she_str (nomark _)))))))))
theorem ok_counts_fit {f : Addr} {fd : FuncData} (F : Fun K "counts_fit" "counts_fit" s_counts_fit f fd) (Z : Txt K w mg) : FnOk P w K mg base CX0 1 f fd ["word", "needs", "gives"] (spF c 3 f_counts_fit) :=
  fn_sem (m := m_counts_fit) F sc_counts_fit rfl rfl (fun cdv A outer s H E hr =>
    (shs_cons (L2.PS.imp (ps_asg (she_fz (she_kdat Z.k_COUNTS (by rfl) (she_var 0 (pv 0)) (fun _ _ => rfl))) (pg_tup rfl (pgs_cons (pg_name (i := 3) sc_counts_fit.nd rfl (Or.inl rfl)) (pgs_cons (pg_name (i := 4) sc_counts_fit.nd rfl (Or.inl rfl)) (pgs_cons (pg_name (i := 5) sc_counts_fit.nd rfl (Or.inl rfl)) (pgs_cons (pg_name (i := 6) sc_counts_fit.nd rfl (Or.inl rfl)) pgs_nil)))))) (fun _ _ _ h => lift_unp (tgt_tup (tgts_cons 3 (tgts_cons 4 (tgts_cons 5 (tgts_cons 6 tgts_nil))))) h))
    (shs_one (shs_ret (she_and (she_chain op_le op_le sem_le sem_le hint_fLe (she_var 3 (pv 3)) (L2.PE.imp (pe_callB call_lenA (by rfl) Z.b_len bb_len (sha_cons (she_var 1 (pv 1)) sha_nil)) (fun _ _ _ h => lift_call sem_len h)) (she_var 4 (pv 4)) (nomark _) (nomark _) (pe_chain op_le op_le (she_var 3 (pv 3)) (L2.PE.imp (pe_callB call_lenA (by rfl) Z.b_len bb_len (sha_cons (she_var 1 (pv 1)) sha_nil)) (fun _ _ _ h => lift_call sem_len h)) (she_var 4 (pv 4)))) (she_one (she_chain op_le op_le sem_le sem_le hint_fLe (she_var 5 (pv 5)) (L2.PE.imp (pe_callB call_lenA (by rfl) Z.b_len bb_len (sha_cons (she_var 2 (pv 2)) sha_nil)) (fun _ _ _ h => lift_call sem_len h)) (she_var 6 (pv 6)) (nomark _) (nomark _) (pe_chain op_le op_le (she_var 5 (pv 5)) (L2.PE.imp (pe_callB call_lenA (by rfl) Z.b_len bb_len (sha_cons (she_var 2 (pv 2)) sha_nil)) (fun _ _ _ h => lift_call sem_len h)) (she_var 6 (pv 6))))))))))
theorem ok_is_step {f : Addr} {fd : FuncData} (F : Fun K "is_step" "is_step" s_is_step f fd) (Z : Txt K w mg) (G_counts_fit : Fn P w K mg base c 1 "counts_fit" 3 f_counts_fit) (G_is_name : Fn P w K mg base c 2 "is_name" 1 f_is_name) (G_is_rule : Fn P w K mg base c 3 "is_rule" 1 f_is_rule) {cc P0 : Addr} (hcc : fd.code = .ref cc) (TB : GxR.TabB base mg cc P0) (hP : P0 ∈ c.T) : FnOk P w K mg base CX0 4 f fd ["step"] (spF c 1 f_is_step) :=
  fn_semG (m := m_is_step) cc F hcc sc_is_step rfl rfl (fun A outer s H E hr =>
    (shs_cons (L2.PS.imp (ps_asg (she_fz (she_var 0 (pv 0))) (pg_tup rfl (pgs_cons (pg_name (i := 1) sc_is_step.nd rfl (Or.inl rfl)) (pgs_cons (pg_name (i := 2) sc_is_step.nd rfl (Or.inl rfl)) (pgs_cons (pg_name (i := 3) sc_is_step.nd rfl (Or.inl rfl)) (pgs_cons (pg_name (i := 4) sc_is_step.nd rfl (Or.inl rfl)) pgs_nil)))))) (fun _ _ _ h => lift_unp (tgt_tup (tgts_cons 1 (tgts_cons 2 (tgts_cons 3 (tgts_cons 4 tgts_nil))))) h))
    (shs_cons (shs_if (PW.pt (shw_or (sht_not (sht_val (she_call (G_is_rule.mono (by decide)) hr (by rfl) (sha_cons (she_fz (she_var 2 (pv 2))) sha_nil) (len_cons len_nil)))) (shw_or1 (sht_not (sht_val (she_call (G_counts_fit.mono (by decide)) hr (by rfl) (sha_cons (she_fz (she_ix ix_all sem_ix (she_var 2 (pv 2)) she_int (fun _ _ => rfl))) (sha_cons (she_fz (she_var 3 (pv 3))) (sha_cons (she_fz (she_var 4 (pv 4))) sha_nil))) (len_cons (len_cons (len_cons len_nil))))))))) (shs_one (shs_ret she_bl)) shs_nil)
    (shs_one (shs_ret (she_allS (own := [("text", 5)]) (Sh.GenAt.mk hr TB rfl) hP (by rfl) Z.b_all bb_all rfl sc_is_step.nd (she_lst (sha_cons (she_fz (she_var 1 (pv 1))) (sha_star (she_var 3 (pv 3)) (sha_star (she_var 4 (pv 4)) sha_nil)))) (genOk_by (own := [("text", 5)]) (N := ["step", "name", "rule", "needs", "gives", "text"]) (sc := defScope s_is_step) (by decide +kernel)) (fun _ _ _ _ _ _ => (pg_name (i := 5) sc_is_step.nd rfl (Or.inl rfl))) (tgc_name 5) (by decide) (fun _ _ _ _ _ _ => shts_nil) (fun _ _ _ _ _ _ => (she_call (G_is_name.mono (by decide)) (L2.Room.gen hr _) (by rfl) (sha_cons (she_fz (she_var 5 (pv 5))) sha_nil) (len_cons len_nil)))))))))
theorem ok_given_places {f : Addr} {fd : FuncData} (F : Fun K "given_places" "given_places" s_given_places f fd) (Z : Txt K w mg) : FnOk P w K mg base CX0 1 f fd ["plan"] (spF c 1 f_given_places) :=
  fn_sem (m := m_given_places) F sc_given_places rfl rfl (fun cdv A outer s H E hr =>
    (shs_one (shs_ret (she_lc2 (own := [("step", 1), ("place", 2)]) (vs1 := [2]) rfl sc_given_places.nd (she_var 0 (pv 0)) (blkOk_by (own := [("step", 1), ("place", 2)]) (N := ["plan", "step", "place"]) (sc := defScope s_given_places) (by decide +kernel)) (by decide) (fun _ _ _ _ _ => (pg_name (i := 1) sc_given_places.nd rfl (Or.inl rfl))) (tgc_name 1) (by decide) (fun _ _ _ _ _ => shts_nil) (fun _ _ _ _ _ => (she_ix ix_all sem_ix (she_var 1 (pv 1)) she_int (fun _ _ => rfl))) (fun _ _ _ _ _ => (pg_name (i := 2) sc_given_places.nd rfl (Or.inl rfl))) (tgc_name 2) (by decide) (fun _ _ _ _ _ => shts_nil) (fun _ _ _ _ _ => (she_var 2 (pv 2)))))))
theorem ok_all_unlike {f : Addr} {fd : FuncData} (F : Fun K "all_unlike" "all_unlike" s_all_unlike f fd) (Z : Txt K w mg) : FnOk P w K mg base CX0 1 f fd ["names"] (spF c 1 f_all_unlike) :=
  fn_sem (m := m_all_unlike) F sc_all_unlike rfl rfl (fun cdv A outer s H E hr =>
    (shs_one (shs_ret (she_cmp (op_eqA hr.units) sem_eq (she_lenT (by rfl) Z.b_len (by rfl) Z.b_set (she_var 0 (pv 0))) (L2.PE.imp (pe_callB call_lenA (by rfl) Z.b_len bb_len (sha_cons (she_var 0 (pv 0)) sha_nil)) (fun _ _ _ h => lift_call sem_len h)) (nomark _)))))
theorem ok_is_plan {f : Addr} {fd : FuncData} (F : Fun K "is_plan" "is_plan" s_is_plan f fd) (Z : Txt K w mg) (G_all_unlike : Fn P w K mg base c 1 "all_unlike" 1 f_all_unlike) (G_given_places : Fn P w K mg base c 1 "given_places" 1 f_given_places) (G_is_step : Fn P w K mg base c 4 "is_step" 1 f_is_step) {cc P0 : Addr} (hcc : fd.code = .ref cc) (TB : GxR.TabB base mg cc P0) (hP : P0 ∈ c.T) : FnOk P w K mg base CX0 6 f fd ["plan"] (spF c 1 f_is_plan) :=
  fn_semG (m := m_is_plan) cc F hcc sc_is_plan rfl rfl (fun A outer s H E hr =>
    (shs_cons (shs_if (sht_not (sht_chain op_le op_le sem_le sem_le hint_fLe she_int (L2.PE.imp (pe_callB call_lenA (by rfl) Z.b_len bb_len (sha_cons (she_var 0 (pv 0)) sha_nil)) (fun _ _ _ h => lift_call sem_len h)) (she_c (d := .int 20) (pe_glob (v := V.int 20) rfl Z.c_MOST_STEPS.choose_spec ⟨_, rfl⟩) (fun _ => .int _)))) (shs_one (shs_ret she_bl)) shs_nil)
    (shs_cons (shs_if (sht_not (sht_val (she_allS (own := [("step", 1)]) (Sh.GenAt.mk hr TB rfl) hP (by rfl) Z.b_all bb_all rfl sc_is_plan.nd (she_var 0 (pv 0)) (genOk_by (own := [("step", 1)]) (N := ["plan", "step"]) (sc := defScope s_is_plan) (by decide +kernel)) (fun _ _ _ _ _ _ => (pg_name (i := 1) sc_is_plan.nd rfl (Or.inl rfl))) (tgc_name 1) (by decide) (fun _ _ _ _ _ _ => shts_nil) (fun _ _ _ _ _ _ => (she_call (G_is_step.mono (by decide)) (L2.Room.gen hr _) (by rfl) (sha_cons (she_fz (she_var 1 (pv 1))) sha_nil) (len_cons len_nil)))))) (shs_one (shs_ret she_bl)) shs_nil)
    (shs_one (shs_ret (she_and (she_call (G_all_unlike.mono (by decide)) hr (by rfl) (sha_cons (she_fz (L2.PE.imp (pe_lc (own := [("step", 1)]) rfl sc_is_plan.nd (pi_seq (she_fz (she_var 0 (pv 0)))) (blkOk_by (own := [("step", 1)]) (N := ["plan", "step"]) (sc := defScope s_is_plan) (by decide +kernel)) (fun _ _ _ _ _ => (pg_name (i := 1) sc_is_plan.nd rfl (Or.inl rfl))) (fun _ _ _ _ _ => shts_nil) (fun _ _ _ _ _ => she_fz (she_ix ix_all sem_ix (she_var 1 (pv 1)) she_int (fun _ _ => rfl)))) (fun _ _ _ h => lift_lcS (tgc_name 1) (by decide) h))) sha_nil) (len_cons len_nil)) (she_one (she_call (G_all_unlike.mono (by decide)) hr (by rfl) (sha_cons (she_fz (she_call (G_given_places.mono (by decide)) hr (by rfl) (sha_cons (she_fz (she_var 0 (pv 0))) sha_nil) (len_cons len_nil))) sha_nil) (len_cons len_nil)))))))))
theorem ok_shown_row {f : Addr} {fd : FuncData} (F : Fun K "shown_row" "shown_row" s_shown_row f fd) (Z : Txt K w mg) : FnOk P w K mg base CX0 1 f fd ["step"] (spF c 1 f_shown_row) :=
  fn_sem (m := m_shown_row) F sc_shown_row rfl rfl (fun cdv A outer s H E hr =>
    (shs_cons (L2.PS.imp (ps_asg (she_fz (she_var 0 (pv 0))) (pg_tup rfl (pgs_cons (pg_name (i := 1) sc_shown_row.nd rfl (Or.inl rfl)) (pgs_cons (pg_name (i := 2) sc_shown_row.nd rfl (Or.inl rfl)) (pgs_cons (pg_name (i := 3) sc_shown_row.nd rfl (Or.inl rfl)) (pgs_cons (pg_name (i := 4) sc_shown_row.nd rfl (Or.inl rfl)) pgs_nil)))))) (fun _ _ _ h => lift_unp (tgt_tup (tgts_cons 1 (tgts_cons 2 (tgts_cons 3 (tgts_cons 4 tgts_nil))))) h))
    (shs_cons (shs_set (i := 5) sc_shown_row.nd rfl (Or.inl rfl) (she_lst (sha_cons (she_fz (she_var 1 (pv 1))) sha_nil)))
    (shs_cons (shs_expr (L2.PE.imp (pe_bm PySem.F.plainAttrs_list PySem.F.slot_list_extend PySem.F.type_list_extend mt_extA (pv 5) (pa_cons (she_fz (L2.PE.imp (pe_lc (own := [("part", 6)]) rfl sc_shown_row.nd (pi_seq (she_fz (she_var 2 (pv 2)))) (blkOk_by (own := [("part", 6)]) (N := ["step", "name", "rule", "needs", "gives", "words", "part"]) (sc := defScope s_shown_row) (by decide +kernel)) (fun _ _ _ _ _ => (pg_name (i := 6) sc_shown_row.nd rfl (Or.inl rfl))) (fun _ _ _ _ _ => shts_nil) (fun _ _ _ _ _ => she_fz (L2.PE.imp (pe_callTy (CallR.or call_str_int SkE.call_str_str) (by rfl) Z.b_str bb_str (sha_cons (she_var 6 (pv 6)) sha_nil)) (fun _ _ _ h => lift_call sem_str h)))) (fun _ _ _ h => lift_lcS (tgc_name 6) (by decide) h))) pa_nil)) (fun _ _ _ h => lift_ext h)))
    (shs_cons (shs_expr (L2.PE.imp (pe_bm PySem.F.plainAttrs_list PySem.F.slot_list_extend PySem.F.type_list_extend mt_extA (pv 5) (pa_cons (she_fz (she_lst (sha_star (she_var 3 (pv 3)) (sha_cons (she_fz (she_c (d := .str "->") (pe_glob (v := V.str "->") rfl Z.c_ARROW.choose_spec ⟨_, rfl⟩) (fun _ => .str _))) (sha_star (she_var 4 (pv 4)) sha_nil))))) pa_nil)) (fun _ _ _ h => lift_ext h)))
    (shs_one (shs_ret (she_op op_addU sem_add (she_join she_str (she_var 5 (pv 5))) she_str))))))))
theorem ok_shown {f : Addr} {fd : FuncData} (F : Fun K "shown" "shown" s_shown f fd) (Z : Txt K w mg) (G_shown_row : Fn P w K mg base c 1 "shown_row" 1 f_shown_row) : FnOk P w K mg base CX0 2 f fd ["plan"] (spF c 1 f_shown) :=
  fn_sem (m := m_shown) F sc_shown rfl rfl (fun cdv A outer s H E hr =>
    (shs_one (shs_ret (she_join she_str (L2.PE.imp (pe_lc (own := [("step", 1)]) rfl sc_shown.nd (pi_seq (she_fz (she_var 0 (pv 0)))) (blkOk_by (own := [("step", 1)]) (N := ["plan", "step"]) (sc := defScope s_shown) (by decide +kernel)) (fun _ _ _ _ _ => (pg_name (i := 1) sc_shown.nd rfl (Or.inl rfl))) (fun _ _ _ _ _ => shts_nil) (fun _ _ _ _ _ => she_fz (she_call (G_shown_row.mono (by decide)) hr (by rfl) (sha_cons (she_fz (she_var 1 (pv 1))) sha_nil) (len_cons len_nil)))) (fun _ _ _ h => lift_lcS (tgc_name 1) (by decide) h))))))
theorem ok_is_number {f : Addr} {fd : FuncData} (F : Fun K "is_number" "is_number" s_is_number f fd) (Z : Txt K w mg) {cc P0 : Addr} (hcc : fd.code = .ref cc) (TB : GxR.TabB base mg cc P0) (hP : P0 ∈ c.T) : FnOk P w K mg base CX0 2 f fd ["word"] (spF c 1 f_is_number) :=
  fn_semG (m := m_is_number) cc F hcc sc_is_number rfl rfl (fun A outer s H E hr =>
    (shs_cons (shs_if (PW.pt (shw_or (sht_not (sht_chain op_le op_le sem_le sem_le hint_fLe she_int (L2.PE.imp (pe_callB call_lenA (by rfl) Z.b_len bb_len (sha_cons (she_var 0 (pv 0)) sha_nil)) (fun _ _ _ h => lift_call sem_len h)) (she_c (d := .int 6) (pe_glob (v := V.int 6) rfl Z.c_MOST_FIGURES.choose_spec ⟨_, rfl⟩) (fun _ => .int _)))) (shw_or1 (sht_not (sht_val (she_allT (own := [("sign", 1)]) (Sh.GenAt.mk hr TB rfl) hP (by rfl) Z.b_all bb_all rfl sc_is_number.nd (she_var 0 (pv 0)) (genOk_by (own := [("sign", 1)]) (N := ["word", "sign"]) (sc := defScope s_is_number) (by decide +kernel)) (fun _ _ _ _ _ _ => (pg_name (i := 1) sc_is_number.nd rfl (Or.inl rfl))) (tgc_name 1) (by decide) (fun _ _ _ _ _ _ => shts_nil) (fun _ _ _ _ _ _ => (she_cmp op_in_sign sem_insg (she_var 1 (pv 1)) (she_c (d := .str "0123456789") (pe_glob (v := V.str "0123456789") rfl Z.c_FIGURES.choose_spec ⟨_, rfl⟩) (fun _ => .str _)) (by rfl))))))))) (shs_one (shs_ret she_bl)) shs_nil)
    (shs_one (shs_ret (she_or (she_cmp (op_eqA hr.units) sem_eq (she_var 0 (pv 0)) she_str (nomark _)) (she_one (she_cmp (op_neA hr.units) sem_ne (she_ix ix_all sem_ix (she_var 0 (pv 0)) she_int (fun _ _ => rfl)) she_str (nomark _))))))))
theorem ok_split_rule {f : Addr} {fd : FuncData} (F : Fun K "split_rule" "split_rule" s_split_rule f fd) (Z : Txt K w mg) (G_is_number : Fn P w K mg base c 2 "is_number" 1 f_is_number) : FnOk P w K mg base CX0 3 f fd ["words"] (spF c 1 f_split_rule) :=
  fn_sem (m := m_split_rule) F sc_split_rule rfl rfl (fun cdv A outer s H E hr =>
    (shs_cons (shs_if (sht_cmp (op_neA hr.units) sem_ne (she_sl (she_var 0 (pv 0)) sho_none (sho_some she_int)) (she_lst (sha_cons (she_fz she_str) sha_nil)) (nomark _)) (shs_one (shs_ret (she_tup (sha_cons (she_fz (L2.PE.imp (pe_callTy call_tuple_of (by rfl) Z.b_tuple bb_tuple (sha_cons (she_sl (she_var 0 (pv 0)) sho_none (sho_some she_int)) sha_nil)) (fun _ _ _ h => lift_call sem_tuple h))) (sha_cons (she_fz (she_sl (she_var 0 (pv 0)) (sho_some she_int) sho_none)) sha_nil))))) shs_nil)
    (shs_cons (shs_if (PW.pt (shw_or (sht_cmp op_lt sem_lt (L2.PE.imp (pe_callB call_lenA (by rfl) Z.b_len bb_len (sha_cons (she_var 0 (pv 0)) sha_nil)) (fun _ _ _ h => lift_call sem_len h)) she_int (nomark _)) (shw_or1 (sht_not (sht_val (she_call (G_is_number.mono (by decide)) hr (by rfl) (sha_cons (she_fz (she_ix ix_all sem_ix (she_var 0 (pv 0)) she_int (fun _ _ => rfl))) sha_nil) (len_cons len_nil))))))) (shs_one shs_never) shs_nil)
    (shs_one (shs_ret (she_tup (sha_cons (she_fz (she_tup (sha_cons (she_fz she_str) (sha_cons (she_fz (L2.PE.imp (pe_callTy call_int_str (by rfl) Z.b_int bb_int (sha_cons (she_ix ix_all sem_ix (she_var 0 (pv 0)) she_int (fun _ _ => rfl)) sha_nil)) (fun _ _ _ h => lift_call sem_intT h))) sha_nil)))) (sha_cons (she_fz (she_sl (she_var 0 (pv 0)) (sho_some she_int) sho_none)) sha_nil))))))))
theorem ok_read_row {f : Addr} {fd : FuncData} (F : Fun K "read_row" "read_row" s_read_row f fd) (Z : Txt K w mg) (G_split_rule : Fn P w K mg base c 3 "split_rule" 1 f_split_rule) : FnOk P w K mg base CX0 4 f fd ["row"] (spF c 1 f_read_row) :=
  fn_sem (m := m_read_row) F sc_read_row rfl rfl (fun cdv A outer s H E hr =>
    (shs_cons (shs_set (i := 1) sc_read_row.nd rfl (Or.inl rfl) (she_split (she_var 0 (pv 0)) she_str))
    (shs_cons (shs_if (sht_cmp (op_neA hr.units) sem_ne (L2.PE.imp (pe_bm PySem.F.plainAttrs_list PySem.F.slot_list_count PySem.F.type_list_count mt_lcountS (she_var 1 (pv 1)) (pa_cons (she_c (d := .str "->") (pe_glob (v := V.str "->") rfl Z.c_ARROW.choose_spec ⟨_, rfl⟩) (fun _ => .str _)) pa_nil)) (fun _ _ _ h => lift_bm1 sem_cntS h)) she_int (nomark _)) (shs_one shs_never) shs_nil)
    (shs_cons (shs_set (i := 2) sc_read_row.nd rfl (Or.inl rfl) (L2.PE.imp (pe_bm PySem.F.plainAttrs_list PySem.F.slot_list_index PySem.F.type_list_index mt_index (she_var 1 (pv 1)) (pa_cons (she_c (d := .str "->") (pe_glob (v := V.str "->") rfl Z.c_ARROW.choose_spec ⟨_, rfl⟩) (fun _ => .str _)) pa_nil)) (fun _ _ _ h => lift_bm1 sem_idxS h)))
    (shs_cons (L2.PS.imp (ps_asg (she_fz (she_call (G_split_rule.mono (by decide)) hr (by rfl) (sha_cons (she_fz (she_sl (she_var 1 (pv 1)) (sho_some she_int) (sho_some (she_var 2 (pv 2))))) sha_nil) (len_cons len_nil))) (pg_tup rfl (pgs_cons (pg_name (i := 3) sc_read_row.nd rfl (Or.inl rfl)) (pgs_cons (pg_name (i := 4) sc_read_row.nd rfl (Or.inl rfl)) pgs_nil)))) (fun _ _ _ h => lift_unp (tgt_tup (tgts_cons 3 (tgts_cons 4 tgts_nil))) h))
    (shs_one (shs_ret (she_tup (sha_cons (she_fz (she_ix ix_all sem_ix (she_var 1 (pv 1)) she_int (fun _ _ => rfl))) (sha_cons (she_fz (she_var 3 (pv 3))) (sha_cons (she_fz (L2.PE.imp (pe_callTy call_tuple_of (by rfl) Z.b_tuple bb_tuple (sha_cons (she_var 4 (pv 4)) sha_nil)) (fun _ _ _ h => lift_call sem_tuple h))) (sha_cons (she_fz (L2.PE.imp (pe_callTy call_tuple_of (by rfl) Z.b_tuple bb_tuple (sha_cons (she_sl (she_var 1 (pv 1)) (sho_some (she_op op_addU sem_add (she_var 2 (pv 2)) she_int)) sho_none) sha_nil)) (fun _ _ _ h => lift_call sem_tuple h))) sha_nil))))))))))))
theorem ok_read {f : Addr} {fd : FuncData} (F : Fun K "read" "read" s_read f fd) (Z : Txt K w mg) (G_is_plan : Fn P w K mg base c 6 "is_plan" 1 f_is_plan) (G_read_row : Fn P w K mg base c 4 "read_row" 1 f_read_row) : FnOk P w K mg base CX0 7 f fd ["text"] (spF c 1 f_read) :=
  fn_sem (m := m_read) F sc_read rfl rfl (fun cdv A outer s H E hr =>
    (shs_cons (shs_set (i := 1) sc_read.nd rfl (Or.inl rfl) (she_split (she_var 0 (pv 0)) she_str))
    (shs_cons (shs_if (sht_cmp (op_neA hr.units) sem_ne (she_ix ix_all sem_ix (she_var 1 (pv 1)) (she_un un_neg sem_neg she_int) (fun _ _ => rfl)) she_str (nomark _)) (shs_one shs_never) shs_nil)
    (shs_cons (shs_set (i := 2) sc_read.nd rfl (Or.inl rfl) (L2.PE.imp (pe_callTy call_tuple_of (by rfl) Z.b_tuple bb_tuple (sha_cons (L2.PE.imp (pe_lc (own := [("row", 3)]) rfl sc_read.nd (pi_seq (she_fz (she_sl (she_var 1 (pv 1)) sho_none (sho_some (she_un un_neg sem_neg she_int))))) (blkOk_by (own := [("row", 3)]) (N := ["text", "rows", "plan", "row"]) (sc := defScope s_read) (by decide +kernel)) (fun _ _ _ _ _ => (pg_name (i := 3) sc_read.nd rfl (Or.inl rfl))) (fun _ _ _ _ _ => shts_nil) (fun _ _ _ _ _ => she_fz (she_call (G_read_row.mono (by decide)) hr (by rfl) (sha_cons (she_fz (she_var 3 (pv 3))) sha_nil) (len_cons len_nil)))) (fun _ _ _ h => lift_lcS (tgc_name 3) (by decide) h)) sha_nil)) (fun _ _ _ h => lift_call sem_tuple h)))
    (shs_cons (shs_if (sht_not (sht_val (she_call (G_is_plan.mono (by decide)) hr (by rfl) (sha_cons (she_fz (she_var 2 (pv 2))) sha_nil) (len_cons len_nil)))) (shs_one shs_never) shs_nil)
    (shs_one (shs_ret (she_var 2 (pv 2)))))))))
theorem ok_law_cell_at {f : Addr} {fd : FuncData} (F : Fun K "_law_cell_at" "_law_cell_at" s_law_cell_at f fd) (Z : Txt K w mg) : FnOk P w K mg base CX0 1 f fd ["_law_script", "_law_k"] (spF c 2 f_law_cell_at) :=
  fn_sem (m := m_law_cell_at) F sc_law_cell_at rfl rfl (fun cdv A outer s H E hr =>
    (shs_cons (shs_if (sht_cmp op_lt sem_lt (she_var 1 (pv 1)) (L2.PE.imp (pe_callB call_lenA (by rfl) Z.b_len bb_len (sha_cons (she_var 0 (pv 0)) sha_nil)) (fun _ _ _ h => lift_call sem_len h)) (nomark _)) (shs_one (shs_ret (she_ix ix_all sem_ix (she_var 0 (pv 0)) (she_var 1 (pv 1)) (fun _ _ => rfl)))) shs_nil)
    (shs_one (shs_ret she_int))))
theorem ok_law_next {f : Addr} {fd : FuncData} (F : Fun K "_law_next" "_law_next" s_law_next f fd) (Z : Txt K w mg) : FnOk P w K mg base CX0 1 f fd ["_law_pick"] (spF c 1 f_law_next) :=
  fn_sem (m := m_law_next) F sc_law_next rfl rfl (fun cdv A outer s H E hr =>
    (shs_cons (shs_set (i := 1) sc_law_next.nd rfl (Or.inl rfl) (she_op op_mod sem_mod (she_op op_addU sem_add (she_op op_mul sem_mulI (she_var 0 (pv 0)) she_int) she_int) she_int))
    (shs_one (shs_ret (she_op op_mod sem_mod (she_op op_mul sem_mulI (she_var 1 (pv 1)) (she_var 1 (pv 1))) she_int)))))
theorem ok_law_names {f : Addr} {fd : FuncData} (F : Fun K "_law_names" "_law_names" s_law_names f fd) (Z : Txt K w mg) : FnOk P w K mg base CX0 1 f fd ["_law_cell"] (spF c 1 f_law_names) :=
  fn_sem (m := m_law_names) F sc_law_names rfl rfl (fun cdv A outer s H E hr =>
    (shs_cons (shs_if (sht_cmp (op_eqA hr.units) sem_eq (she_op op_mod sem_mod (she_var 0 (pv 0)) she_int) she_int (nomark _)) (shs_cons (shs_set (i := 1) sc_law_names.nd rfl (Or.inr rfl) (she_lst (sha_cons (she_fz she_str) (sha_cons (she_fz she_str) (sha_cons (she_fz she_str) (sha_cons (she_fz she_str) (sha_cons (she_fz she_str) (sha_cons (she_fz she_str) (sha_cons (she_fz she_str) (sha_cons (she_fz she_str) (sha_cons (she_fz she_str) (sha_cons (she_fz she_str) (sha_cons (she_fz she_str) (sha_cons (she_fz she_str) sha_nil))))))))))))))
    (shs_one (shs_ret (L2.PE.imp (pe_lc (own := [("_law_k", 2)]) rfl sc_law_names.nd (pi_range1 (by rfl) Z.b_range (sha_cons she_int sha_nil)) (blkOk_by (own := [("_law_k", 2)]) (N := ["_law_cell", "_law_some", "_law_k", "_law_size", "_law_place", "_law_found", "_law_sign"]) (sc := defScope s_law_names) (by decide +kernel)) (fun _ _ _ _ _ => (pg_name (i := 2) sc_law_names.nd rfl (Or.inl rfl))) (fun _ _ _ _ _ => shts_nil) (fun _ _ _ _ _ => she_fz (she_op op_addU sem_add (she_ix ix_all sem_ix (she_var 1 (pv 1)) (she_op op_mod sem_mod (she_op op_addU sem_add (she_op op_fdiv sem_div (she_var 0 (pv 0)) she_int) (she_var 2 (pv 2))) she_int) (fun _ _ => rfl)) (she_ix ix_all sem_ix (she_lst (sha_cons (she_fz she_str) (sha_cons (she_fz she_str) sha_nil))) (she_op op_fdiv sem_div (she_var 2 (pv 2)) she_int) (fun _ _ => rfl))))) (fun _ _ _ h => lift_lcR1 (tgc_name 2) (by decide) h))))) shs_nil)
    (shs_cons (shs_set (i := 3) sc_law_names.nd rfl (Or.inl rfl) (she_op op_addU sem_add she_int (she_op op_mod sem_mod (she_var 0 (pv 0)) she_int)))
    (shs_cons (shs_set (i := 4) sc_law_names.nd rfl (Or.inl rfl) (she_op op_mod sem_mod (she_op op_fdiv sem_div (she_var 0 (pv 0)) she_int) (she_var 3 (pv 3))))
    (shs_cons (shs_set (i := 1) sc_law_names.nd rfl (Or.inr rfl) she_str)
    (shs_cons (shs_set (i := 5) sc_law_names.nd rfl (Or.inl rfl) (she_lst sha_nil))
    (shs_cons (shs_forR1 PassesOwn.never rfl (by rfl) Z.b_range she_int (pg_name (i := 2) sc_law_names.nd rfl (Or.inl rfl)) (tgt_name 2) (shs_cons (shs_set (i := 6) sc_law_names.nd rfl (Or.inl rfl) (she_ix ix_all sem_ix (she_var 1 (pv 1)) (she_op op_mod sem_mod (she_op op_addU sem_add (she_op op_fdiv sem_div (she_var 0 (pv 0)) she_int) (she_var 2 (pv 2))) (she_ix ix_all sem_ix (she_lst (sha_cons (she_fz she_int) (sha_cons (she_fz she_int) sha_nil))) (L2.PE.imp (pe_callTy call_int1 (by rfl) Z.b_int bb_int (sha_cons (she_cmp op_gt sem_gt (she_var 4 (pv 4)) she_int (nomark _)) sha_nil)) (fun _ _ _ h => lift_call sem_int h)) (fun _ _ => rfl))) (fun _ _ => rfl)))
    (shs_one (shs_expr (L2.PE.imp (pe_bm PySem.F.plainAttrs_list PySem.F.slot_list_append PySem.F.type_list_append mt_append (pv 5) (pa_cons (she_fz (she_op op_addU sem_add (she_op op_addU sem_add (she_op op_mulS sem_mulS she_str (she_var 4 (pv 4))) (she_var 6 (pv 6))) (she_op op_mulS sem_mulS she_str (she_op op_sub sem_sub (she_op op_sub sem_sub (she_var 3 (pv 3)) she_int) (she_var 4 (pv 4)))))) pa_nil)) (fun _ _ _ h => lift_app h))))))
    (shs_one (shs_ret (she_var 5 (pv 5)))))))))))
theorem ok_law_value {f : Addr} {fd : FuncData} (F : Fun K "_law_value" "_law_value" s_law_value f fd) (Z : Txt K w mg) : FnOk P w K mg base CX0 1 f fd ["_law_pick"] (spF c 1 f_law_value) :=
  fn_sem (m := m_law_value) F sc_law_value rfl rfl (fun cdv A outer s H E hr =>
    (shs_cons (shs_if (sht_cmp (op_eqA hr.units) sem_eq (she_op op_mod sem_mod (she_var 0 (pv 0)) she_int) she_int (nomark _)) (shs_one (shs_ret (she_ix ix_all sem_ix (she_lst (sha_cons (she_fz she_int) (sha_cons (she_fz she_int) (sha_cons (she_fz she_int) (sha_cons (she_fz she_int) sha_nil))))) (she_op op_mod sem_mod (she_op op_fdiv sem_div (she_var 0 (pv 0)) she_int) she_int) (fun _ _ => rfl)))) shs_nil)
    (shs_cons (shs_if (sht_cmp (op_eqA hr.units) sem_eq (she_op op_mod sem_mod (she_var 0 (pv 0)) she_int) she_int (nomark _)) (shs_one (shs_ret (she_op op_mod sem_mod (she_op op_fdiv sem_div (she_var 0 (pv 0)) she_int) (she_op op_pow sem_pow she_int she_int)))) shs_nil)
    (shs_one (shs_ret (she_op op_mod sem_mod (she_op op_fdiv sem_div (she_var 0 (pv 0)) she_int) she_int))))))
theorem ok_law_rule {f : Addr} {fd : FuncData} (F : Fun K "_law_rule" "_law_rule" s_law_rule f fd) (Z : Txt K w mg) (G_law_value : Fn P w K mg base c 1 "_law_value" 1 f_law_value) : FnOk P w K mg base CX0 2 f fd ["_law_pick", "_law_way"] (spF c 2 f_law_rule) :=
  fn_sem (m := m_law_rule) F sc_law_rule rfl rfl (fun cdv A outer s H E hr =>
    (shs_cons (shs_set (i := 2) sc_law_rule.nd rfl (Or.inl rfl) (she_ix ix_all sem_ix (she_lst (sha_cons (she_fz she_str) (sha_cons (she_fz she_str) (sha_cons (she_fz she_str) (sha_cons (she_fz she_str) (sha_cons (she_fz she_str) (sha_cons (she_fz she_str) (sha_cons (she_fz she_str) (sha_cons (she_fz she_str) (sha_cons (she_fz she_str) (sha_cons (she_fz she_str) (sha_cons (she_fz she_str) (sha_cons (she_fz she_str) sha_nil))))))))))))) (she_var 1 (pv 1)) (fun _ _ => rfl)))
    (shs_cons (shs_if (sht_cmp (op_eqA hr.units) sem_eq (she_var 2 (pv 2)) she_str (nomark _)) (shs_one (shs_ret (she_tup (sha_cons (she_fz she_str) (sha_cons (she_fz (she_call (G_law_value.mono (by decide)) hr (by rfl) (sha_cons (she_fz (she_var 0 (pv 0))) sha_nil) (len_cons len_nil))) sha_nil))))) shs_nil)
    (shs_one (shs_ret (she_tup (sha_cons (she_fz (she_var 2 (pv 2))) sha_nil)))))))
theorem ok_law_plan {f : Addr} {fd : FuncData} (F : Fun K "_law_plan" "_law_plan" s_law_plan f fd) (Z : Txt K w mg) (G_law_cell_at : Fn P w K mg base c 1 "_law_cell_at" 2 f_law_cell_at) (G_law_names : Fn P w K mg base c 1 "_law_names" 1 f_law_names) (G_law_next : Fn P w K mg base c 1 "_law_next" 1 f_law_next) (G_law_rule : Fn P w K mg base c 2 "_law_rule" 2 f_law_rule) : FnOk P w K mg base CX0 3 f fd ["_law_script", "_law_at"] (spF c 2 f_law_plan) :=
  fn_sem (m := m_law_plan) F sc_law_plan rfl rfl (fun cdv A outer s H E hr =>
    (shs_cons (shs_set (i := 2) sc_law_plan.nd rfl (Or.inr rfl) (she_call (G_law_names.mono (by decide)) hr (by rfl) (sha_cons (she_fz (she_call (G_law_cell_at.mono (by decide)) hr (by rfl) (sha_cons (she_fz (she_var 0 (pv 0))) (sha_cons (she_fz (she_var 1 (pv 1))) sha_nil)) (len_cons (len_cons len_nil)))) sha_nil) (len_cons len_nil)))
    (shs_cons (shs_set (i := 3) sc_law_plan.nd rfl (Or.inl rfl) (she_ix ix_all sem_ix (she_lst (sha_cons (she_fz she_int) (sha_cons (she_fz she_int) (sha_cons (she_fz she_int) (sha_cons (she_fz she_int) (sha_cons (she_fz she_int) (sha_cons (she_fz she_int) sha_nil))))))) (she_op op_mod sem_mod (she_call (G_law_cell_at.mono (by decide)) hr (by rfl) (sha_cons (she_fz (she_var 0 (pv 0))) (sha_cons (she_fz (she_op op_addU sem_add (she_var 1 (pv 1)) she_int)) sha_nil)) (len_cons (len_cons len_nil))) she_int) (fun _ _ => rfl)))
    (shs_cons (shs_if (sht_cmp (op_eqA hr.units) sem_eq (she_op op_mod sem_mod (she_op op_fdiv sem_div (she_call (G_law_cell_at.mono (by decide)) hr (by rfl) (sha_cons (she_fz (she_var 0 (pv 0))) (sha_cons (she_fz (she_op op_addU sem_add (she_var 1 (pv 1)) she_int)) sha_nil)) (len_cons (len_cons len_nil))) she_int) she_int) she_int (nomark _)) (shs_one (shs_set (i := 3) sc_law_plan.nd rfl (Or.inl rfl) (she_op op_addU sem_add she_int (she_op op_mod sem_mod (she_op op_fdiv sem_div (she_call (G_law_cell_at.mono (by decide)) hr (by rfl) (sha_cons (she_fz (she_var 0 (pv 0))) (sha_cons (she_fz (she_op op_addU sem_add (she_var 1 (pv 1)) she_int)) sha_nil)) (len_cons (len_cons len_nil))) she_int) she_int)))) shs_nil)
    (shs_cons (shs_set (i := 4) sc_law_plan.nd rfl (Or.inl rfl) (she_ix ix_all sem_ix (she_lst (sha_cons (she_fz she_int) (sha_cons (she_fz she_int) (sha_cons (she_fz she_int) (sha_cons (she_fz she_int) sha_nil))))) (she_op op_mod sem_mod (she_call (G_law_cell_at.mono (by decide)) hr (by rfl) (sha_cons (she_fz (she_var 0 (pv 0))) (sha_cons (she_fz (she_op op_addU sem_add (she_var 1 (pv 1)) she_int)) sha_nil)) (len_cons (len_cons len_nil))) she_int) (fun _ _ => rfl)))
    (shs_cons (shs_set (i := 5) sc_law_plan.nd rfl (Or.inl rfl) (she_lst sha_nil))
    (shs_cons (shs_set (i := 7) sc_law_plan.nd rfl (Or.inr rfl) (L2.PE.imp (pe_lc (own := [("_law_k", 6)]) rfl sc_law_plan.nd (pi_range1 (by rfl) Z.b_range (sha_cons (L2.PE.imp (pe_callB (call_min2 rfl) (by rfl) Z.b_min bb_min (sha_cons she_int (sha_cons (she_op op_addU sem_add (she_var 4 (pv 4)) (she_var 3 (pv 3))) sha_nil))) (fun _ _ _ h => lift_call sem_min2 h)) sha_nil)) (blkOk_by (own := [("_law_k", 6)]) (N := ["_law_script", "_law_at", "_law_names_here", "_law_many", "_law_room", "_law_plan_here", "_law_k", "_law_free", "_law_spots", "_law_pick", "_law_rule_here", "_law_more", "_law_needs", "_law_gives", "_law_wanted", "_law_made", "_law_j"]) (sc := defScope s_law_plan) (by decide +kernel)) (fun _ _ _ _ _ => (pg_name (i := 6) sc_law_plan.nd rfl (Or.inl rfl))) (fun _ _ _ _ _ => shts_nil) (fun _ _ _ _ _ => she_fz (she_ix ix_all sem_ix (she_var 2 (pv 2)) (she_var 6 (pv 6)) (fun _ _ => rfl)))) (fun _ _ _ h => lift_lcR1 (tgc_name 6) (by decide) h)))
    (shs_cons (shs_set (i := 8) sc_law_plan.nd rfl (Or.inr rfl) (L2.PE.imp (pe_callTy call_list_of (by rfl) Z.b_list bb_list (sha_cons (she_var 7 (pv 7)) sha_nil)) (fun _ _ _ h => lift_call sem_list h)))
    (shs_cons (shs_forR1 PassesOwn.never rfl (by rfl) Z.b_range (she_var 3 (pv 3)) (pg_name (i := 6) sc_law_plan.nd rfl (Or.inl rfl)) (tgt_name 6) (shs_cons (shs_set (i := 9) sc_law_plan.nd rfl (Or.inl rfl) (she_call (G_law_next.mono (by decide)) hr (by rfl) (sha_cons (she_fz (she_op op_addU sem_add (she_call (G_law_cell_at.mono (by decide)) hr (by rfl) (sha_cons (she_fz (she_var 0 (pv 0))) (sha_cons (she_fz (she_op op_addU sem_add (she_op op_addU sem_add (she_var 1 (pv 1)) she_int) (she_op op_mod sem_mod (she_var 6 (pv 6)) she_int))) sha_nil)) (len_cons (len_cons len_nil))) (she_op op_mul sem_mulI she_int (she_var 6 (pv 6))))) sha_nil) (len_cons len_nil)))
    (shs_cons (shs_set (i := 10) sc_law_plan.nd rfl (Or.inl rfl) (she_call (G_law_rule.mono (by decide)) hr (by rfl) (sha_cons (she_fz (she_call (G_law_next.mono (by decide)) hr (by rfl) (sha_cons (she_fz (she_var 9 (pv 9))) sha_nil) (len_cons len_nil))) (sha_cons (she_fz (she_op op_mod sem_mod (she_op op_fdiv sem_div (she_var 9 (pv 9)) she_int) she_int)) sha_nil)) (len_cons (len_cons len_nil))))
    (shs_cons (shs_set (i := 11) sc_law_plan.nd rfl (Or.inr rfl) (she_call (G_law_next.mono (by decide)) hr (by rfl) (sha_cons (she_fz (she_op op_addU sem_add (she_var 9 (pv 9)) she_int)) sha_nil) (len_cons len_nil)))
    (shs_cons (shs_set (i := 12) sc_law_plan.nd rfl (Or.inl rfl) (she_ix ix_all sem_ix (she_lst (sha_cons (she_fz (she_op op_addU sem_add she_int (she_op op_mod sem_mod (she_var 11 (pv 11)) she_int))) (sha_cons (she_fz she_int) sha_nil))) (L2.PE.imp (pe_callTy call_int1 (by rfl) Z.b_int bb_int (sha_cons (she_cmp (op_eqA hr.units) sem_eq (she_ix ix_all sem_ix (she_var 10 (pv 10)) she_int (fun _ _ => rfl)) she_str (nomark _)) sha_nil)) (fun _ _ _ h => lift_call sem_int h)) (fun _ _ => rfl)))
    (shs_cons (shs_set (i := 12) sc_law_plan.nd rfl (Or.inl rfl) (L2.PE.imp (pe_dget2 (hu_of hr) (pe_disp (trs := trK [("way", 2), ("choose", 3)]) (pps_cons pe_str pe_int (pps_cons pe_str pe_int pps_nil)) (by rfl) (by rfl) (fun z => by cases z) (by decide)) (she_ix ix_all sem_ix (she_var 10 (pv 10)) she_int (fun _ _ => rfl)) (she_var 12 (pv 12)) ⟨rfl, rfl, rfl, rfl⟩) (fun _ _ _ h => lift_getS (by decide +kernel) (by decide) h)))
    (shs_cons (shs_set (i := 13) sc_law_plan.nd rfl (Or.inl rfl) (L2.PE.imp (pe_dget2 (hu_of hr) (pe_disp (trs := trK [("way", 2)]) (pps_cons pe_str pe_int pps_nil) (by rfl) (by rfl) (fun z => by cases z) (by decide)) (she_ix ix_all sem_ix (she_var 10 (pv 10)) she_int (fun _ _ => rfl)) (she_ix ix_all sem_ix (she_lst (sha_cons (she_fz she_int) (sha_cons (she_fz she_int) (sha_cons (she_fz she_int) (sha_cons (she_fz she_int) (sha_cons (she_fz she_int) sha_nil)))))) (she_op op_mod sem_mod (she_op op_fdiv sem_div (she_var 11 (pv 11)) she_int) she_int) (fun _ _ => rfl)) ⟨rfl, rfl, rfl, rfl⟩) (fun _ _ _ h => lift_getS (by decide +kernel) (by decide) h)))
    (shs_cons (shs_set (i := 13) sc_law_plan.nd rfl (Or.inl rfl) (L2.PE.imp (pe_callB (call_min2 rfl) (by rfl) Z.b_min bb_min (sha_cons (she_var 13 (pv 13)) (sha_cons (L2.PE.imp (pe_callB call_lenA (by rfl) Z.b_len bb_len (sha_cons (she_var 7 (pv 7)) sha_nil)) (fun _ _ _ h => lift_call sem_len h)) sha_nil))) (fun _ _ _ h => lift_call sem_min2 h)))
    (shs_cons (shs_if (PW.pt (shw_or (sht_cmp (op_eqA hr.units) sem_eq (she_var 13 (pv 13)) she_int (nomark _)) (shw_or1 (PW.pt (shw_and (sht_cmp (op_eqA hr.units) sem_eq (she_ix ix_all sem_ix (she_var 10 (pv 10)) she_int (fun _ _ => rfl)) she_str (nomark _)) (shw_and1 (sht_cmp op_lt sem_lt (she_var 13 (pv 13)) she_int (nomark _)))))))) (shs_one shs_break) shs_nil)
    (shs_cons (L2.PS.imp (ps_setLc (i := 14) (own := [("_law_j", 16)]) rfl sc_law_plan.nd rfl rfl (sw_true rfl rfl rfl (by decide +kernel)) (pi_range1 (by rfl) Z.b_range (sha_cons (she_var 12 (pv 12)) sha_nil)) (blkOk_by (own := [("_law_j", 16)]) (N := ["_law_script", "_law_at", "_law_names_here", "_law_many", "_law_room", "_law_plan_here", "_law_k", "_law_free", "_law_spots", "_law_pick", "_law_rule_here", "_law_more", "_law_needs", "_law_gives", "_law_wanted", "_law_made", "_law_j"]) (sc := defScope s_law_plan) (by decide +kernel)) (fun _ _ _ _ _ => (pg_name (i := 16) sc_law_plan.nd rfl (Or.inl rfl))) (fun _ _ _ _ _ => shts_nil) (fun _ _ _ _ _ => she_fz (she_ix ix_all sem_ix (she_var 8 (pv 8)) (she_op op_mod sem_mod (she_call (G_law_next.mono (by decide)) hr (by rfl) (sha_cons (she_fz (she_op op_addU sem_add (she_var 11 (pv 11)) (she_op op_mul sem_mulI she_int (she_var 16 (pv 16))))) sha_nil) (len_cons len_nil)) (L2.PE.imp (pe_callB call_lenA (by rfl) Z.b_len bb_len (sha_cons (she_var 8 (pv 8)) sha_nil)) (fun _ _ _ h => lift_call sem_len h))) (fun _ _ => rfl)))) (fun _ _ _ h => lift_lcR1 (tgc_name 16) (by decide) (lift_asg h)))
    (shs_cons (L2.PS.imp (ps_setLc (i := 15) (own := [("_law_j", 16)]) rfl sc_law_plan.nd rfl rfl (sw_true rfl rfl rfl (by decide +kernel)) (pi_range1 (by rfl) Z.b_range (sha_cons (she_var 13 (pv 13)) sha_nil)) (blkOk_by (own := [("_law_j", 16)]) (N := ["_law_script", "_law_at", "_law_names_here", "_law_many", "_law_room", "_law_plan_here", "_law_k", "_law_free", "_law_spots", "_law_pick", "_law_rule_here", "_law_more", "_law_needs", "_law_gives", "_law_wanted", "_law_made", "_law_j"]) (sc := defScope s_law_plan) (by decide +kernel)) (fun _ _ _ _ _ => (pg_name (i := 16) sc_law_plan.nd rfl (Or.inl rfl))) (fun _ _ _ _ _ => shts_nil) (fun _ _ _ _ _ => she_fz (L2.PE.imp (pe_bm PySem.F.plainAttrs_list PySem.F.slot_list_pop PySem.F.type_list_pop mt_popAt (pv 7) (pa_cons (she_op op_mod sem_mod (she_call (G_law_next.mono (by decide)) hr (by rfl) (sha_cons (she_fz (she_op op_addU sem_add (she_op op_addU sem_add (she_var 11 (pv 11)) (she_op op_mul sem_mulI she_int (she_var 16 (pv 16)))) she_int)) sha_nil) (len_cons len_nil)) (L2.PE.imp (pe_callB call_lenA (by rfl) Z.b_len bb_len (sha_cons (she_var 7 (pv 7)) sha_nil)) (fun _ _ _ h => lift_call sem_len h))) pa_nil)) (fun _ _ _ h => lift_popAt h)))) (fun _ _ _ h => lift_lcR1 (tgc_name 16) (by decide) (lift_asg h)))
    (shs_one (shs_expr (L2.PE.imp (pe_bm PySem.F.plainAttrs_list PySem.F.slot_list_append PySem.F.type_list_append mt_append (pv 5) (pa_cons (she_fz (she_tup (sha_cons (she_fz (she_ix ix_all sem_ix (she_var 2 (pv 2)) (she_op op_sub sem_sub she_int (she_var 6 (pv 6))) (fun _ _ => rfl))) (sha_cons (she_fz (she_var 10 (pv 10))) (sha_cons (she_fz (L2.PE.imp (pe_callTy call_tuple_of (by rfl) Z.b_tuple bb_tuple (sha_cons (she_var 14 (pv 14)) sha_nil)) (fun _ _ _ h => lift_call sem_tuple h))) (sha_cons (she_fz (L2.PE.imp (pe_callTy call_tuple_of (by rfl) Z.b_tuple bb_tuple (sha_cons (she_var 15 (pv 15)) sha_nil)) (fun _ _ _ h => lift_call sem_tuple h))) sha_nil)))))) pa_nil)) (fun _ _ _ h => lift_app h)))))))))))))))
    (shs_cons (shs_if (sht_cmp (op_eqA hr.units) sem_eq (she_var 5 (pv 5)) (she_lst sha_nil) (nomark _)) (shs_one (shs_expr (L2.PE.imp (pe_bm PySem.F.plainAttrs_list PySem.F.slot_list_append PySem.F.type_list_append mt_append (pv 5) (pa_cons (she_fz (she_tup (sha_cons (she_fz (she_ix ix_all sem_ix (she_var 2 (pv 2)) she_int (fun _ _ => rfl))) (sha_cons (she_fz (she_tup (sha_cons (she_fz she_str) sha_nil))) (sha_cons (she_fz (she_tup (sha_cons (she_fz (she_ix ix_all sem_ix (she_var 2 (pv 2)) she_int (fun _ _ => rfl))) sha_nil))) (sha_cons (she_fz (she_tup (sha_cons (she_fz (she_ix ix_all sem_ix (she_var 2 (pv 2)) she_int (fun _ _ => rfl))) sha_nil))) sha_nil)))))) pa_nil)) (fun _ _ _ h => lift_app h)))) shs_nil)
    (shs_one (shs_ret (L2.PE.imp (pe_callTy call_tuple_of (by rfl) Z.b_tuple bb_tuple (sha_cons (she_var 5 (pv 5)) sha_nil)) (fun _ _ _ h => lift_call sem_tuple h))))))))))))))
theorem ok_law_line {f : Addr} {fd : FuncData} (F : Fun K "_law_line" "_law_line" s_law_line f fd) (Z : Txt K w mg) : FnOk P w K mg base CX0 1 f fd ["_law_step"] (spF c 1 f_law_line) :=
  fn_sem (m := m_law_line) F sc_law_line rfl rfl (fun cdv A outer s H E hr =>
    (shs_cons (shs_set (i := 1) sc_law_line.nd rfl (Or.inl rfl) (she_cat (she_cat (she_cat (she_cat (she_lst (sha_cons (she_fz (she_ix ix_all sem_ix (she_var 0 (pv 0)) she_int (fun _ _ => rfl))) sha_nil)) (L2.PE.imp (pe_lc (own := [("_law_word", 2)]) rfl sc_law_line.nd (pi_seq (she_fz (she_ix ix_all sem_ix (she_var 0 (pv 0)) she_int (fun _ _ => rfl)))) (blkOk_by (own := [("_law_word", 2)]) (N := ["_law_step", "_law_words", "_law_word"]) (sc := defScope s_law_line) (by decide +kernel)) (fun _ _ _ _ _ => (pg_name (i := 2) sc_law_line.nd rfl (Or.inl rfl))) (fun _ _ _ _ _ => shts_nil) (fun _ _ _ _ _ => she_fz (L2.PE.imp (pe_callTy (CallR.or call_str_int SkE.call_str_str) (by rfl) Z.b_str bb_str (sha_cons (she_var 2 (pv 2)) sha_nil)) (fun _ _ _ h => lift_call sem_str h)))) (fun _ _ _ h => lift_lcS (tgc_name 2) (by decide) h))) (L2.PE.imp (pe_callTy call_list_of (by rfl) Z.b_list bb_list (sha_cons (she_ix ix_all sem_ix (she_var 0 (pv 0)) she_int (fun _ _ => rfl)) sha_nil)) (fun _ _ _ h => lift_call sem_list h))) (she_lst (sha_cons (she_fz she_str) sha_nil))) (L2.PE.imp (pe_callTy call_list_of (by rfl) Z.b_list bb_list (sha_cons (she_ix ix_all sem_ix (she_var 0 (pv 0)) she_int (fun _ _ => rfl)) sha_nil)) (fun _ _ _ h => lift_call sem_list h))))
    (shs_one (shs_ret (she_join she_str (she_var 1 (pv 1)))))))
theorem ok_law_text {f : Addr} {fd : FuncData} (F : Fun K "_law_text" "_law_text" s_law_text f fd) (Z : Txt K w mg) (G_law_line : Fn P w K mg base c 1 "_law_line" 1 f_law_line) : FnOk P w K mg base CX0 2 f fd ["_law_plan_here"] (spF c 1 f_law_text) :=
  fn_sem (m := m_law_text) F sc_law_text rfl rfl (fun cdv A outer s H E hr =>
    (shs_one (shs_ret (she_join she_str (L2.PE.imp (pe_lc (own := [("_law_step", 1)]) rfl sc_law_text.nd (pi_seq (she_fz (she_var 0 (pv 0)))) (blkOk_by (own := [("_law_step", 1)]) (N := ["_law_plan_here", "_law_step"]) (sc := defScope s_law_text) (by decide +kernel)) (fun _ _ _ _ _ => (pg_name (i := 1) sc_law_text.nd rfl (Or.inl rfl))) (fun _ _ _ _ _ => shts_nil) (fun _ _ _ _ _ => she_fz (she_op op_addU sem_add (she_call (G_law_line.mono (by decide)) hr (by rfl) (sha_cons (she_fz (she_var 1 (pv 1))) sha_nil) (len_cons len_nil)) she_str))) (fun _ _ _ h => lift_lcS (tgc_name 1) (by decide) h))))))
theorem ok_law_same {f : Addr} {fd : FuncData} (F : Fun K "_law_same" "_law_same" s_law_same f fd) (Z : Txt K w mg) {g : SemF} {lv : Nat} (G_law_same : Fn P w K mg base c lv "_law_same" 2 g) : FnOk P w K mg base CX0 (lv + 1) f fd ["_law_found", "_law_due"] (spF c 2 (bodyF 3 (m_law_same g))) :=
  fn_sem (m := (m_law_same g)) F sc_law_same rfl rfl (fun cdv A outer s H E hr =>
    (shs_cons (shs_if (sht_val (L2.PE.imp (pe_callB call_isi (by rfl) Z.b_isinstance bb_isinstance (pa_cons (she_var 1 (pv 1)) (pa_cons (pe_bltn (v := .ty "tuple") (by rfl) Z.b_tuple bb_tuple rfl) pa_nil))) (fun _ _ _ h => lift_isi h))) (shs_cons (shs_if (PW.pt (shw_or (sht_not (sht_val (L2.PE.imp (pe_callB call_isi (by rfl) Z.b_isinstance bb_isinstance (pa_cons (she_var 0 (pv 0)) (pa_cons (pe_bltn (v := .ty "tuple") (by rfl) Z.b_tuple bb_tuple rfl) pa_nil))) (fun _ _ _ h => lift_isi h)))) (shw_or1 (sht_cmp (op_neA hr.units) sem_ne (L2.PE.imp (pe_callB call_lenA (by rfl) Z.b_len bb_len (sha_cons (she_var 0 (pv 0)) sha_nil)) (fun _ _ _ h => lift_call sem_len h)) (L2.PE.imp (pe_callB call_lenA (by rfl) Z.b_len bb_len (sha_cons (she_var 1 (pv 1)) sha_nil)) (fun _ _ _ h => lift_call sem_len h)) (nomark _))))) (shs_one (shs_ret she_bl)) shs_nil)
    (shs_one (shs_ret (she_cmp (op_eqA hr.units) sem_eq (L2.PE.imp (pe_callB call_lenA (by rfl) Z.b_len bb_len (sha_cons (L2.PE.imp (pe_lc (own := [("_law_k", 2)]) rfl sc_law_same.nd (pi_range1 (by rfl) Z.b_range (sha_cons (L2.PE.imp (pe_callB call_lenA (by rfl) Z.b_len bb_len (sha_cons (she_var 1 (pv 1)) sha_nil)) (fun _ _ _ h => lift_call sem_len h)) sha_nil)) (blkOk_by (own := [("_law_k", 2)]) (N := ["_law_found", "_law_due", "_law_k"]) (sc := defScope s_law_same) (by decide +kernel)) (fun _ _ _ _ _ => (pg_name (i := 2) sc_law_same.nd rfl (Or.inl rfl))) (fun _ _ _ _ _ => (shts_one (sht_not (sht_val (she_call G_law_same hr (by rfl) (sha_cons (she_fz (she_ix ix_all sem_ix (she_var 0 (pv 0)) (she_var 2 (pv 2)) (fun _ _ => rfl))) (sha_cons (she_fz (she_ix ix_all sem_ix (she_var 1 (pv 1)) (she_var 2 (pv 2)) (fun _ _ => rfl))) sha_nil)) (len_cons (len_cons len_nil))))))) (fun _ _ _ _ _ => she_fz (she_var 2 (pv 2)))) (fun _ _ _ h => lift_lcR1 (tgc_name 2) (by decide) h)) sha_nil)) (fun _ _ _ h => lift_call sem_len h)) she_int (nomark _))))) shs_nil)
    (shs_cons (shs_if (sht_val (L2.PE.imp (pe_callB call_isi (by rfl) Z.b_isinstance bb_isinstance (pa_cons (she_var 1 (pv 1)) (pa_cons (pe_bltn (v := .ty "str") (by rfl) Z.b_str bb_str rfl) pa_nil))) (fun _ _ _ h => lift_isi h))) (shs_one (shs_ret (she_and (L2.PE.imp (pe_callB call_isi (by rfl) Z.b_isinstance bb_isinstance (pa_cons (she_var 0 (pv 0)) (pa_cons (pe_bltn (v := .ty "str") (by rfl) Z.b_str bb_str rfl) pa_nil))) (fun _ _ _ h => lift_isi h)) (she_one (she_cmp (op_eqA hr.units) sem_eq (she_var 0 (pv 0)) (she_var 1 (pv 1)) (nomark _)))))) shs_nil)
    (shs_one (shs_ret (she_and (L2.PE.imp (pe_callB call_isi (by rfl) Z.b_isinstance bb_isinstance (pa_cons (she_var 0 (pv 0)) (pa_cons (pe_bltn (v := .ty "int") (by rfl) Z.b_int bb_int rfl) pa_nil))) (fun _ _ _ h => lift_isi h)) (she_and (she_not (L2.PE.imp (pe_callB call_isi (by rfl) Z.b_isinstance bb_isinstance (pa_cons (she_var 0 (pv 0)) (pa_cons (pe_bltn (v := .ty "bool") (by rfl) Z.b_bool bb_bool rfl) pa_nil))) (fun _ _ _ h => lift_isi h))) (she_one (she_cmp (op_eqA hr.units) sem_eq (she_var 0 (pv 0)) (she_var 1 (pv 1)) (nomark _))))))))))
theorem ok_law {f : Addr} {fd : FuncData} (F : Fun K "law" "law" s_law f fd) (Z : Txt K w mg) (G_law_plan : Fn P w K mg base c 3 "_law_plan" 2 f_law_plan) (G_law_same : Fn P w K mg base c 5 "_law_same" 2 f_law_same) (G_law_text : Fn P w K mg base c 2 "_law_text" 1 f_law_text) (G_read : Fn P w K mg base c 7 "read" 1 f_read) (G_shown : Fn P w K mg base c 2 "shown" 1 f_shown) : FnOk P w K mg base CX0 8 f fd ["_law_script"] (spF c 1 f_law) :=
  fn_sem (m := m_law) F sc_law rfl rfl (fun cdv A outer s H E hr =>
    (shs_cons (shs_set (i := 1) sc_law.nd rfl (Or.inl rfl) (she_call (G_law_plan.mono (by decide)) hr (by rfl) (sha_cons (she_fz (she_var 0 (pv 0))) (sha_cons (she_fz she_int) sha_nil)) (len_cons (len_cons len_nil))))
    (shs_cons (shs_set (i := 2) sc_law.nd rfl (Or.inl rfl) (she_call (G_law_text.mono (by decide)) hr (by rfl) (sha_cons (she_fz (she_var 1 (pv 1))) sha_nil) (len_cons len_nil)))
    (shs_cons (shs_forR1 PassesOwn.never rfl (by rfl) Z.b_range she_int (pg_name (i := 3) sc_law.nd rfl (Or.inl rfl)) (tgt_name 3) (shs_cons (shs_set (i := 4) sc_law.nd rfl (Or.inl rfl) (she_call (G_shown.mono (by decide)) hr (by rfl) (sha_cons (she_fz (she_var 1 (pv 1))) sha_nil) (len_cons len_nil)))
    (shs_cons (shs_if (PW.pt (shw_or (sht_not (sht_val (L2.PE.imp (pe_callB call_isi (by rfl) Z.b_isinstance bb_isinstance (pa_cons (she_var 4 (pv 4)) (pa_cons (pe_bltn (v := .ty "str") (by rfl) Z.b_str bb_str rfl) pa_nil))) (fun _ _ _ h => lift_isi h)))) (shw_or1 (sht_cmp (op_neA hr.units) sem_ne (she_var 4 (pv 4)) (she_var 2 (pv 2)) (nomark _))))) (shs_one (shs_ret she_bl)) shs_nil)
    (shs_cons (shs_try (shs_one (shs_set (i := 5) sc_law.nd rfl (Or.inl rfl) (she_call (G_read.mono (by decide)) hr (by rfl) (sha_cons (she_fz (she_var 2 (pv 2))) sha_nil) (len_cons len_nil)))))
    (shs_cons (shs_if (sht_not (sht_val (she_call (G_law_same.mono (by decide)) hr (by rfl) (sha_cons (she_fz (she_var 5 (pv 5))) (sha_cons (she_fz (she_var 1 (pv 1))) sha_nil)) (len_cons (len_cons len_nil))))) (shs_one (shs_ret she_bl)) shs_nil)
    (shs_cons (shs_if (sht_not (sht_val (she_call (G_law_same.mono (by decide)) hr (by rfl) (sha_cons (she_fz (she_call (G_read.mono (by decide)) hr (by rfl) (sha_cons (she_fz she_str) sha_nil) (len_cons len_nil))) (sha_cons (she_fz (she_tup (sha_cons (she_fz (she_tup (sha_cons (she_fz she_str) (sha_cons (she_fz (she_tup (sha_cons (she_fz she_str) (sha_cons (she_fz she_int) sha_nil)))) (sha_cons (she_fz (she_tup (sha_cons (she_fz she_str) sha_nil))) (sha_cons (she_fz (she_tup (sha_cons (she_fz she_str) (sha_cons (she_fz she_str) sha_nil)))) sha_nil)))))) sha_nil))) sha_nil)) (len_cons (len_cons len_nil))))) (shs_one (shs_ret she_bl)) shs_nil)
    (shs_one (shs_if (sht_cmp (op_neA hr.units) sem_ne (she_call (G_shown.mono (by decide)) hr (by rfl) (sha_cons (she_fz (she_tup (sha_cons (she_fz (she_tup (sha_cons (she_fz she_str) (sha_cons (she_fz (she_tup (sha_cons (she_fz she_str) sha_nil))) (sha_cons (she_fz (she_tup (sha_cons (she_fz she_str) (sha_cons (she_fz she_str) sha_nil)))) (sha_cons (she_fz (she_tup (sha_cons (she_fz she_str) sha_nil))) sha_nil)))))) sha_nil))) sha_nil) (len_cons len_nil)) she_str (nomark _)) (shs_one (shs_ret she_bl)) shs_nil))))))))
    (shs_one (shs_ret she_bl))))))
end
end K12
-- K12c.lean
set_option Elab.async false
set_option linter.all false
set_option maxRecDepth 100000
set_option maxHeartbeats 1000000
/-! K12c: what the program's defs give. -/
namespace K12
open PySem L2 Sh
theorem c_isS {a : Str} {P : Prop} (h : P) : isS (.str a) = true ∧ P := ⟨rfl, h⟩
theorem c_isL {ds : List D} {P : Prop} (h : P) : isLst (.list ds) = true ∧ P := ⟨rfl, h⟩
theorem kIf_tt {P R : Prop} (p : P) : kIf true P R := p
theorem kIf_ff {P R : Prop} (p : R) : kIf false P R := p
local macro_rules | `(tactic| walk_at "p") => `(tactic| first
  | exact put_vz rfl
  | exact put_nz rfl
  | (refine' put_vs ?m; (case m => walk_at "p"))
  | (refine' put_ns ?m; (case m => walk_at "p")))
local macro_rules | `(tactic| walk_at "u") => `(tactic| first
  | exact U_nil
  | (refine' U_in ?k ?x ?m; (case k => decide); (case x => rfl); (case m => walk_at "u"))
  | (refine' U_out ?k ?m; (case k => decide); (case m => walk_at "u")))
local macro_rules | `(tactic| walk_at "r") => `(tactic| first
  | exact Rs_nil
  | (refine' Rs_in ?k ?m; (case k => decide); (case m => walk_at "r"))
  | (refine' Rs_out ?k ?m; (case k => decide); (case m => walk_at "r")))
local macro_rules | `(tactic| walk_at "v") => `(tactic| first
  | with_reducible refine s_seq ?_
  | with_reducible refine s_asg ?_
  | ((with_reducible refine' v_var ?h ?_); (case h => exact rfl))
  | ((with_reducible refine' v_own ?h ?_); (case h => exact rfl))
  | with_reducible refine v_c ?_
  | with_reducible refine v_bin ?_
  | ((with_reducible refine' wp_cD ?h ?_); (case h => exact rfl))
  | with_reducible refine v_call ?_
  | with_reducible refine a_cons ?_
  | with_reducible refine a_nil ?_
  | ((with_reducible refine' wp_cDs ?h ?_); (case h => exact rfl))
  | with_reducible refine v_fz ?_
  | with_reducible refine fz_v ?_
  | ((with_reducible refine' fz_nw ?h ?_); (case h => exact rfl))
  | ((with_reducible refine' fz_sl ?h ?h2 ?_); (case h => exact rfl); (case h2 => exact rfl))
  | with_reducible refine c_pure ?_
  | with_reducible refine kV1 ?_
  | with_reducible refine kV2 ?_
  | with_reducible refine kV3 ?_
  | with_reducible refine kV4 ?_
  | with_reducible refine kV5 ?_
  | with_reducible refine kV6 ?_
  | with_reducible refine p_addI ?_
  | with_reducible refine p_sub ?_
  | ((with_reducible refine' p_mod ?h ?_); (case h => first | decide | omega))
  | ((with_reducible refine' p_div ?h ?_); (case h => first | decide | omega))
  | ((with_reducible refine' p_mulI ?h ?_); (case h => first | exact cmul_l (by decide) | exact cmul_r (by decide) | exact cmul_l (by omega) | exact cmul_r (by omega)))
  | with_reducible refine p_eqI ?_
  | with_reducible refine p_eqS ?_
  | with_reducible refine p_neI ?_
  | with_reducible refine p_neS ?_
  | with_reducible refine p_lt ?_
  | with_reducible refine p_le ?_
  | with_reducible refine p_gt ?_
  | with_reducible refine p_ge ?_
  | with_reducible refine p_neg ?_
  | with_reducible refine p_pow6 ?_
  | with_reducible refine p_lenL ?_
  | with_reducible refine p_lenT ?_
  | with_reducible refine p_intI ?_
  | with_reducible refine p_intB ?_
  | with_reducible refine p_listL ?_
  | with_reducible refine p_listT ?_
  | with_reducible refine p_tupL ?_
  | with_reducible refine p_tupT ?_
  | with_reducible refine p_max2 ?_
  | with_reducible refine p_min2 ?_
  | with_reducible refine p_eqB ?_
  | with_reducible refine p_neB ?_
  | with_reducible refine p_isN ?_
  | with_reducible refine p_notN ?_
  | ((with_reducible refine' wp_put ?h ?_); (case h => walk_at "p"))
  | with_reducible refine s_if ?_
  | with_reducible refine t_tst ?_
  | with_reducible refine ex_b ?_
  | with_reducible refine ex_i ?_
  | with_reducible refine t_not ?_
  | with_reducible refine t_and ?_
  | with_reducible refine t_or ?_
  | with_reducible refine t_yes ?_
  | with_reducible refine s_ret ?_
  | with_reducible refine kS_nx ?_
  | with_reducible refine kS_rt ?_
  | with_reducible refine kS_bk ?_
  | with_reducible refine kS_ct ?_
  | with_reducible refine s_next ?_
  | with_reducible refine s_some ?_
  | with_reducible refine s_drop ?_
  | with_reducible refine v_tup ?_
  | with_reducible refine v_lst ?_
  | ((with_reducible refine' wp_opsD ?h ?_); (case h => exact rfl))
  | ((with_reducible refine' ck_le ?h ?_); (case h => exact rfl))
  | with_reducible refine v_un ?_
  | with_reducible refine v_and ?_
  | with_reducible refine v_or ?_
  | with_reducible refine v_not ?_
  | with_reducible refine wp_bD ?_
  | with_reducible refine v_ife ?_
  | with_reducible refine v_chain ?_
  | with_reducible refine p_leB ?_
  | with_reducible refine p_ltB ?_
  | with_reducible refine v_getS ?_
  | with_reducible refine v_lcN ?_
  | with_reducible refine v_lcR1N ?_
  | with_reducible refine v_lcR2 ?_
  | with_reducible refine wp_seqL ?_
  | with_reducible refine wp_seqT ?_
  | with_reducible refine wp_selL ?_
  | with_reducible refine wp_selTL1 ?_
  | with_reducible refine wp_selTL2 ?_
  | ((with_reducible refine' wp_unwN ?h ?_); (case h => walk_at "u"))
  | ((with_reducible refine' ex_rs ?h ?_); (case h => walk_at "r"))
  | with_reducible refine kT_y ?_
  | with_reducible refine wp_vD ?_
  | with_reducible refine s_for ?_
  | with_reducible refine s_forE ?_
  | with_reducible refine s_forR1 ?_
  | with_reducible refine s_forR2 ?_
  | with_reducible refine kL_nx ?_
  | with_reducible refine kL_ct ?_
  | with_reducible refine kL_bk ?_
  | with_reducible refine kL_rt ?_
  | with_reducible refine s_unp ?_
  | with_reducible refine t_cons ?_
  | with_reducible refine t_nil ?_
  | ((with_reducible refine' t_tup ?h ?_); (case h => exact rfl))
  | ((with_reducible refine' wp_tName ?h ?_); (case h => walk_at "p"))
  | with_reducible refine v_app ?_
  | ((with_reducible refine' ex_app ?h ?_); (case h => exact rfl))
  | with_reducible refine v_pop ?_
  | with_reducible refine v_ext ?_
  | with_reducible refine s_setI ?_
  | with_reducible refine v_cat ?_
  | with_reducible refine v_rep ?_
  | ((with_reducible refine' wp_cLn ?h ?_); (case h => exact rfl))
  | with_reducible refine v_sl ?_
  | with_reducible refine o_none ?_
  | with_reducible refine o_part ?_
  | with_reducible refine v_allN ?_
  | with_reducible refine wp_selS ?_
  | with_reducible refine v_lc2N ?_
  | with_reducible refine v_lenT ?_
  | with_reducible refine v_m1 ?_
  | with_reducible refine c_isS ?_
  | with_reducible refine c_isL ?_
  | with_reducible refine a_star ?_
  | with_reducible refine p_inSg ?_
  | with_reducible refine p_strS ?_
  | with_reducible refine p_cnt ?_
  | with_reducible refine kB_v (Nat.le_of_ble_eq_true rfl) ?_
  | with_reducible refine kB_n (Nat.le_of_ble_eq_true rfl) ?_
  | with_reducible refine kB_x (Nat.le_of_ble_eq_true rfl) ?_
  | with_reducible refine p_isiStr k_ss ?_
  | with_reducible refine p_isiStr k_st ?_
  | with_reducible refine p_isiStr k_si ?_
  | with_reducible refine p_isiStr k_sb ?_
  | with_reducible refine p_isiTup k_tt ?_
  | with_reducible refine p_isiTup k_ts ?_
  | with_reducible refine p_isiInt k_ii ?_
  | with_reducible refine p_isiInt k_ib ?_
  | with_reducible refine p_isiInt k_it ?_
  | with_reducible refine p_isiInt k_is ?_)
local macro_rules | `(tactic| walk_at "V") => `(tactic| repeat (walk_at "v"))
theorem at_nat {α : Type} {ds : List α} {k : Nat} {d : α} (h : ds[k]? = some d) : atI ds (k : Int) = some d := by
  have hk := (List.getElem?_eq_some_iff.mp h).1
  unfold atI ixN
  rw [if_pos (by omega), if_pos (by omega)]
  simpa using h
/-! ### plans -/
inductive Rl where
  | fx (i : Nat)
  | wd (w : Str)
structure Stp where
  n : Str
  r : Rl
  ne : List Str
  gi : List Str
def sT (ys : List Str) : D := .tuple (ys.map PyData.str)
def Rl.d : Rl → D
  | .fx i => .tuple [.str "fixed", .int (i : Int)]
  | .wd w => .tuple [.str w]
def Rl.w : Rl → Str
  | .fx _ => "fixed"
  | .wd w => w
def Stp.d (s : Stp) : D := .tuple [.str s.n, s.r.d, sT s.ne, sT s.gi]
def pD (P : List Stp) : D := .tuple (P.map Stp.d)
def lets : List Nat := ("abcdefghijklmnopqrstuvwxyz" : Str).cps.toList
def letf : List Nat := ("abcdefghijklmnopqrstuvwxyz0123456789" : Str).cps.toList
structure NmOk (x : Str) : Prop where
  len : x.length ≤ 8
  hd : ∃ c r, x.cps.toList = c :: r ∧ c ∈ lets
  all : ∀ c ∈ x.cps.toList, c ∈ letf
/-- the counts of a rule's word -/
def cnt (w : Str) : Option (Nat × Nat × Nat × Nat) := if w = "later" then some (1, 1, 1, 3) else if w = "way" then some (2, 2, 2, 2) else if w = "choose" then some (3, 3, 1, 3) else if w = "sum" ∨ w = "times" ∨ w = "least" ∨ w = "most" ∨ w = "fixed" then some (1, 4, 1, 3) else none
def Rl.ok : Rl → Prop
  | .fx i => i < 1000000
  | .wd w => w ∈ (["sum", "times", "least", "most", "later", "way", "choose"] : List Str)
structure StOk (s : Stp) : Prop where
  n : NmOk s.n
  r : s.r.ok
  c : ∃ a b e f, cnt s.r.w = some (a, b, e, f) ∧ a ≤ s.ne.length ∧ s.ne.length ≤ b ∧ e ≤ s.gi.length ∧ s.gi.length ≤ f
  ne : ∀ x ∈ s.ne, NmOk x
  gi : ∀ x ∈ s.gi, NmOk x
structure PlOk (P : List Stp) : Prop where
  lo : 1 ≤ P.length
  hi : P.length ≤ 20
  st : ∀ s ∈ P, StOk s
  nn : (P.map (·.n)).Nodup
  gg : (P.flatMap (·.gi)).Nodup
theorem NmOk.pos {x : Str} (h : NmOk x) : 1 ≤ x.length := by
  obtain ⟨c, r, e, _⟩ := h.hd
  have : x.cps.toList.length = x.length := Array.length_toList
  rw [e, List.length_cons] at this
  omega
theorem sp_is_whole (i : Int) : Ret f_is_whole [.int i] fun o => o = .v (.bool true) := by
  refine ret_body ?_
  show wp (m_is_whole [.fz (.int i)]) _
  unfold m_is_whole
  walk_at "V"
  refine kIf_tt ?_
  walk_at "V"
  rfl
theorem sp_is_value (i : Int) (h0 : 0 ≤ i) (h1 : i < 1000000) : Ret f_is_value [.int i] fun o => o = .v (.bool true) := by
  refine ret_body ?_
  show wp (m_is_value [.fz (.int i)]) _
  unfold m_is_value
  walk_at "V"
  refine (sp_is_whole i).mono fun o e => ?_
  subst e
  walk_at "V"
  refine kIf_tt ?_
  walk_at "V"
  refine kIf_t (decide_eq_true h0) ?_
  walk_at "V"
  rw [decide_eq_true h1]
theorem sp_is_name (x : Str) (h : NmOk x) : Ret f_is_name [.str x] fun o => o = .v (.bool true) := by
  have hp := h.pos
  have hl := h.len
  obtain ⟨c, r, e, hc⟩ := h.hd
  refine ret_body ?_
  show wp (m_is_name [.fz (.str x), .un]) _
  unfold m_is_name
  walk_at "V"
  refine p_lenS (by omega) ?_
  walk_at "V"
  refine kIf_t (decide_eq_true (by omega)) ?_
  walk_at "V"
  refine kIf_f (by rw [decide_eq_true (by omega : (x.length : Int) ≤ 8)]; rfl) ?_
  walk_at "V"
  refine p_ixS (by omega) (ch := c) (at_nat (k := 0) (by rw [e]; rfl)) ?_
  walk_at "V"
  refine kIf_t (decide_eq_true hc) ?_
  walk_at "V"
  refine w_allT (f := fun n => PyData.str ⟨#[n]⟩) (xs := x.cps.toList) (fun n hn => ?_) ?_
  · walk_at "V"
    refine ⟨?_, rfl⟩
    have q := h.all n hn
    rw [show decide (n ∈ ("abcdefghijklmnopqrstuvwxyz0123456789" : Str).cps.toList) = true from decide_eq_true q]
  · walk_at "V"
    rfl
theorem look_counts (w : Str) {a b e f : Nat} (h : cnt w = some (a, b, e, f)) : kd_COUNTS.lookup w = some (.tuple [.int (a : Int), .int (b : Int), .int (e : Int), .int (f : Int)]) := by
  unfold cnt at h
  split at h
  · rename_i q; subst q; cases h; rfl
  split at h
  · rename_i q; subst q; cases h; rfl
  split at h
  · rename_i q; subst q; cases h; rfl
  split at h
  · rename_i q
    rcases q with q | q | q | q | q <;> subst q <;> cases h <;> rfl
  · cases h
end K12
-- K12d.lean
set_option Elab.async false
set_option linter.all false
set_option maxRecDepth 100000
set_option maxHeartbeats 1000000
/-! K12d: is_plan. -/
namespace K12
open PySem L2 Sh
local macro_rules | `(tactic| walk_at "p") => `(tactic| first
  | exact put_vz rfl
  | exact put_nz rfl
  | (refine' put_vs ?m; (case m => walk_at "p"))
  | (refine' put_ns ?m; (case m => walk_at "p")))
local macro_rules | `(tactic| walk_at "u") => `(tactic| first
  | exact U_nil
  | (refine' U_in ?k ?x ?m; (case k => decide); (case x => rfl); (case m => walk_at "u"))
  | (refine' U_out ?k ?m; (case k => decide); (case m => walk_at "u")))
local macro_rules | `(tactic| walk_at "r") => `(tactic| first
  | exact Rs_nil
  | (refine' Rs_in ?k ?m; (case k => decide); (case m => walk_at "r"))
  | (refine' Rs_out ?k ?m; (case k => decide); (case m => walk_at "r")))
local macro_rules | `(tactic| walk_at "v") => `(tactic| first
  | with_reducible refine s_seq ?_
  | with_reducible refine s_asg ?_
  | ((with_reducible refine' v_var ?h ?_); (case h => exact rfl))
  | ((with_reducible refine' v_own ?h ?_); (case h => exact rfl))
  | with_reducible refine v_c ?_
  | with_reducible refine v_bin ?_
  | ((with_reducible refine' wp_cD ?h ?_); (case h => exact rfl))
  | with_reducible refine v_call ?_
  | with_reducible refine a_cons ?_
  | with_reducible refine a_nil ?_
  | ((with_reducible refine' wp_cDs ?h ?_); (case h => exact rfl))
  | with_reducible refine v_fz ?_
  | with_reducible refine fz_v ?_
  | ((with_reducible refine' fz_nw ?h ?_); (case h => exact rfl))
  | ((with_reducible refine' fz_sl ?h ?h2 ?_); (case h => exact rfl); (case h2 => exact rfl))
  | with_reducible refine c_pure ?_
  | with_reducible refine kV1 ?_
  | with_reducible refine kV2 ?_
  | with_reducible refine kV3 ?_
  | with_reducible refine kV4 ?_
  | with_reducible refine kV5 ?_
  | with_reducible refine kV6 ?_
  | with_reducible refine p_addI ?_
  | with_reducible refine p_sub ?_
  | ((with_reducible refine' p_mod ?h ?_); (case h => first | decide | omega))
  | ((with_reducible refine' p_div ?h ?_); (case h => first | decide | omega))
  | ((with_reducible refine' p_mulI ?h ?_); (case h => first | exact cmul_l (by decide) | exact cmul_r (by decide) | exact cmul_l (by omega) | exact cmul_r (by omega)))
  | with_reducible refine p_eqI ?_
  | with_reducible refine p_eqS ?_
  | with_reducible refine p_neI ?_
  | with_reducible refine p_neS ?_
  | with_reducible refine p_lt ?_
  | with_reducible refine p_le ?_
  | with_reducible refine p_gt ?_
  | with_reducible refine p_ge ?_
  | with_reducible refine p_neg ?_
  | with_reducible refine p_pow6 ?_
  | with_reducible refine p_lenL ?_
  | with_reducible refine p_lenT ?_
  | with_reducible refine p_intI ?_
  | with_reducible refine p_intB ?_
  | with_reducible refine p_listL ?_
  | with_reducible refine p_listT ?_
  | with_reducible refine p_tupL ?_
  | with_reducible refine p_tupT ?_
  | with_reducible refine p_max2 ?_
  | with_reducible refine p_min2 ?_
  | with_reducible refine p_eqB ?_
  | with_reducible refine p_neB ?_
  | with_reducible refine p_isN ?_
  | with_reducible refine p_notN ?_
  | ((with_reducible refine' wp_put ?h ?_); (case h => walk_at "p"))
  | with_reducible refine s_if ?_
  | with_reducible refine t_tst ?_
  | with_reducible refine ex_b ?_
  | with_reducible refine ex_i ?_
  | with_reducible refine t_not ?_
  | with_reducible refine t_and ?_
  | with_reducible refine t_or ?_
  | with_reducible refine t_yes ?_
  | with_reducible refine s_ret ?_
  | with_reducible refine kS_nx ?_
  | with_reducible refine kS_rt ?_
  | with_reducible refine kS_bk ?_
  | with_reducible refine kS_ct ?_
  | with_reducible refine s_next ?_
  | with_reducible refine s_some ?_
  | with_reducible refine s_drop ?_
  | with_reducible refine v_tup ?_
  | with_reducible refine v_lst ?_
  | ((with_reducible refine' wp_opsD ?h ?_); (case h => exact rfl))
  | ((with_reducible refine' ck_le ?h ?_); (case h => exact rfl))
  | with_reducible refine v_un ?_
  | with_reducible refine v_and ?_
  | with_reducible refine v_or ?_
  | with_reducible refine v_not ?_
  | with_reducible refine wp_bD ?_
  | with_reducible refine v_ife ?_
  | with_reducible refine v_chain ?_
  | with_reducible refine p_leB ?_
  | with_reducible refine p_ltB ?_
  | with_reducible refine v_getS ?_
  | with_reducible refine v_lcN ?_
  | with_reducible refine v_lcR1N ?_
  | with_reducible refine v_lcR2 ?_
  | with_reducible refine wp_seqL ?_
  | with_reducible refine wp_seqT ?_
  | with_reducible refine wp_selL ?_
  | with_reducible refine wp_selTL1 ?_
  | with_reducible refine wp_selTL2 ?_
  | ((with_reducible refine' wp_unwN ?h ?_); (case h => walk_at "u"))
  | ((with_reducible refine' ex_rs ?h ?_); (case h => walk_at "r"))
  | with_reducible refine kT_y ?_
  | with_reducible refine wp_vD ?_
  | with_reducible refine s_for ?_
  | with_reducible refine s_forE ?_
  | with_reducible refine s_forR1 ?_
  | with_reducible refine s_forR2 ?_
  | with_reducible refine kL_nx ?_
  | with_reducible refine kL_ct ?_
  | with_reducible refine kL_bk ?_
  | with_reducible refine kL_rt ?_
  | with_reducible refine s_unp ?_
  | with_reducible refine t_cons ?_
  | with_reducible refine t_nil ?_
  | ((with_reducible refine' t_tup ?h ?_); (case h => exact rfl))
  | ((with_reducible refine' wp_tName ?h ?_); (case h => walk_at "p"))
  | with_reducible refine v_app ?_
  | ((with_reducible refine' ex_app ?h ?_); (case h => exact rfl))
  | with_reducible refine v_pop ?_
  | with_reducible refine v_ext ?_
  | with_reducible refine s_setI ?_
  | with_reducible refine v_cat ?_
  | with_reducible refine v_rep ?_
  | ((with_reducible refine' wp_cLn ?h ?_); (case h => exact rfl))
  | with_reducible refine v_sl ?_
  | with_reducible refine o_none ?_
  | with_reducible refine o_part ?_
  | with_reducible refine v_allN ?_
  | with_reducible refine wp_selS ?_
  | with_reducible refine v_lc2N ?_
  | with_reducible refine v_lenT ?_
  | with_reducible refine v_m1 ?_
  | with_reducible refine c_isS ?_
  | with_reducible refine c_isL ?_
  | with_reducible refine a_star ?_
  | with_reducible refine p_inSg ?_
  | with_reducible refine p_strS ?_
  | with_reducible refine p_cnt ?_
  | with_reducible refine kB_v (Nat.le_of_ble_eq_true rfl) ?_
  | with_reducible refine kB_n (Nat.le_of_ble_eq_true rfl) ?_
  | with_reducible refine kB_x (Nat.le_of_ble_eq_true rfl) ?_
  | with_reducible refine p_isiStr k_ss ?_
  | with_reducible refine p_isiStr k_st ?_
  | with_reducible refine p_isiStr k_si ?_
  | with_reducible refine p_isiStr k_sb ?_
  | with_reducible refine p_isiTup k_tt ?_
  | with_reducible refine p_isiTup k_ts ?_
  | with_reducible refine p_isiInt k_ii ?_
  | with_reducible refine p_isiInt k_ib ?_
  | with_reducible refine p_isiInt k_it ?_
  | with_reducible refine p_isiInt k_is ?_)
local macro_rules | `(tactic| walk_at "V") => `(tactic| repeat (walk_at "v"))
theorem sp_is_rule (r : Rl) (h : r.ok) : Ret f_is_rule [r.d] fun o => o = .v (.bool true) := by
  refine ret_body ?_
  show wp (m_is_rule [.fz r.d]) _
  unfold m_is_rule
  cases r with
  | fx i =>
    have h : i < 1000000 := h
    show wp (mSeq _ _ [.fz (.tuple [.str "fixed", .int (i : Int)])]) _
    walk_at "V"
    refine kIf_t rfl ?_
    walk_at "V"
    refine p_ixT (d := .str "fixed") rfl ?_
    walk_at "V"
    refine kIf_t (decide_eq_true rfl) ?_
    walk_at "V"
    refine p_ixT (d := .int (i : Int)) rfl ?_
    walk_at "V"
    refine (sp_is_value i (by omega) (by omega)).mono fun o e => ?_
    subst e
    walk_at "V"
    rfl
  | wd w =>
    have h : w ∈ (["sum", "times", "least", "most", "later", "way", "choose"] : List Str) := h
    show wp (mSeq _ _ [.fz (.tuple [.str w])]) _
    walk_at "V"
    refine kIf_f rfl ?_
    walk_at "V"
    refine kIf_t rfl ?_
    walk_at "V"
    refine p_ixT (d := .str w) rfl ?_
    walk_at "V"
    have hk : (kd_COUNTS.lookup w).isSome = true ∧ ¬ w = "fixed" := by
      simp only [List.mem_cons, List.not_mem_nil, or_false] at h
      rcases h with q | q | q | q | q | q | q <;> subst q <;> exact ⟨rfl, by decide⟩
    refine p_kdin hk.1 ?_
    walk_at "V"
    refine kIf_tt ?_
    walk_at "V"
    refine p_ixT (d := .str w) rfl ?_
    walk_at "V"
    rw [decide_eq_false hk.2]
    rfl
theorem sp_counts_fit (w : Str) (ne gi : List Str) {a b e f : Nat} (hc : cnt w = some (a, b, e, f)) (h1 : a ≤ ne.length) (h2 : ne.length ≤ b) (h3 : e ≤ gi.length) (h4 : gi.length ≤ f) : Ret f_counts_fit [.str w, sT ne, sT gi] fun o => o = .v (.bool true) := by
  refine ret_body ?_
  show wp (m_counts_fit [.fz (.str w), .fz (.tuple (ne.map PyData.str)), .fz (.tuple (gi.map PyData.str)), .un, .un, .un, .un]) _
  unfold m_counts_fit
  walk_at "V"
  refine p_kdat (look_counts w hc) ?_
  walk_at "V"
  refine kIf_t (decide_eq_true (by rw [List.length_map]; omega)) ?_
  walk_at "V"
  rw [decide_eq_true (by rw [List.length_map]; omega : ((ne.map PyData.str).length : Int) ≤ (b : Int))]
  refine kIf_tt ?_
  walk_at "V"
  refine kIf_t (decide_eq_true (by rw [List.length_map]; omega)) ?_
  walk_at "V"
  rw [decide_eq_true (by rw [List.length_map]; omega : ((gi.map PyData.str).length : Int) ≤ (f : Int))]
theorem rl_at (r : Rl) : ∃ ds, r.d = .tuple ds ∧ ds[0]? = some (.str r.w) := by
  cases r with
  | fx i => exact ⟨_, rfl, rfl⟩
  | wd w => exact ⟨_, rfl, rfl⟩
theorem ops_star (n : Str) (ne gi : List Str) : opsD (Op.v (.str n) :: ((ne.map PyData.str).map Op.v ++ ((gi.map PyData.str).map Op.v ++ []))) = some ((n :: (ne ++ gi)).map PyData.str) := by
  have h1 := opsD_v (gi.map PyData.str) [] (es := []) rfl
  have h2 := opsD_v (ne.map PyData.str) _ h1
  show (opsD _).bind _ = _
  rw [h2]
  simp
theorem sp_is_step (s : Stp) (h : StOk s) : Ret f_is_step [s.d] fun o => o = .v (.bool true) := by
  refine ret_body ?_
  show wp (m_is_step [.fz (.tuple [.str s.n, s.r.d, .tuple (s.ne.map PyData.str), .tuple (s.gi.map PyData.str)]), .un, .un, .un, .un, .un]) _
  unfold m_is_step
  walk_at "V"
  refine (sp_is_rule s.r h.r).mono fun o e => ?_
  subst e
  walk_at "V"
  refine kIf_ff ?_
  obtain ⟨ds, e1, e2⟩ := rl_at s.r
  rw [e1]
  walk_at "V"
  refine p_ixT (at_nat (k := 0) e2) ?_
  walk_at "V"
  obtain ⟨a, b, e, f, hc, h1, h2, h3, h4⟩ := h.c
  refine (sp_counts_fit s.r.w s.ne s.gi hc h1 h2 h3 h4).mono fun o eo => ?_
  subst eo
  walk_at "V"
  refine kIf_ff ?_
  walk_at "V"
  refine wp_opsD (ds := (s.n :: (s.ne ++ s.gi)).map PyData.str) (ops_star s.n s.ne s.gi) ?_
  have hlen : (s.n :: (s.ne ++ s.gi)).length ≤ 100000 := by
    have : f ≤ 3 ∧ b ≤ 4 := by
      unfold cnt at hc
      repeat (split at hc; · cases hc; omega)
      cases hc
    rw [List.length_cons, List.length_append]
    omega
  refine ⟨by rw [List.length_map]; exact hlen, ?_⟩
  walk_at "V"
  refine w_allT (f := PyData.str) (xs := s.n :: (s.ne ++ s.gi)) (fun x hx => ?_) ?_
  · walk_at "V"
    have hx' : NmOk x := by
      rcases List.mem_cons.mp hx with q | q
      · rw [q]; exact h.n
      · rcases List.mem_append.mp q with q | q
        · exact h.ne x q
        · exact h.gi x q
    refine (sp_is_name x hx').mono fun o eo => ?_
    subst eo
    exact ⟨rfl, rfl⟩
  · walk_at "V"
    rfl
/-! ### plans -/
theorem sp_given (P : List Stp) (h : (P.flatMap (·.gi)).length ≤ 100000) : Ret f_given_places [pD P] fun o => o = .nw (.lst ((P.flatMap (·.gi)).map PyData.str)) := by
  refine ret_body ?_
  show wp (m_given_places [.fz (.tuple (P.map Stp.d)), .un, .un]) _
  unfold m_given_places
  walk_at "V"
  refine w_map2 (f := Stp.d) (g := fun s => s.gi.map PyData.str) (xs := P) (fun s hs => ?_) ?_
  · show wp (tName 1 (.tuple [.str s.n, s.r.d, .tuple (s.ne.map PyData.str), .tuple (s.gi.map PyData.str)]) _) _
    walk_at "V"
    refine p_ixT (d := .tuple (s.gi.map PyData.str)) rfl ?_
    walk_at "V"
    refine w_map (f := PyData.str) (g := PyData.str) (xs := s.gi) (fun x hx => ?_) ⟨rfl, rfl⟩
    walk_at "V"
    exact ⟨rfl, rfl⟩
  · refine ⟨by rw [← List.map_flatMap, List.length_map]; exact h, ?_⟩
    walk_at "V"
    rw [List.map_flatMap]
theorem dd_nodup : ∀ (xs σ : List Str), (σ ++ xs).Nodup → xs.foldl Sst.addT σ = σ ++ xs
  | [], σ, _ => by simp
  | x :: r, σ, h => by
    have hx : σ.any (· == x) = false := by
      rw [List.any_eq_false]
      intro y hy q
      have : y = x := by simpa using q
      subst this
      exact absurd rfl ((List.nodup_append.mp h).2.2 y hy y List.mem_cons_self)
    have e : Sst.addT σ x = σ ++ [x] := by
      unfold Sst.addT
      rw [hx]
      rfl
    rw [List.foldl_cons, e]
    have := dd_nodup r (σ ++ [x]) (by simpa using h)
    simpa using this
theorem sp_unlike (ys : List Str) (h : ys.Nodup) (hl : ys.length ≤ 1000) : Ret f_all_unlike [.list (ys.map PyData.str)] fun o => o = .v (.bool true) := by
  refine ret_body ?_
  show wp (m_all_unlike [.fz (.list (ys.map PyData.str))]) _
  unfold m_all_unlike
  walk_at "V"
  refine ⟨ys, rfl, hl, ?_⟩
  walk_at "V"
  rw [show Sst.ddT ys = ys from dd_nodup ys [] (by simpa using h)]
  rw [decide_eq_true (by rw [List.length_map])]
theorem sp_is_plan (P : List Stp) (h : PlOk P) : Ret f_is_plan [pD P] fun o => o = .v (.bool true) := by
  have h1 := h.lo
  have h2 := h.hi
  have hg : (P.flatMap (·.gi)).length ≤ 60 := by
    have key : ∀ l : List Stp, (∀ s ∈ l, s.gi.length ≤ 3) → (l.flatMap (·.gi)).length ≤ 3 * l.length := by
      intro l
      induction l with
      | nil => intro _; simp
      | cons a r ih =>
        intro hl
        have e1 := hl a List.mem_cons_self
        have e2 := ih fun s hs => hl s (List.mem_cons_of_mem _ hs)
        rw [List.flatMap_cons, List.length_append, List.length_cons]
        omega
    have := key P fun s hs => by
      obtain ⟨a, b, e, f, hc, _, _, _, h4⟩ := (h.st s hs).c
      have : f ≤ 3 := by
        unfold cnt at hc
        repeat (split at hc; · cases hc; omega)
        cases hc
      omega
    omega
  refine ret_body ?_
  show wp (m_is_plan [.fz (.tuple (P.map Stp.d)), .un]) _
  unfold m_is_plan
  walk_at "V"
  refine kIf_t (decide_eq_true (by rw [List.length_map]; omega)) ?_
  walk_at "V"
  refine kIf_f (by rw [decide_eq_true (by rw [List.length_map]; omega : ((P.map Stp.d).length : Int) ≤ 20)]; rfl) ?_
  walk_at "V"
  refine w_allT (f := Stp.d) (xs := P) (fun s hs => ?_) ?_
  · walk_at "V"
    refine (sp_is_step s (h.st s hs)).mono fun o eo => ?_
    subst eo
    exact ⟨rfl, rfl⟩
  walk_at "V"
  refine kIf_ff ?_
  walk_at "V"
  refine w_map (f := Stp.d) (g := fun s => PyData.str s.n) (xs := P) (fun s hs => ?_) ?_
  · show wp (tName 1 (.tuple [.str s.n, s.r.d, .tuple (s.ne.map PyData.str), .tuple (s.gi.map PyData.str)]) _) _
    walk_at "V"
    refine p_ixT (d := .str s.n) rfl ?_
    walk_at "V"
    exact ⟨rfl, rfl⟩
  refine ⟨by rw [List.length_map]; omega, ?_⟩
  walk_at "V"
  have hn := sp_unlike (P.map (·.n)) h.nn (by rw [List.length_map]; omega)
  rw [List.map_map] at hn
  refine hn.mono fun o eo => ?_
  subst eo
  walk_at "V"
  refine kIf_tt ?_
  walk_at "V"
  refine (sp_given P (by omega)).mono fun o eo => ?_
  subst eo
  walk_at "V"
  refine (sp_unlike _ h.gg (by omega)).mono fun o eo => ?_
  subst eo
  walk_at "V"
  rfl
end K12
-- K12e.lean
set_option Elab.async false
set_option linter.all false
set_option maxRecDepth 100000
set_option maxHeartbeats 1000000
/-! K12e: plans as texts. -/
namespace K12
open PySem L2 Sh
local macro_rules | `(tactic| walk_at "p") => `(tactic| first
  | exact put_vz rfl
  | exact put_nz rfl
  | (refine' put_vs ?m; (case m => walk_at "p"))
  | (refine' put_ns ?m; (case m => walk_at "p")))
local macro_rules | `(tactic| walk_at "u") => `(tactic| first
  | exact U_nil
  | (refine' U_in ?k ?x ?m; (case k => decide); (case x => rfl); (case m => walk_at "u"))
  | (refine' U_out ?k ?m; (case k => decide); (case m => walk_at "u")))
local macro_rules | `(tactic| walk_at "r") => `(tactic| first
  | exact Rs_nil
  | (refine' Rs_in ?k ?m; (case k => decide); (case m => walk_at "r"))
  | (refine' Rs_out ?k ?m; (case k => decide); (case m => walk_at "r")))
local macro_rules | `(tactic| walk_at "v") => `(tactic| first
  | with_reducible refine s_seq ?_
  | with_reducible refine s_asg ?_
  | ((with_reducible refine' v_var ?h ?_); (case h => exact rfl))
  | ((with_reducible refine' v_own ?h ?_); (case h => exact rfl))
  | with_reducible refine v_c ?_
  | with_reducible refine v_bin ?_
  | ((with_reducible refine' wp_cD ?h ?_); (case h => exact rfl))
  | with_reducible refine v_call ?_
  | with_reducible refine a_cons ?_
  | with_reducible refine a_nil ?_
  | ((with_reducible refine' wp_cDs ?h ?_); (case h => exact rfl))
  | with_reducible refine v_fz ?_
  | with_reducible refine fz_v ?_
  | ((with_reducible refine' fz_nw ?h ?_); (case h => exact rfl))
  | ((with_reducible refine' fz_sl ?h ?h2 ?_); (case h => exact rfl); (case h2 => exact rfl))
  | with_reducible refine c_pure ?_
  | with_reducible refine kV1 ?_
  | with_reducible refine kV2 ?_
  | with_reducible refine kV3 ?_
  | with_reducible refine kV4 ?_
  | with_reducible refine kV5 ?_
  | with_reducible refine kV6 ?_
  | with_reducible refine p_addI ?_
  | with_reducible refine p_sub ?_
  | ((with_reducible refine' p_mod ?h ?_); (case h => first | decide | omega))
  | ((with_reducible refine' p_div ?h ?_); (case h => first | decide | omega))
  | ((with_reducible refine' p_mulI ?h ?_); (case h => first | exact cmul_l (by decide) | exact cmul_r (by decide) | exact cmul_l (by omega) | exact cmul_r (by omega)))
  | with_reducible refine p_eqI ?_
  | with_reducible refine p_eqS ?_
  | with_reducible refine p_neI ?_
  | with_reducible refine p_neS ?_
  | with_reducible refine p_lt ?_
  | with_reducible refine p_le ?_
  | with_reducible refine p_gt ?_
  | with_reducible refine p_ge ?_
  | with_reducible refine p_neg ?_
  | with_reducible refine p_pow6 ?_
  | with_reducible refine p_lenL ?_
  | with_reducible refine p_lenT ?_
  | with_reducible refine p_intI ?_
  | with_reducible refine p_intB ?_
  | with_reducible refine p_listL ?_
  | with_reducible refine p_listT ?_
  | with_reducible refine p_tupL ?_
  | with_reducible refine p_tupT ?_
  | with_reducible refine p_max2 ?_
  | with_reducible refine p_min2 ?_
  | with_reducible refine p_eqB ?_
  | with_reducible refine p_neB ?_
  | with_reducible refine p_isN ?_
  | with_reducible refine p_notN ?_
  | ((with_reducible refine' wp_put ?h ?_); (case h => walk_at "p"))
  | with_reducible refine s_if ?_
  | with_reducible refine t_tst ?_
  | with_reducible refine ex_b ?_
  | with_reducible refine ex_i ?_
  | with_reducible refine t_not ?_
  | with_reducible refine t_and ?_
  | with_reducible refine t_or ?_
  | with_reducible refine t_yes ?_
  | with_reducible refine s_ret ?_
  | with_reducible refine kS_nx ?_
  | with_reducible refine kS_rt ?_
  | with_reducible refine kS_bk ?_
  | with_reducible refine kS_ct ?_
  | with_reducible refine s_next ?_
  | with_reducible refine s_some ?_
  | with_reducible refine s_drop ?_
  | with_reducible refine v_tup ?_
  | with_reducible refine v_lst ?_
  | ((with_reducible refine' wp_opsD ?h ?_); (case h => exact rfl))
  | ((with_reducible refine' ck_le ?h ?_); (case h => exact rfl))
  | with_reducible refine v_un ?_
  | with_reducible refine v_and ?_
  | with_reducible refine v_or ?_
  | with_reducible refine v_not ?_
  | with_reducible refine wp_bD ?_
  | with_reducible refine v_ife ?_
  | with_reducible refine v_chain ?_
  | with_reducible refine p_leB ?_
  | with_reducible refine p_ltB ?_
  | with_reducible refine v_getS ?_
  | with_reducible refine v_lcN ?_
  | with_reducible refine v_lcR1N ?_
  | with_reducible refine v_lcR2 ?_
  | with_reducible refine wp_seqL ?_
  | with_reducible refine wp_seqT ?_
  | with_reducible refine wp_selL ?_
  | with_reducible refine wp_selTL1 ?_
  | with_reducible refine wp_selTL2 ?_
  | ((with_reducible refine' wp_unwN ?h ?_); (case h => walk_at "u"))
  | ((with_reducible refine' ex_rs ?h ?_); (case h => walk_at "r"))
  | with_reducible refine kT_y ?_
  | with_reducible refine wp_vD ?_
  | with_reducible refine s_for ?_
  | with_reducible refine s_forE ?_
  | with_reducible refine s_forR1 ?_
  | with_reducible refine s_forR2 ?_
  | with_reducible refine kL_nx ?_
  | with_reducible refine kL_ct ?_
  | with_reducible refine kL_bk ?_
  | with_reducible refine kL_rt ?_
  | with_reducible refine s_unp ?_
  | with_reducible refine t_cons ?_
  | with_reducible refine t_nil ?_
  | ((with_reducible refine' t_tup ?h ?_); (case h => exact rfl))
  | ((with_reducible refine' wp_tName ?h ?_); (case h => walk_at "p"))
  | with_reducible refine v_app ?_
  | ((with_reducible refine' ex_app ?h ?_); (case h => exact rfl))
  | with_reducible refine v_pop ?_
  | with_reducible refine v_ext ?_
  | with_reducible refine s_setI ?_
  | with_reducible refine v_cat ?_
  | with_reducible refine v_rep ?_
  | ((with_reducible refine' wp_cLn ?h ?_); (case h => exact rfl))
  | with_reducible refine v_sl ?_
  | with_reducible refine o_none ?_
  | with_reducible refine o_part ?_
  | with_reducible refine v_allN ?_
  | with_reducible refine wp_selS ?_
  | with_reducible refine v_lc2N ?_
  | with_reducible refine v_lenT ?_
  | with_reducible refine v_m1 ?_
  | with_reducible refine c_isS ?_
  | with_reducible refine c_isL ?_
  | with_reducible refine a_star ?_
  | with_reducible refine p_inSg ?_
  | with_reducible refine p_strS ?_
  | with_reducible refine p_cnt ?_
  | with_reducible refine kB_v (Nat.le_of_ble_eq_true rfl) ?_
  | with_reducible refine kB_n (Nat.le_of_ble_eq_true rfl) ?_
  | with_reducible refine kB_x (Nat.le_of_ble_eq_true rfl) ?_
  | with_reducible refine p_isiStr k_ss ?_
  | with_reducible refine p_isiStr k_st ?_
  | with_reducible refine p_isiStr k_si ?_
  | with_reducible refine p_isiStr k_sb ?_
  | with_reducible refine p_isiTup k_tt ?_
  | with_reducible refine p_isiTup k_ts ?_
  | with_reducible refine p_isiInt k_ii ?_
  | with_reducible refine p_isiInt k_ib ?_
  | with_reducible refine p_isiInt k_it ?_
  | with_reducible refine p_isiInt k_is ?_)
local macro_rules | `(tactic| walk_at "V") => `(tactic| repeat (walk_at "v"))
def numT (i : Nat) : Str := Str.ofString (toString (i : Int))
def Rl.ws : Rl → List Str
  | .fx i => ["fixed", numT i]
  | .wd w => [w]
def Stp.ws (s : Stp) : List Str := s.n :: (s.r.ws ++ (s.ne ++ (("->" : Str) :: s.gi)))
def Stp.line (s : Stp) : Str := Txt.join " " s.ws
def Stp.row (s : Stp) : Str := s.line ++ "\n"
def txt (P : List Stp) : Str := Txt.join "" (P.map Stp.row)
theorem tl_numT (i : Nat) : (numT i).cps.toList = TL.numL i := TL.tl_num i
theorem len_list (x : Str) : x.length = x.cps.toList.length := (Array.length_toList).symm
theorem numT_len {i : Nat} (h : i < 1000000) : (numT i).length ≤ 6 := by
  rw [len_list, tl_numT]
  exact TL.numL_len (k := 6) (by decide) (by omega)
theorem ws_len (s : Stp) (h : StOk s) : (∀ y ∈ s.ws, y.length ≤ 8) ∧ s.ws.length ≤ 11 := by
  obtain ⟨a, b, e, f, hc, _, h2, _, h4⟩ := h.c
  have hb : f ≤ 3 ∧ b ≤ 4 := by
    unfold cnt at hc
    repeat (split at hc; · cases hc; omega)
    cases hc
  constructor
  · intro y hy
    unfold Stp.ws at hy
    rcases List.mem_cons.mp hy with q | q
    · rw [q]; exact h.n.len
    rcases List.mem_append.mp q with q | q
    · cases hr : s.r with
      | fx i =>
        rw [hr] at q
        have hi : i < 1000000 := by have := h.r; rw [hr] at this; exact this
        have q : y ∈ ([("fixed" : Str), numT i] : List Str) := q
        rcases List.mem_cons.mp q with q | q
        · rw [q]; decide
        · rw [List.mem_singleton.mp q]
          have := numT_len hi
          omega
      | wd w =>
        rw [hr] at q
        have hw : w ∈ (["sum", "times", "least", "most", "later", "way", "choose"] : List Str) := by have := h.r; rw [hr] at this; exact this
        have q : y ∈ ([w] : List Str) := q
        rw [List.mem_singleton.mp q]
        simp only [List.mem_cons, List.not_mem_nil, or_false] at hw
        rcases hw with z | z | z | z | z | z | z <;> subst z <;> decide
    rcases List.mem_append.mp q with q | q
    · exact (h.ne y q).len
    rcases List.mem_cons.mp q with q | q
    · rw [q]; decide
    · exact (h.gi y q).len
  · unfold Stp.ws
    have : s.r.ws.length ≤ 2 := by
      cases s.r with
      | fx i => exact Nat.le_refl _
      | wd w => exact Nat.le_succ _
    rw [List.length_cons, List.length_append, List.length_append, List.length_cons]
    omega
theorem sum_le {n : Nat} : ∀ {l : List Str}, (∀ y ∈ l, y.length ≤ n) → (l.map (·.length)).sum ≤ l.length * n
  | [], _ => Nat.zero_le _
  | x :: l, h => by
    have h1 := h x List.mem_cons_self
    have h2 := sum_le (l := l) fun y hy => h y (List.mem_cons_of_mem _ hy)
    rw [List.map_cons, List.sum_cons, List.length_cons, Nat.succ_mul]
    omega
theorem line_len (s : Stp) (h : StOk s) : s.line.length ≤ 99 := by
  obtain ⟨h1, h2⟩ := ws_len s h
  have h3 := sum_le h1
  have h4 := StrLaws.join_length_le " " s.ws
  rw [← TL.join_eq] at h4
  have e : (" " : Str).length = 1 := by decide
  rw [e] at h4
  show (Txt.join " " s.ws).length ≤ 99
  omega
def strD : D → D
  | .int i => .str (Str.ofString (toString i))
  | d => d
theorem log_small {i : Nat} (h : i < 1000000) : ((i : Int).natAbs).log2 < 1920 := by
  rw [Int.natAbs_natCast]
  by_cases h0 : i = 0
  · subst h0; decide
  · exact (Nat.log2_lt h0).mpr (Nat.lt_of_lt_of_le (show i < 2 ^ 20 by omega) (by exact Nat.pow_le_pow_right (by decide) (by decide)))
theorem ops_star2 (ne gi : List Str) : opsD ((ne.map PyData.str).map Op.v ++ (Op.v (.str "->") :: ((gi.map PyData.str).map Op.v ++ []))) = some ((ne ++ (("->" : Str) :: gi)).map PyData.str) := by
  have h1 := opsD_v (gi.map PyData.str) [] (es := []) rfl
  have h2 : opsD (Op.v (.str "->") :: ((gi.map PyData.str).map Op.v ++ [])) = some (.str "->" :: (gi.map PyData.str ++ [])) := by
    show (opsD _).bind _ = _
    rw [h1]
    rfl
  have h3 := opsD_v (ne.map PyData.str) _ h2
  rw [h3]
  simp
theorem sp_shown_row (s : Stp) (h : StOk s) : Ret f_shown_row [s.d] fun o => o = .v (.str s.row) := by
  obtain ⟨h1, h2⟩ := ws_len s h
  have h3 := sum_le h1
  have h4 := line_len s h
  refine ret_body ?_
  show wp (m_shown_row [.fz (.tuple [.str s.n, s.r.d, .tuple (s.ne.map PyData.str), .tuple (s.gi.map PyData.str)]), .un, .un, .un, .un, .un, .un]) _
  unfold m_shown_row
  have body : ∀ (ds : List D) (ws : List Str), s.r.d = .tuple ds → s.r.ws = ws → ds.map strD = ws.map PyData.str → (∀ d ∈ ds, (∃ x, d = .str x) ∨ ∃ i : Nat, d = .int (i : Int) ∧ i < 1000000) → ds.length ≤ 2 →
      wp ((mSeq (mUnp (mVar 0) (tTupT 4 (tConsT (tName 1) (tConsT (tName 2) (tConsT (tName 3) (tConsT (tName 4) tNilT))))))
  (mSeq (mAsg (mLst (mACons (mFz (mVar 1)) mANil)) 5)
  (mSeq (mDrop (mExt 5 (mLc seqD (mVar 2) (tName 6) mYes (mCall (f1 fStr) (mACons (mVar 6) mANil)) [6])))
  (mSeq (mDrop (mExt 5 (mLst (mAStar (mVar 3) (mACons (mFz (mC (.str "->"))) (mAStar (mVar 4) mANil))))))
  (mRet (mBin fAdd (mM1 isS fJoin (mC (.str " ")) (mVar 5)) (mC (.str "\n")))))))) [.fz (.tuple [.str s.n, .tuple ds, .tuple (s.ne.map PyData.str), .tuple (s.gi.map PyData.str)]), .un, .un, .un, .un, .un, .un]) (kB [s.d] fun o => o = .v (.str s.row)) := by
    intro ds ws e1 e2 e3 hds hl
    walk_at "V"
    refine w_mapI (g := strD) (fun d hd => ?_) ?_
    · walk_at "V"
      rcases hds d hd with ⟨x, rfl⟩ | ⟨i, rfl, hi⟩
      · walk_at "V"
        exact ⟨rfl, rfl⟩
      · refine p_strI (log_small hi) ?_
        walk_at "V"
        exact ⟨rfl, rfl⟩
    refine ⟨by rw [List.length_map]; omega, ?_⟩
    walk_at "V"
    refine ⟨by simp; omega, ?_⟩
    walk_at "V"
    refine wp_opsD (ds := (s.ne ++ (("->" : Str) :: s.gi)).map PyData.str) (ops_star2 s.ne s.gi) ?_
    have hw : s.ws = [s.n] ++ ws ++ (s.ne ++ (("->" : Str) :: s.gi)) := by
      unfold Stp.ws
      rw [e2]
      simp
    have hlen : (s.ne ++ (("->" : Str) :: s.gi)).length ≤ 11 := by
      have := congrArg List.length hw
      rw [List.length_append] at this
      omega
    refine ⟨by rw [List.length_map]; omega, ?_⟩
    walk_at "V"
    refine ⟨by simp at hlen ⊢; omega, ?_⟩
    walk_at "V"
    have hc : ([PyData.str s.n] ++ ds.map strD ++ (s.ne ++ (("->" : Str) :: s.gi)).map PyData.str) = s.ws.map PyData.str := by
      rw [hw, e3]
      simp
    rw [hc]
    refine p_join (by have e : (" " : Str).length = 1 := by decide
                      rw [e]; omega) ?_
    walk_at "V"
    refine p_addS (by have e : ("\n" : Str).length = 1 := by decide
                      have : (Txt.join " " s.ws).length ≤ 99 := h4
                      rw [e]; omega) ?_
    walk_at "V"
    rfl
  cases hr : s.r with
  | fx i =>
    have hi : i < 1000000 := by have := h.r; rw [hr] at this; exact this
    refine body [.str "fixed", .int (i : Int)] ["fixed", numT i] (by rw [hr]; rfl) (by rw [hr]; rfl) rfl (fun d hd => ?_) (Nat.le_refl _)
    rcases List.mem_cons.mp hd with q | q
    · exact .inl ⟨_, q⟩
    · exact .inr ⟨i, List.mem_singleton.mp q, hi⟩
  | wd w =>
    refine body [.str w] [w] (by rw [hr]; rfl) (by rw [hr]; rfl) rfl (fun d hd => .inl ⟨w, List.mem_singleton.mp hd⟩) (Nat.le_succ _)
theorem row_len (s : Stp) (h : StOk s) : s.row.length ≤ 100 := by
  have h1 := line_len s h
  show (s.line ++ "\n").length ≤ 100
  rw [Str.length_append]
  have e : ("\n" : Str).length = 1 := by decide
  omega
theorem txt_len (P : List Stp) (h : ∀ s ∈ P, StOk s) : ((P.map Stp.row).map (·.length)).sum ≤ P.length * 100 := by
  have := sum_le (n := 100) (l := P.map Stp.row) fun y hy => by
    obtain ⟨s, hs, rfl⟩ := List.mem_map.mp hy
    exact row_len s (h s hs)
  rw [List.length_map] at this
  exact this
theorem sp_shown (P : List Stp) (h : ∀ s ∈ P, StOk s) (hl : P.length ≤ 20) : Ret f_shown [pD P] fun o => o = .v (.str (txt P)) := by
  refine ret_body ?_
  show wp (m_shown [.fz (.tuple (P.map Stp.d)), .un]) _
  unfold m_shown
  walk_at "V"
  refine w_map (f := Stp.d) (g := fun s => PyData.str s.row) (xs := P) (fun s hs => ?_) ?_
  · walk_at "V"
    refine (sp_shown_row s (h s hs)).mono fun o eo => ?_
    subst eo
    walk_at "V"
    exact ⟨rfl, rfl⟩
  refine ⟨by rw [List.length_map]; omega, ?_⟩
  walk_at "V"
  have e : P.map (fun s => PyData.str s.row) = (P.map Stp.row).map PyData.str := by
    rw [List.map_map]
    rfl
  rw [e]
  have := txt_len P h
  refine p_join (by have e : ("" : Str).length = 0 := by decide
                    rw [e]; omega) ?_
  walk_at "V"
  rfl
end K12
-- K12f.lean
set_option Elab.async false
set_option linter.all false
set_option maxRecDepth 100000
set_option maxHeartbeats 1000000
/-! K12f: texts as plans. -/
namespace K12
open PySem L2 Sh
local macro_rules | `(tactic| walk_at "p") => `(tactic| first
  | exact put_vz rfl
  | exact put_nz rfl
  | (refine' put_vs ?m; (case m => walk_at "p"))
  | (refine' put_ns ?m; (case m => walk_at "p")))
local macro_rules | `(tactic| walk_at "u") => `(tactic| first
  | exact U_nil
  | (refine' U_in ?k ?x ?m; (case k => decide); (case x => rfl); (case m => walk_at "u"))
  | (refine' U_out ?k ?m; (case k => decide); (case m => walk_at "u")))
local macro_rules | `(tactic| walk_at "r") => `(tactic| first
  | exact Rs_nil
  | (refine' Rs_in ?k ?m; (case k => decide); (case m => walk_at "r"))
  | (refine' Rs_out ?k ?m; (case k => decide); (case m => walk_at "r")))
local macro_rules | `(tactic| walk_at "v") => `(tactic| first
  | with_reducible refine s_seq ?_
  | with_reducible refine s_asg ?_
  | ((with_reducible refine' v_var ?h ?_); (case h => exact rfl))
  | ((with_reducible refine' v_own ?h ?_); (case h => exact rfl))
  | with_reducible refine v_c ?_
  | with_reducible refine v_bin ?_
  | ((with_reducible refine' wp_cD ?h ?_); (case h => exact rfl))
  | with_reducible refine v_call ?_
  | with_reducible refine a_cons ?_
  | with_reducible refine a_nil ?_
  | ((with_reducible refine' wp_cDs ?h ?_); (case h => exact rfl))
  | with_reducible refine v_fz ?_
  | with_reducible refine fz_v ?_
  | ((with_reducible refine' fz_nw ?h ?_); (case h => exact rfl))
  | ((with_reducible refine' fz_sl ?h ?h2 ?_); (case h => exact rfl); (case h2 => exact rfl))
  | with_reducible refine c_pure ?_
  | with_reducible refine kV1 ?_
  | with_reducible refine kV2 ?_
  | with_reducible refine kV3 ?_
  | with_reducible refine kV4 ?_
  | with_reducible refine kV5 ?_
  | with_reducible refine kV6 ?_
  | with_reducible refine p_addI ?_
  | with_reducible refine p_sub ?_
  | ((with_reducible refine' p_mod ?h ?_); (case h => first | decide | omega))
  | ((with_reducible refine' p_div ?h ?_); (case h => first | decide | omega))
  | ((with_reducible refine' p_mulI ?h ?_); (case h => first | exact cmul_l (by decide) | exact cmul_r (by decide) | exact cmul_l (by omega) | exact cmul_r (by omega)))
  | with_reducible refine p_eqI ?_
  | with_reducible refine p_eqS ?_
  | with_reducible refine p_neI ?_
  | with_reducible refine p_neS ?_
  | with_reducible refine p_lt ?_
  | with_reducible refine p_le ?_
  | with_reducible refine p_gt ?_
  | with_reducible refine p_ge ?_
  | with_reducible refine p_neg ?_
  | with_reducible refine p_pow6 ?_
  | with_reducible refine p_lenL ?_
  | with_reducible refine p_lenT ?_
  | with_reducible refine p_intI ?_
  | with_reducible refine p_intB ?_
  | with_reducible refine p_listL ?_
  | with_reducible refine p_listT ?_
  | with_reducible refine p_tupL ?_
  | with_reducible refine p_tupT ?_
  | with_reducible refine p_max2 ?_
  | with_reducible refine p_min2 ?_
  | with_reducible refine p_eqB ?_
  | with_reducible refine p_neB ?_
  | with_reducible refine p_isN ?_
  | with_reducible refine p_notN ?_
  | ((with_reducible refine' wp_put ?h ?_); (case h => walk_at "p"))
  | with_reducible refine s_if ?_
  | with_reducible refine t_tst ?_
  | with_reducible refine ex_b ?_
  | with_reducible refine ex_i ?_
  | with_reducible refine t_not ?_
  | with_reducible refine t_and ?_
  | with_reducible refine t_or ?_
  | with_reducible refine t_yes ?_
  | with_reducible refine s_ret ?_
  | with_reducible refine kS_nx ?_
  | with_reducible refine kS_rt ?_
  | with_reducible refine kS_bk ?_
  | with_reducible refine kS_ct ?_
  | with_reducible refine s_next ?_
  | with_reducible refine s_some ?_
  | with_reducible refine s_drop ?_
  | with_reducible refine v_tup ?_
  | with_reducible refine v_lst ?_
  | ((with_reducible refine' wp_opsD ?h ?_); (case h => exact rfl))
  | ((with_reducible refine' ck_le ?h ?_); (case h => exact rfl))
  | with_reducible refine v_un ?_
  | with_reducible refine v_and ?_
  | with_reducible refine v_or ?_
  | with_reducible refine v_not ?_
  | with_reducible refine wp_bD ?_
  | with_reducible refine v_ife ?_
  | with_reducible refine v_chain ?_
  | with_reducible refine p_leB ?_
  | with_reducible refine p_ltB ?_
  | with_reducible refine v_getS ?_
  | with_reducible refine v_lcN ?_
  | with_reducible refine v_lcR1N ?_
  | with_reducible refine v_lcR2 ?_
  | with_reducible refine wp_seqL ?_
  | with_reducible refine wp_seqT ?_
  | with_reducible refine wp_selL ?_
  | with_reducible refine wp_selTL1 ?_
  | with_reducible refine wp_selTL2 ?_
  | ((with_reducible refine' wp_unwN ?h ?_); (case h => walk_at "u"))
  | ((with_reducible refine' ex_rs ?h ?_); (case h => walk_at "r"))
  | with_reducible refine kT_y ?_
  | with_reducible refine wp_vD ?_
  | with_reducible refine s_for ?_
  | with_reducible refine s_forE ?_
  | with_reducible refine s_forR1 ?_
  | with_reducible refine s_forR2 ?_
  | with_reducible refine kL_nx ?_
  | with_reducible refine kL_ct ?_
  | with_reducible refine kL_bk ?_
  | with_reducible refine kL_rt ?_
  | with_reducible refine s_unp ?_
  | with_reducible refine t_cons ?_
  | with_reducible refine t_nil ?_
  | ((with_reducible refine' t_tup ?h ?_); (case h => exact rfl))
  | ((with_reducible refine' wp_tName ?h ?_); (case h => walk_at "p"))
  | with_reducible refine v_app ?_
  | ((with_reducible refine' ex_app ?h ?_); (case h => exact rfl))
  | with_reducible refine v_pop ?_
  | with_reducible refine v_ext ?_
  | with_reducible refine s_setI ?_
  | with_reducible refine v_cat ?_
  | with_reducible refine v_rep ?_
  | ((with_reducible refine' wp_cLn ?h ?_); (case h => exact rfl))
  | with_reducible refine v_sl ?_
  | with_reducible refine o_none ?_
  | with_reducible refine o_part ?_
  | with_reducible refine v_allN ?_
  | with_reducible refine wp_selS ?_
  | with_reducible refine v_lc2N ?_
  | with_reducible refine v_lenT ?_
  | with_reducible refine v_m1 ?_
  | with_reducible refine c_isS ?_
  | with_reducible refine c_isL ?_
  | with_reducible refine a_star ?_
  | with_reducible refine p_inSg ?_
  | with_reducible refine p_strS ?_
  | with_reducible refine p_cnt ?_
  | with_reducible refine kB_v (Nat.le_of_ble_eq_true rfl) ?_
  | with_reducible refine kB_n (Nat.le_of_ble_eq_true rfl) ?_
  | with_reducible refine kB_x (Nat.le_of_ble_eq_true rfl) ?_
  | with_reducible refine p_isiStr k_ss ?_
  | with_reducible refine p_isiStr k_st ?_
  | with_reducible refine p_isiStr k_si ?_
  | with_reducible refine p_isiStr k_sb ?_
  | with_reducible refine p_isiTup k_tt ?_
  | with_reducible refine p_isiTup k_ts ?_
  | with_reducible refine p_isiInt k_ii ?_
  | with_reducible refine p_isiInt k_ib ?_
  | with_reducible refine p_isiInt k_it ?_
  | with_reducible refine p_isiInt k_is ?_)
local macro_rules | `(tactic| walk_at "V") => `(tactic| repeat (walk_at "v"))
section
variable {Q : Op → SL → Prop} {s : SL}
theorem p_slL {ds : List D} {lo hi : Option Int} (q : Q (.nw (.lst (cutD ds lo hi))) s) : wp (fSl (.list ds) lo hi) (kR Q s) := ⟨_, rfl, q⟩
theorem p_neL1 {w x : Str} (hw : PyData.strOk w = true) (hx : PyData.strOk x = true) (q : Q (.v (.bool (!decide (w = x)))) s) : wp (fNe (.list [.str w]) (.list [.str x])) (kR Q s) := by
  have e : fNe (.list [.str w]) (.list [.str x]) = some (.d (.bool (!decide (w = x)))) := by
    have e1 : (SeqAt.shaped (.list [.str w]) && SeqAt.shaped (.list [.str x])) = true := by
      simp [SeqAt.shaped, PyData.canLay0, PyData.canLayAll0, PyData.depth, PyData.depthAll, hw, hx]
    show (if (SeqAt.shaped (.list [.str w]) && SeqAt.shaped (.list [.str x])) = true then some (Res.d (.bool (!PyData.eqv (.list [.str w]) (.list [.str x])))) else none) = _
    rw [if_pos e1]
    have e2 : PyData.eqv (.list [.str w]) (.list [.str x]) = decide (w = x) := by
      simp [PyData.eqv, PyData.eqvAll]
      rw [Bool.eq_iff_iff]
      simp
    rw [e2]
  exact ⟨_, e, q⟩
end
theorem cut_1 {ds : List D} : cutD ds none (some 1) = ds.take 1 := by
  unfold cutD
  rw [show (some (1 : Int)) = some ((1 : Nat) : Int) from rfl, HT.sIx_nat, HT.sIx_none, List.drop_zero, Nat.sub_zero]
  cases ds with
  | nil => rfl
  | cons a r => rw [show min 1 (a :: r).length = 1 by simp]
theorem cut_from {ds : List D} {i : Nat} : cutD ds (some (i : Int)) none = ds.drop i := by
  unfold cutD
  rw [HT.sIx_nat, HT.sIx_none]
  by_cases h : i ≤ ds.length
  · rw [Nat.min_eq_left h, List.take_of_length_le (by simp)]
  · rw [Nat.min_eq_right (by omega), List.drop_of_length_le (Nat.le_refl _), List.drop_of_length_le (by omega)]
    simp
theorem cut_mid {ds : List D} {i j : Nat} (h : i ≤ j) (hj : j ≤ ds.length) : cutD ds (some (i : Int)) (some (j : Int)) = (ds.drop i).take (j - i) := by
  unfold cutD
  simp only [HT.sIx_nat, Nat.min_eq_left hj, Nat.min_eq_left (Nat.le_trans h hj)]
theorem cut_last {ds : List D} {d : D} : cutD (ds ++ [d]) none (some (-1)) = ds := by
  unfold cutD
  have e : HT.sIx (ds ++ [d]).length (ds ++ [d]).length (some (-1)) = ds.length := by
    show (if (-1 : Int) < 0 then ((-1 : Int) + ((ds ++ [d]).length : Int)).toNat else min (-1 : Int).toNat (ds ++ [d]).length) = _
    rw [if_pos (by decide), List.length_append, List.length_singleton]
    omega
  rw [e, HT.sIx_none]
  simp
theorem at_last {α : Type} {ds : List α} {d : α} : atI (ds ++ [d]) (-1) = some d := by
  unfold atI ixN
  rw [if_neg (by decide), if_pos (by rw [List.length_append, List.length_singleton]; omega)]
  have e : ((-1 : Int) + ((ds ++ [d]).length : Int)).toNat = ds.length := by
    rw [List.length_append, List.length_singleton]
    omega
  show (ds ++ [d])[((-1 : Int) + ((ds ++ [d]).length : Int)).toNat]? = some d
  rw [e]
  simp
theorem num_lead (n : Nat) (h : 0 < n) : ∃ c r, TL.numL n = c :: r ∧ c ≠ 48 := by
  induction n using Nat.strongRecOn with
  | _ n ih =>
    by_cases h1 : n < 10
    · exact ⟨_, _, TL.numL_lt h1, by omega⟩
    · obtain ⟨c, r, e, hc⟩ := ih (n / 10) (by omega) (by omega)
      exact ⟨c, r ++ [48 + n % 10], by rw [TL.numL_step (by omega), e]; rfl, hc⟩
theorem str_ext {x y : Str} (h : x.cps.toList = y.cps.toList) : x = y := by
  obtain ⟨⟨a⟩⟩ := x
  obtain ⟨⟨b⟩⟩ := y
  have h : a = b := h
  rw [h]
def figs : List Nat := ("0123456789" : Str).cps.toList
theorem fig_mem {c : Nat} (h : 48 ≤ c ∧ c ≤ 57) : c ∈ figs := by
  have e : figs = [48, 49, 50, 51, 52, 53, 54, 55, 56, 57] := by decide +kernel
  rw [e]
  simp only [List.mem_cons, List.not_mem_nil, or_false]
  omega
theorem sp_is_number (i : Nat) (hi : i < 1000000) : Ret f_is_number [.str (numT i)] fun o => o = .v (.bool true) := by
  have hl := numT_len hi
  have hne := TL.numL_ne i
  have h1 : 1 ≤ (numT i).length := by
    rw [len_list, tl_numT]
    cases q : TL.numL i with
    | nil => exact absurd q hne
    | cons a r => simp
  refine ret_body ?_
  show wp (m_is_number [.fz (.str (numT i)), .un]) _
  unfold m_is_number
  walk_at "V"
  refine p_lenS (by omega) ?_
  walk_at "V"
  refine kIf_t (decide_eq_true (by omega)) ?_
  walk_at "V"
  refine kIf_f (by rw [decide_eq_true (by omega : ((numT i).length : Int) ≤ 6)]; rfl) ?_
  walk_at "V"
  refine w_allT (f := fun n => PyData.str ⟨#[n]⟩) (xs := (numT i).cps.toList) (fun n hn => ?_) ?_
  · walk_at "V"
    rw [tl_numT] at hn
    have q := TL.numL_digits i n hn
    rw [show decide (n ∈ ("0123456789" : Str).cps.toList) = true from decide_eq_true (fig_mem q)]
    exact ⟨rfl, rfl⟩
  walk_at "V"
  refine kIf_ff ?_
  walk_at "V"
  by_cases h0 : i = 0
  · subst h0
    refine kIf_t (decide_eq_true (by decide +kernel)) ?_
    walk_at "V"
    rfl
  · obtain ⟨c, r, e, hc⟩ := num_lead i (by omega)
    have e' : (numT i).cps.toList = c :: r := (tl_numT i).trans e
    refine kIf_f (decide_eq_false fun z => ?_) ?_
    · rw [z] at e'
      have : (c :: r) = [48] := e'.symm.trans (by decide +kernel)
      cases this
      exact hc rfl
    walk_at "V"
    refine p_ixS (by omega) (ch := c) (at_nat (k := 0) (by rw [e']; rfl)) ?_
    walk_at "V"
    rw [decide_eq_false (fun z => hc (by
      have : ([c] : List Nat) = [48] := (congrArg (fun x : Str => x.cps.toList) z).trans (by decide +kernel)
      cases this
      rfl))]
    rfl
theorem sp_split_rule (r : Rl) (h : r.ok) (ne : List Str) (hl : ne.length ≤ 100) : Ret f_split_rule [.list ((r.ws ++ ne).map PyData.str)] fun o => o = .v (.tuple [r.d, .list (ne.map PyData.str)]) := by
  refine ret_body ?_
  show wp (m_split_rule [.fz (.list ((r.ws ++ ne).map PyData.str))]) _
  unfold m_split_rule
  cases r with
  | wd w =>
    have h : w ∈ (["sum", "times", "least", "most", "later", "way", "choose"] : List Str) := h
    have hw : ¬ w = "fixed" := by
      simp only [List.mem_cons, List.not_mem_nil, or_false] at h
      rcases h with q | q | q | q | q | q | q <;> subst q <;> decide
    show wp (mSeq _ _ [.fz (.list (.str w :: ne.map PyData.str))]) _
    walk_at "V"
    refine p_slL ?_
    rw [cut_1]
    show wp2 _ _
    walk_at "V"
    have hok : PyData.strOk w = true := by
      simp only [List.mem_cons, List.not_mem_nil, or_false] at h
      rcases h with q | q | q | q | q | q | q <;> subst q <;> decide +kernel
    refine p_neL1 hok (by decide +kernel) ?_
    walk_at "V"
    refine kIf_t (by rw [decide_eq_false hw]; rfl) ?_
    walk_at "V"
    refine p_slL ?_
    rw [cut_1]
    walk_at "V"
    refine p_slL ?_
    rw [show (some (1 : Int)) = some ((1 : Nat) : Int) from rfl, cut_from]
    walk_at "V"
    rfl
  | fx i =>
    have hi : i < 1000000 := h
    show wp (mSeq _ _ [.fz (.list (.str "fixed" :: .str (numT i) :: ne.map PyData.str))]) _
    walk_at "V"
    refine p_slL ?_
    rw [cut_1]
    walk_at "V"
    refine p_neL1 (by decide +kernel) (by decide +kernel) ?_
    walk_at "V"
    refine kIf_f (by rw [decide_eq_true rfl]; rfl) ?_
    walk_at "V"
    refine kIf_f (decide_eq_false (by rw [List.length_cons, List.length_cons]; omega)) ?_
    walk_at "V"
    refine p_ixL (d := .str (numT i)) (at_nat (k := 1) rfl) ?_
    walk_at "V"
    refine (sp_is_number i hi).mono fun o eo => ?_
    subst eo
    walk_at "V"
    refine kIf_ff ?_
    walk_at "V"
    refine p_ixL (d := .str (numT i)) (at_nat (k := 1) rfl) ?_
    walk_at "V"
    have hl6 := numT_len hi
    refine p_intT (by omega) (TL.int_num (n := i) (by have := TL.numL_len (n := i) (k := 6) (by decide) (by omega); omega)) ?_
    walk_at "V"
    refine p_slL ?_
    rw [show (some (2 : Int)) = some ((2 : Nat) : Int) from rfl, cut_from]
    walk_at "V"
    rfl
/-! ### rows -/
theorem nm_arrow {x : Str} (h : NmOk x) : ¬ x = "->" := fun z => by
  obtain ⟨c, r, e, hc⟩ := h.hd
  rw [z] at e
  have e2 : (("->" : Str).cps.toList) = [45, 62] := by decide +kernel
  rw [e2] at e
  cases e
  exact absurd hc (by decide +kernel)
theorem nm_blank {x : Str} (h : NmOk x) (c : Nat) (hc : c = 32 ∨ c = 10) : c ∉ x.cps.toList := fun z => by
  have := h.all c z
  rcases hc with q | q <;> subst q <;> exact absurd this (by decide +kernel)
theorem rl_words {r : Rl} (h : r.ok) : ∀ x ∈ r.ws, (¬ x = "->") ∧ ∀ c, c = 32 ∨ c = 10 → c ∉ x.cps.toList := by
  intro x hx
  cases r with
  | fx i =>
    have hx : x ∈ ([("fixed" : Str), numT i] : List Str) := hx
    rcases List.mem_cons.mp hx with q | q
    · subst q
      exact ⟨by decide, fun c hc => by rcases hc with q | q <;> subst q <;> decide +kernel⟩
    · have q := List.mem_singleton.mp q
      subst q
      refine ⟨fun z => ?_, fun c hc z => ?_⟩
      · have e := tl_numT i
        rw [z] at e
        have e2 : (("->" : Str).cps.toList) = [45, 62] := by decide +kernel
        rw [e2] at e
        have := TL.numL_digits i 45 (by rw [← e]; simp)
        omega
      · rw [tl_numT] at z
        exact TL.numL_free (by omega) z
  | wd w =>
    have h : w ∈ (["sum", "times", "least", "most", "later", "way", "choose"] : List Str) := h
    have hx : x ∈ ([w] : List Str) := hx
    have q := List.mem_singleton.mp hx
    subst q
    simp only [List.mem_cons, List.not_mem_nil, or_false] at h
    rcases h with q | q | q | q | q | q | q <;> subst q <;> exact ⟨by decide, fun c hc => by rcases hc with q | q <;> subst q <;> decide +kernel⟩
theorem ws_sep (s : Stp) (h : StOk s) : ∀ x ∈ s.ws, ∀ c, c = 32 ∨ c = 10 → c ∉ x.cps.toList := by
  intro x hx c hc
  unfold Stp.ws at hx
  rcases List.mem_cons.mp hx with q | q
  · rw [q]; exact nm_blank h.n c hc
  rcases List.mem_append.mp q with q | q
  · exact (rl_words h.r x q).2 c hc
  rcases List.mem_append.mp q with q | q
  · exact nm_blank (h.ne x q) c hc
  rcases List.mem_cons.mp q with q | q
  · rw [q]
    rcases hc with q | q <;> subst q <;> decide +kernel
  · exact nm_blank (h.gi x q) c hc
def Stp.pre (s : Stp) : List Str := s.n :: (s.r.ws ++ s.ne)
theorem ws_pre (s : Stp) : s.ws = s.pre ++ (("->" : Str) :: s.gi) := by
  unfold Stp.ws Stp.pre
  simp
theorem pre_arrow (s : Stp) (h : StOk s) : ∀ x ∈ s.pre, ¬ x = "->" := by
  intro x hx
  rcases List.mem_cons.mp hx with q | q
  · rw [q]; exact nm_arrow h.n
  rcases List.mem_append.mp q with q | q
  · exact (rl_words h.r x q).1
  · exact nm_arrow (h.ne x q)
theorem cnt_arrow (s : Stp) (h : StOk s) : s.ws.count ("->" : Str) = 1 := by
  rw [ws_pre, List.count_append, List.count_cons, List.count_eq_zero.mpr fun z => pre_arrow s h _ z rfl, List.count_eq_zero.mpr fun z => nm_arrow (h.gi _ z) rfl]
  simp
theorem idx_arrow (s : Stp) (h : StOk s) : s.ws.findIdx? (· == ("->" : Str)) = some s.pre.length := by
  rw [ws_pre, List.findIdx?_append, List.findIdx?_cons]
  have e : s.pre.findIdx? (· == ("->" : Str)) = none := by
    rw [List.findIdx?_eq_none_iff]
    intro x hx
    have := pre_arrow s h x hx
    simpa using this
  rw [e]
  simp
theorem split_line (s : Stp) (h : StOk s) : Txt.split s.line " " = s.ws := by
  refine TL.split_join (s := 32) (S := []) (by decide +kernel) (by decide +kernel) (by unfold Stp.ws; simp) fun p hp => ?_
  exact ws_sep s h p hp 32 (.inl rfl)
theorem sp_read_row (s : Stp) (h : StOk s) : Ret f_read_row [.str s.line] fun o => o = .v s.d := by
  have hl := line_len s h
  obtain ⟨_, hw⟩ := ws_len s h
  refine ret_body ?_
  show wp (m_read_row [.fz (.str s.line), .un, .un, .un, .un]) _
  unfold m_read_row
  walk_at "V"
  refine p_split ⟨by decide, by omega⟩ ?_
  rw [split_line s h]
  walk_at "V"
  refine kIf_f (by rw [cnt_arrow s h]; rfl) ?_
  walk_at "V"
  refine p_idx (idx_arrow s h) ?_
  walk_at "V"
  refine p_slL ?_
  have hpl : s.pre.length + 1 + s.gi.length = s.ws.length := by
    rw [ws_pre, List.length_append, List.length_cons]
    omega
  have hm : cutD (s.ws.map PyData.str) (some (1 : Int)) (some (s.pre.length : Int)) = (s.r.ws ++ s.ne).map PyData.str := by
    rw [show (some (1 : Int)) = some ((1 : Nat) : Int) from rfl, cut_mid (by unfold Stp.pre; simp) (by rw [List.length_map]; omega), ws_pre]
    have e1 : s.pre.length - 1 = ((s.r.ws ++ s.ne).map PyData.str).length := by unfold Stp.pre; simp
    rw [e1]
    unfold Stp.pre
    show List.take ((s.r.ws ++ s.ne).map PyData.str).length (((s.r.ws ++ s.ne) ++ (("->" : Str) :: s.gi)).map PyData.str) = _
    rw [List.map_append (l₁ := s.r.ws ++ s.ne)]
    exact List.take_left
  rw [hm]
  walk_at "V"
  refine (sp_split_rule s.r h.r s.ne (by have : s.pre.length = 1 + (s.r.ws.length + s.ne.length) := by unfold Stp.pre; simp [Nat.add_comm]
                                         omega)).mono fun o eo => ?_
  subst eo
  walk_at "V"
  refine p_ixL (d := .str s.n) (at_nat (k := 0) rfl) ?_
  walk_at "V"
  refine p_slL ?_
  rw [show (some ((s.pre.length : Int) + 1)) = some ((s.pre.length + 1 : Nat) : Int) by simp, cut_from]
  have hd : (s.ws.map PyData.str).drop (s.pre.length + 1) = s.gi.map PyData.str := by
    rw [← List.map_drop, ws_pre, List.drop_append]
    simp
  rw [hd]
  walk_at "V"
  rfl
/-! ### whole texts -/
theorem join0 : ∀ (l : List (List Nat)), TL.joinL [] l = l.flatten
  | [] => rfl
  | [p] => by simp [TL.joinL]
  | p :: q :: r => by
    show p ++ ([] ++ TL.joinL [] (q :: r)) = _
    rw [join0 (q :: r)]
    simp
theorem join1 (c : Nat) : ∀ (l : List (List Nat)), TL.joinL [c] (l ++ [[]]) = (l.map (· ++ [c])).flatten
  | [] => rfl
  | [p] => by simp [TL.joinL]
  | p :: q :: r => by
    show p ++ ([c] ++ TL.joinL [c] ((q :: r) ++ [[]])) = _
    rw [join1 c (q :: r)]
    simp
theorem txt_lines (P : List Stp) : txt P = Txt.join "\n" (P.map Stp.line ++ [("" : Str)]) := by
  refine str_ext ?_
  unfold txt
  rw [TL.join_eq, TL.join_eq]
  have e1 := TL.tl_join "" (P.map Stp.row)
  have e2 := TL.tl_join "\n" (P.map Stp.line ++ [("" : Str)])
  have n1 : TL.tl "" = [] := by decide +kernel
  have n2 : TL.tl "\n" = [10] := by decide +kernel
  rw [n1, join0] at e1
  rw [n2, List.map_append, List.map_singleton, n1, join1] at e2
  refine e1.trans (Eq.trans ?_ e2.symm)
  rw [List.map_map, List.map_map, List.map_map]
  congr 1
  refine List.map_congr_left fun s _ => ?_
  show TL.tl (s.line ++ "\n") = _
  rw [TL.tl_append, n2]
  rfl
theorem line_nl (s : Stp) (h : StOk s) : 10 ∉ s.line.cps.toList := by
  have e := TL.tl_join " " s.ws
  rw [← TL.join_eq] at e
  intro z
  have z : 10 ∈ TL.tl (Txt.join " " s.ws) := z
  rw [e] at z
  have key : ∀ (l : List (List Nat)), (∀ x ∈ l, 10 ∉ x) → 10 ∉ TL.joinL [32] l := by
    intro l
    induction l with
    | nil => intro _ z; cases z
    | cons p r ih =>
      intro hl
      cases r with
      | nil => exact hl p List.mem_cons_self
      | cons q r =>
        intro z
        have z : 10 ∈ p ++ ([32] ++ TL.joinL [32] (q :: r)) := z
        rcases List.mem_append.mp z with z | z
        · exact hl p List.mem_cons_self z
        · rcases List.mem_append.mp z with z | z
          · simp at z
          · exact ih (fun x hx => hl x (List.mem_cons_of_mem _ hx)) z
  have n1 : TL.tl " " = [32] := by decide +kernel
  rw [n1] at z
  refine key _ (fun x hx => ?_) z
  obtain ⟨y, hy, rfl⟩ := List.mem_map.mp hx
  exact ws_sep s h y hy 10 (.inr rfl)
theorem split_txt (P : List Stp) (h : ∀ s ∈ P, StOk s) : Txt.split (txt P) "\n" = P.map Stp.line ++ [("" : Str)] := by
  rw [txt_lines]
  refine TL.split_join (s := 10) (S := []) (by decide +kernel) (by decide +kernel) (by simp) fun p hp => ?_
  rcases List.mem_append.mp hp with q | q
  · obtain ⟨s, hs, rfl⟩ := List.mem_map.mp q
    exact line_nl s (h s hs)
  · rw [List.mem_singleton.mp q]
    decide +kernel
theorem txt_short (P : List Stp) (h : ∀ s ∈ P, StOk s) (hl : P.length ≤ 20) : (txt P).length ≤ 2000 := by
  have h1 := txt_len P h
  have h2 := StrLaws.join_length_le "" (P.map Stp.row)
  rw [← TL.join_eq] at h2
  have e : ("" : Str).length = 0 := by decide
  rw [e] at h2
  show (Txt.join "" (P.map Stp.row)).length ≤ 2000
  omega
theorem sp_read (P : List Stp) (h : PlOk P) : Ret f_read [.str (txt P)] fun o => o = .v (pD P) := by
  have hs := txt_short P h.st h.hi
  have h2 := h.hi
  refine ret_body ?_
  show wp (m_read [.fz (.str (txt P)), .un, .un, .un]) _
  unfold m_read
  walk_at "V"
  refine p_split ⟨by decide, by omega⟩ ?_
  rw [split_txt P h.st, List.map_append, List.map_singleton]
  walk_at "V"
  refine p_ixL (d := .str "") at_last ?_
  walk_at "V"
  refine kIf_f (by rw [decide_eq_true rfl]; rfl) ?_
  walk_at "V"
  refine p_slL ?_
  rw [cut_last]
  walk_at "V"
  rw [show (P.map Stp.line).map PyData.str = P.map (fun s => PyData.str s.line) by rw [List.map_map]; rfl]
  refine w_map (f := fun s => PyData.str s.line) (g := Stp.d) (xs := P) (fun s hs => ?_) ?_
  · walk_at "V"
    refine (sp_read_row s (h.st s hs)).mono fun o eo => ?_
    subst eo
    walk_at "V"
    exact ⟨rfl, rfl⟩
  refine ⟨by rw [List.length_map]; omega, ?_⟩
  walk_at "V"
  refine (sp_is_plan P h).mono fun o eo => ?_
  subst eo
  walk_at "V"
  refine kIf_ff ?_
  walk_at "V"
  rfl
end K12
-- K12g.lean
set_option Elab.async false
set_option linter.all false
set_option maxRecDepth 100000
set_option maxHeartbeats 1000000
/-! K12g: the law's small defs. -/
namespace K12
open PySem L2 Sh
local macro_rules | `(tactic| walk_at "p") => `(tactic| first
  | exact put_vz rfl
  | exact put_nz rfl
  | (refine' put_vs ?m; (case m => walk_at "p"))
  | (refine' put_ns ?m; (case m => walk_at "p")))
local macro_rules | `(tactic| walk_at "u") => `(tactic| first
  | exact U_nil
  | (refine' U_in ?k ?x ?m; (case k => decide); (case x => rfl); (case m => walk_at "u"))
  | (refine' U_out ?k ?m; (case k => decide); (case m => walk_at "u")))
local macro_rules | `(tactic| walk_at "r") => `(tactic| first
  | exact Rs_nil
  | (refine' Rs_in ?k ?m; (case k => decide); (case m => walk_at "r"))
  | (refine' Rs_out ?k ?m; (case k => decide); (case m => walk_at "r")))
local macro_rules | `(tactic| walk_at "v") => `(tactic| first
  | with_reducible refine s_seq ?_
  | with_reducible refine s_asg ?_
  | ((with_reducible refine' v_var ?h ?_); (case h => exact rfl))
  | ((with_reducible refine' v_own ?h ?_); (case h => exact rfl))
  | with_reducible refine v_c ?_
  | with_reducible refine v_bin ?_
  | ((with_reducible refine' wp_cD ?h ?_); (case h => exact rfl))
  | with_reducible refine v_call ?_
  | with_reducible refine a_cons ?_
  | with_reducible refine a_nil ?_
  | ((with_reducible refine' wp_cDs ?h ?_); (case h => exact rfl))
  | with_reducible refine v_fz ?_
  | with_reducible refine fz_v ?_
  | ((with_reducible refine' fz_nw ?h ?_); (case h => exact rfl))
  | ((with_reducible refine' fz_sl ?h ?h2 ?_); (case h => exact rfl); (case h2 => exact rfl))
  | with_reducible refine c_pure ?_
  | with_reducible refine kV1 ?_
  | with_reducible refine kV2 ?_
  | with_reducible refine kV3 ?_
  | with_reducible refine kV4 ?_
  | with_reducible refine kV5 ?_
  | with_reducible refine kV6 ?_
  | with_reducible refine p_addI ?_
  | with_reducible refine p_sub ?_
  | ((with_reducible refine' p_mod ?h ?_); (case h => first | decide | omega))
  | ((with_reducible refine' p_div ?h ?_); (case h => first | decide | omega))
  | ((with_reducible refine' p_mulI ?h ?_); (case h => first | exact cmul_l (by decide) | exact cmul_r (by decide) | exact cmul_l (by omega) | exact cmul_r (by omega)))
  | with_reducible refine p_eqI ?_
  | with_reducible refine p_eqS ?_
  | with_reducible refine p_neI ?_
  | with_reducible refine p_neS ?_
  | with_reducible refine p_lt ?_
  | with_reducible refine p_le ?_
  | with_reducible refine p_gt ?_
  | with_reducible refine p_ge ?_
  | with_reducible refine p_neg ?_
  | with_reducible refine p_pow6 ?_
  | with_reducible refine p_lenL ?_
  | with_reducible refine p_lenT ?_
  | with_reducible refine p_intI ?_
  | with_reducible refine p_intB ?_
  | with_reducible refine p_listL ?_
  | with_reducible refine p_listT ?_
  | with_reducible refine p_tupL ?_
  | with_reducible refine p_tupT ?_
  | with_reducible refine p_max2 ?_
  | with_reducible refine p_min2 ?_
  | with_reducible refine p_eqB ?_
  | with_reducible refine p_neB ?_
  | with_reducible refine p_isN ?_
  | with_reducible refine p_notN ?_
  | ((with_reducible refine' wp_put ?h ?_); (case h => walk_at "p"))
  | with_reducible refine s_if ?_
  | with_reducible refine t_tst ?_
  | with_reducible refine ex_b ?_
  | with_reducible refine ex_i ?_
  | with_reducible refine t_not ?_
  | with_reducible refine t_and ?_
  | with_reducible refine t_or ?_
  | with_reducible refine t_yes ?_
  | with_reducible refine s_ret ?_
  | with_reducible refine kS_nx ?_
  | with_reducible refine kS_rt ?_
  | with_reducible refine kS_bk ?_
  | with_reducible refine kS_ct ?_
  | with_reducible refine s_next ?_
  | with_reducible refine s_some ?_
  | with_reducible refine s_drop ?_
  | with_reducible refine v_tup ?_
  | with_reducible refine v_lst ?_
  | ((with_reducible refine' wp_opsD ?h ?_); (case h => exact rfl))
  | ((with_reducible refine' ck_le ?h ?_); (case h => exact rfl))
  | with_reducible refine v_un ?_
  | with_reducible refine v_and ?_
  | with_reducible refine v_or ?_
  | with_reducible refine v_not ?_
  | with_reducible refine wp_bD ?_
  | with_reducible refine v_ife ?_
  | with_reducible refine v_chain ?_
  | with_reducible refine p_leB ?_
  | with_reducible refine p_ltB ?_
  | with_reducible refine v_getS ?_
  | with_reducible refine v_lcN ?_
  | with_reducible refine v_lcR1N ?_
  | with_reducible refine v_lcR2 ?_
  | with_reducible refine wp_seqL ?_
  | with_reducible refine wp_seqT ?_
  | with_reducible refine wp_selL ?_
  | with_reducible refine wp_selTL1 ?_
  | with_reducible refine wp_selTL2 ?_
  | ((with_reducible refine' wp_unwN ?h ?_); (case h => walk_at "u"))
  | ((with_reducible refine' ex_rs ?h ?_); (case h => walk_at "r"))
  | with_reducible refine kT_y ?_
  | with_reducible refine wp_vD ?_
  | with_reducible refine s_for ?_
  | with_reducible refine s_forE ?_
  | with_reducible refine s_forR1 ?_
  | with_reducible refine s_forR2 ?_
  | with_reducible refine kL_nx ?_
  | with_reducible refine kL_ct ?_
  | with_reducible refine kL_bk ?_
  | with_reducible refine kL_rt ?_
  | with_reducible refine s_unp ?_
  | with_reducible refine t_cons ?_
  | with_reducible refine t_nil ?_
  | ((with_reducible refine' t_tup ?h ?_); (case h => exact rfl))
  | ((with_reducible refine' wp_tName ?h ?_); (case h => walk_at "p"))
  | with_reducible refine v_app ?_
  | ((with_reducible refine' ex_app ?h ?_); (case h => exact rfl))
  | with_reducible refine v_pop ?_
  | with_reducible refine v_ext ?_
  | with_reducible refine s_setI ?_
  | with_reducible refine v_cat ?_
  | with_reducible refine v_rep ?_
  | ((with_reducible refine' wp_cLn ?h ?_); (case h => exact rfl))
  | with_reducible refine v_sl ?_
  | with_reducible refine o_none ?_
  | with_reducible refine o_part ?_
  | with_reducible refine v_allN ?_
  | with_reducible refine wp_selS ?_
  | with_reducible refine v_lc2N ?_
  | with_reducible refine v_lenT ?_
  | with_reducible refine v_m1 ?_
  | with_reducible refine c_isS ?_
  | with_reducible refine c_isL ?_
  | with_reducible refine a_star ?_
  | with_reducible refine p_inSg ?_
  | with_reducible refine p_strS ?_
  | with_reducible refine p_cnt ?_
  | with_reducible refine kB_v (Nat.le_of_ble_eq_true rfl) ?_
  | with_reducible refine kB_n (Nat.le_of_ble_eq_true rfl) ?_
  | with_reducible refine kB_x (Nat.le_of_ble_eq_true rfl) ?_
  | with_reducible refine p_isiStr k_ss ?_
  | with_reducible refine p_isiStr k_st ?_
  | with_reducible refine p_isiStr k_si ?_
  | with_reducible refine p_isiStr k_sb ?_
  | with_reducible refine p_isiTup k_tt ?_
  | with_reducible refine p_isiTup k_ts ?_
  | with_reducible refine p_isiInt k_ii ?_
  | with_reducible refine p_isiInt k_ib ?_
  | with_reducible refine p_isiInt k_it ?_
  | with_reducible refine p_isiInt k_is ?_)
local macro_rules | `(tactic| walk_at "V") => `(tactic| repeat (walk_at "v"))
theorem sp_cell (ns : List Int) (k : Nat) : Ret f_law_cell_at [.list (ns.map PyData.int), .int (k : Int)] fun o => ∃ c : Int, o = .v (.int c) := by
  refine ret_body ?_
  show wp (m_law_cell_at [.fz (.list (ns.map PyData.int)), .fz (.int (k : Int))]) _
  unfold m_law_cell_at
  walk_at "V"
  refine kIf_d (fun h => ?_) (fun h => ?_)
  · walk_at "V"
    have hk : k < ns.length := by rw [List.length_map] at h; omega
    refine p_ixL (d := .int ns[k]) (at_nat (by rw [List.getElem?_map, List.getElem?_eq_getElem hk]; rfl)) ?_
    walk_at "V"
    exact ⟨_, rfl⟩
  · walk_at "V"
    exact ⟨_, rfl⟩
theorem sp_next (i : Int) : Ret f_law_next [.int i] fun o => ∃ j : Int, o = .v (.int j) ∧ 0 ≤ j ∧ j < 2147483629 := by
  refine ret_body ?_
  show wp (m_law_next [.fz (.int i), .un]) _
  unfold m_law_next
  walk_at "V"
  exact ⟨_, rfl, by omega, by omega⟩
theorem sp_value (i : Int) : Ret f_law_value [.int i] fun o => ∃ j : Nat, o = .v (.int (j : Int)) ∧ j < 1000000 := by
  have fin : ∀ z : Int, 0 ≤ z → z < 1000000 → ∃ j : Nat, Op.v (.int z) = .v (.int (j : Int)) ∧ j < 1000000 := fun z h0 h1 => ⟨z.toNat, by rw [Int.toNat_of_nonneg h0], by omega⟩
  refine ret_body ?_
  show wp (m_law_value [.fz (.int i)]) _
  unfold m_law_value
  walk_at "V"
  refine kIf_d (fun h => ?_) (fun h => ?_)
  · walk_at "V"
    obtain ⟨d, h1, j, h2, h3⟩ : ∃ d, atI [PyData.int 0, .int 0, .int 1, .int 999999] (i / 4 % 4) = some d ∧ ∃ j : Nat, d = .int (j : Int) ∧ j < 1000000 := by
      have h5 : i / 4 % 4 = 0 ∨ i / 4 % 4 = 1 ∨ i / 4 % 4 = 2 ∨ i / 4 % 4 = 3 := by omega
      rcases h5 with e | e | e | e <;> rw [e]
      · exact ⟨_, rfl, 0, rfl, by decide⟩
      · exact ⟨_, rfl, 0, rfl, by decide⟩
      · exact ⟨_, rfl, 1, rfl, by decide⟩
      · exact ⟨_, rfl, 999999, rfl, by decide⟩
    subst h2
    refine p_ixL h1 ?_
    walk_at "V"
    exact ⟨j, rfl, h3⟩
  · walk_at "V"
    refine kIf_d (fun h => ?_) (fun h => ?_)
    · walk_at "V"
      exact fin _ (by omega) (by omega)
    · walk_at "V"
      exact fin _ (by omega) (by omega)
def wd12 : List Str := ["sum", "times", "least", "most", "fixed", "later", "later", "way", "choose", "way", "choose", "sum"]
theorem sp_rule (i j : Int) (h0 : 0 ≤ j) (h1 : j < 12) : Ret f_law_rule [.int i, .int j] fun o => ∃ r : Rl, o = .v r.d ∧ r.ok := by
  refine ret_body ?_
  show wp (m_law_rule [.fz (.int i), .fz (.int j), .un]) _
  unfold m_law_rule
  walk_at "V"
  obtain ⟨k, rfl⟩ : ∃ k : Nat, j = (k : Int) := ⟨j.toNat, (Int.toNat_of_nonneg h0).symm⟩
  have hk : k < wd12.length := by show k < 12; omega
  refine p_ixL (d := .str wd12[k]) (at_nat (by
    show (wd12.map PyData.str)[k]? = _
    rw [List.getElem?_map, List.getElem?_eq_getElem hk] <;> rfl)) ?_
  have hm : wd12[k] ∈ wd12 := List.getElem_mem hk
  generalize wd12[k] = w at hm ⊢
  walk_at "V"
  refine kIf_d (fun h => ?_) (fun h => ?_)
  · subst h
    walk_at "V"
    refine (sp_value i).mono fun o eo => ?_
    obtain ⟨v, rfl, hv⟩ := eo
    walk_at "V"
    exact ⟨.fx v, rfl, hv⟩
  · walk_at "V"
    refine ⟨.wd w, rfl, ?_⟩
    show w ∈ (["sum", "times", "least", "most", "later", "way", "choose"] : List Str)
    have hm : w ∈ (["sum", "times", "least", "most", "fixed", "later", "later", "way", "choose", "way", "choose", "sum"] : List Str) := hm
    simp only [List.mem_cons, List.not_mem_nil, or_false] at hm ⊢
    rcases hm with q | q | q | q | q | q | q | q | q | q | q | q <;> subst q <;> first | exact absurd rfl h | decide
/-! ### texts -/
theorem sp_line (s : Stp) (h : StOk s) : Ret f_law_line [s.d] fun o => o = .v (.str s.line) := by
  obtain ⟨h1, h2⟩ := ws_len s h
  have h3 := sum_le h1
  have body : ∀ (ds : List D) (ws : List Str), s.r.d = .tuple ds → s.r.ws = ws → ds.map strD = ws.map PyData.str → (∀ d ∈ ds, (∃ x, d = .str x) ∨ ∃ i : Nat, d = .int (i : Int) ∧ i < 1000000) → ds.length ≤ 2 → Ret f_law_line [s.d] fun o => o = .v (.str s.line) := by
    intro ds ws e1 e2 e3 hds hl
    have hw : s.ws = [s.n] ++ ws ++ s.ne ++ [("->" : Str)] ++ s.gi := by
      unfold Stp.ws
      rw [e2]
      simp
    have hlen := congrArg List.length hw
    simp only [List.length_append, List.length_singleton] at hlen
    refine ret_body ?_
    show wp (m_law_line [.fz (.tuple [.str s.n, s.r.d, .tuple (s.ne.map PyData.str), .tuple (s.gi.map PyData.str)]), .un, .un]) _
    rw [e1]
    unfold m_law_line
    walk_at "V"
    refine p_ixT (d := .str s.n) (at_nat (k := 0) rfl) ?_
    walk_at "V"
    refine p_ixT (d := .tuple ds) (at_nat (k := 1) rfl) ?_
    walk_at "V"
    refine w_mapI (g := strD) (fun d hd => ?_) ?_
    · walk_at "V"
      rcases hds d hd with ⟨x, rfl⟩ | ⟨i, rfl, hi⟩
      · walk_at "V"
        exact ⟨rfl, rfl⟩
      · refine p_strI (log_small hi) ?_
        walk_at "V"
        exact ⟨rfl, rfl⟩
    refine ⟨by rw [List.length_map]; omega, ?_⟩
    walk_at "V"
    refine ⟨by simp; omega, ?_⟩
    walk_at "V"
    refine p_ixT (d := .tuple (s.ne.map PyData.str)) (at_nat (k := 2) rfl) ?_
    walk_at "V"
    refine ⟨by simp; omega, ?_⟩
    walk_at "V"
    refine ⟨by simp; omega, ?_⟩
    walk_at "V"
    refine p_ixT (d := .tuple (s.gi.map PyData.str)) (at_nat (k := 3) rfl) ?_
    walk_at "V"
    refine ⟨by simp; omega, ?_⟩
    walk_at "V"
    have hc : ([PyData.str s.n] ++ ds.map strD ++ s.ne.map PyData.str ++ [PyData.str "->"] ++ s.gi.map PyData.str) = s.ws.map PyData.str := by
      rw [hw, e3]
      simp
    rw [hc]
    refine p_join (by have e : (" " : Str).length = 1 := by decide
                      rw [e]; omega) ?_
    walk_at "V"
    rfl
  cases hr : s.r with
  | fx i =>
    have hi : i < 1000000 := by have := h.r; rw [hr] at this; exact this
    refine body [.str "fixed", .int (i : Int)] ["fixed", numT i] (by rw [hr]; rfl) (by rw [hr]; rfl) rfl (fun d hd => ?_) (Nat.le_refl _)
    rcases List.mem_cons.mp hd with q | q
    · exact .inl ⟨_, q⟩
    · exact .inr ⟨i, List.mem_singleton.mp q, hi⟩
  | wd w =>
    refine body [.str w] [w] (by rw [hr]; rfl) (by rw [hr]; rfl) rfl (fun d hd => .inl ⟨w, List.mem_singleton.mp hd⟩) (Nat.le_succ _)
theorem sp_text (P : List Stp) (h : ∀ s ∈ P, StOk s) (hl : P.length ≤ 20) : Ret f_law_text [pD P] fun o => o = .v (.str (txt P)) := by
  refine ret_body ?_
  show wp (m_law_text [.fz (.tuple (P.map Stp.d)), .un]) _
  unfold m_law_text
  walk_at "V"
  refine w_map (f := Stp.d) (g := fun s => PyData.str s.row) (xs := P) (fun s hs => ?_) ?_
  · walk_at "V"
    refine (sp_line s (h s hs)).mono fun o eo => ?_
    subst eo
    walk_at "V"
    have hl := line_len s (h s hs)
    refine p_addS (by have e : ("\n" : Str).length = 1 := by decide
                      rw [e]; omega) ?_
    walk_at "V"
    exact ⟨rfl, rfl⟩
  refine ⟨by rw [List.length_map]; omega, ?_⟩
  walk_at "V"
  have e : P.map (fun s => PyData.str s.row) = (P.map Stp.row).map PyData.str := by
    rw [List.map_map]
    rfl
  rw [e]
  have := txt_len P h
  refine p_join (by have e : ("" : Str).length = 0 := by decide
                    rw [e]; omega) ?_
  walk_at "V"
  rfl
/-! ### the same -/
def good : Nat → D → Prop
  | 0, d => (∃ x, d = .str x) ∨ ∃ i, d = .int i
  | n + 1, d => ((∃ x, d = .str x) ∨ ∃ i, d = .int i) ∨ ∃ ds, d = .tuple ds ∧ ds.length ≤ 1000 ∧ ∀ e ∈ ds, good n e
theorem same_str (g : SemF) (x : Str) : Ret (bodyF 3 (m_law_same g)) [.str x, .str x] fun o => o = .v (.bool true) := by
  refine ret_body ?_
  show wp (m_law_same g [.fz (.str x), .fz (.str x), .un]) _
  unfold m_law_same
  walk_at "V"
  refine kIf_ff ?_
  walk_at "V"
  refine kIf_tt ?_
  walk_at "V"
  refine kIf_tt ?_
  walk_at "V"
  rw [decide_eq_true rfl]
theorem same_int (g : SemF) (i : Int) : Ret (bodyF 3 (m_law_same g)) [.int i, .int i] fun o => o = .v (.bool true) := by
  refine ret_body ?_
  show wp (m_law_same g [.fz (.int i), .fz (.int i), .un]) _
  unfold m_law_same
  walk_at "V"
  refine kIf_ff ?_
  walk_at "V"
  refine kIf_ff ?_
  walk_at "V"
  refine kIf_tt ?_
  walk_at "V"
  refine kIf_tt ?_
  walk_at "V"
  rw [decide_eq_true rfl]
theorem same_tup (g : SemF) (ds : List D) (hl : ds.length ≤ 1000) (h : ∀ e ∈ ds, Ret g [e, e] fun o => o = .v (.bool true)) : Ret (bodyF 3 (m_law_same g)) [.tuple ds, .tuple ds] fun o => o = .v (.bool true) := by
  refine ret_body ?_
  show wp (m_law_same g [.fz (.tuple ds), .fz (.tuple ds), .un]) _
  unfold m_law_same
  walk_at "V"
  refine kIf_tt ?_
  walk_at "V"
  refine kIf_ff ?_
  walk_at "V"
  refine kIf_f (by rw [decide_eq_true rfl]; rfl) ?_
  walk_at "V"
  refine ⟨⟨by omega, by omega⟩, ?_⟩
  walk_at "V"
  refine w_lcR (fun _ zs s => zs = [] ∧ s = [.fz (.tuple ds), .fz (.tuple ds), .un]) ⟨rfl, rfl⟩ (fun i zs s hi ⟨e1, e2⟩ => ?_) (fun zs s ⟨e1, e2⟩ => ?_)
  · subst e1 e2
    have hi : i < ds.length := by omega
    walk_at "V"
    refine p_ixT (d := ds[i]) (at_nat (k := i) (List.getElem?_eq_getElem hi) |> fun e => by rw [Int.zero_add]; exact e) ?_
    walk_at "V"
    refine p_ixT (d := ds[i]) (at_nat (k := i) (List.getElem?_eq_getElem hi) |> fun e => by rw [Int.zero_add]; exact e) ?_
    walk_at "V"
    refine (h _ (List.getElem_mem hi)).mono fun o eo => ?_
    subst eo
    walk_at "V"
    exact ⟨_, rfl, rfl, rfl⟩
  · subst e1 e2
    refine ⟨Nat.zero_le _, ?_⟩
    walk_at "V"
    rfl
theorem same0 (d : D) (h : good 0 d) (g : SemF) : Ret (bodyF 3 (m_law_same g)) [d, d] fun o => o = .v (.bool true) := by
  rcases h with ⟨x, rfl⟩ | ⟨i, rfl⟩
  · exact same_str g x
  · exact same_int g i
theorem sameS {n : Nat} {g : SemF} (hg : ∀ d, good n d → Ret g [d, d] fun o => o = .v (.bool true)) (d : D) (h : good (n + 1) d) : Ret (bodyF 3 (m_law_same g)) [d, d] fun o => o = .v (.bool true) := by
  rcases h with h | ⟨ds, rfl, hl, h⟩
  · exact same0 d h g
  · exact same_tup g ds hl fun e he => hg e (h e he)
theorem sp_same (d : D) (h : good 3 d) : Ret f_law_same [d, d] fun o => o = .v (.bool true) :=
  sameS (n := 2) (g := f_law_same2) (fun d h => sameS (n := 1) (g := f_law_same1) (fun d h => sameS (n := 0) (g := f_law_same0) (fun d h => same0 d h _) d h) d h) d h
theorem good_strs (ys : List Str) (h : ys.length ≤ 1000) : good 1 (sT ys) := .inr ⟨_, rfl, by rw [List.length_map]; exact h, fun e he => by
  obtain ⟨x, _, rfl⟩ := List.mem_map.mp he
  exact .inl ⟨x, rfl⟩⟩
theorem good_step (s : Stp) (h : StOk s) : good 2 s.d := by
  obtain ⟨_, h2⟩ := ws_len s h
  have e := congrArg List.length (show s.ws = s.n :: (s.r.ws ++ (s.ne ++ (("->" : Str) :: s.gi))) from rfl)
  simp only [List.length_cons, List.length_append] at e
  refine .inr ⟨_, rfl, (by decide : 4 ≤ 1000), fun x hx => ?_⟩
  simp only [List.mem_cons, List.not_mem_nil, or_false] at hx
  rcases hx with q | q | q | q <;> subst q
  · exact .inl (.inl ⟨_, rfl⟩)
  · cases s.r with
    | fx i => exact .inr ⟨_, rfl, (by decide : 2 ≤ 1000), fun y hy => by
        simp only [List.mem_cons, List.not_mem_nil, or_false] at hy
        rcases hy with q | q <;> subst q
        · exact .inl ⟨_, rfl⟩
        · exact .inr ⟨_, rfl⟩⟩
    | wd w => exact .inr ⟨_, rfl, (by decide : 1 ≤ 1000), fun y hy => by
        have q := List.mem_singleton.mp hy
        subst q
        exact .inl ⟨_, rfl⟩⟩
  · exact good_strs _ (by omega)
  · exact good_strs _ (by omega)
theorem good_plan (P : List Stp) (h : ∀ s ∈ P, StOk s) (hl : P.length ≤ 20) : good 3 (pD P) := .inr ⟨_, rfl, by rw [List.length_map]; omega, fun e he => by
  obtain ⟨s, hs, rfl⟩ := List.mem_map.mp he
  exact good_step s (h s hs)⟩
end K12
-- K12h.lean
set_option Elab.async false
set_option linter.all false
set_option maxRecDepth 100000
set_option maxHeartbeats 1000000
/-! K12h: the law's names. -/
namespace K12
open PySem L2 Sh
local macro_rules | `(tactic| walk_at "p") => `(tactic| first
  | ((with_reducible refine' put_vz ?z); (case z => first | rfl | assumption))
  | ((with_reducible refine' put_nz ?z); (case z => first | rfl | assumption))
  | (refine' put_vs ?m; (case m => walk_at "p"))
  | (refine' put_ns ?m; (case m => walk_at "p")))
local macro_rules | `(tactic| walk_at "u") => `(tactic| first
  | exact U_nil
  | (refine' U_in ?k ?x ?m; (case k => decide); (case x => rfl); (case m => walk_at "u"))
  | (refine' U_out ?k ?m; (case k => decide); (case m => walk_at "u")))
local macro_rules | `(tactic| walk_at "r") => `(tactic| first
  | exact Rs_nil
  | (refine' Rs_in ?k ?m; (case k => decide); (case m => walk_at "r"))
  | (refine' Rs_out ?k ?m; (case k => decide); (case m => walk_at "r")))
local macro_rules | `(tactic| walk_at "v") => `(tactic| first
  | with_reducible refine s_seq ?_
  | with_reducible refine s_asg ?_
  | ((with_reducible refine' v_var ?h ?_); (case h => exact rfl))
  | ((with_reducible refine' v_own ?h ?_); (case h => exact rfl))
  | with_reducible refine v_c ?_
  | with_reducible refine v_bin ?_
  | ((with_reducible refine' wp_cD ?h ?_); (case h => exact rfl))
  | with_reducible refine v_call ?_
  | with_reducible refine a_cons ?_
  | with_reducible refine a_nil ?_
  | ((with_reducible refine' wp_cDs ?h ?_); (case h => exact rfl))
  | with_reducible refine v_fz ?_
  | with_reducible refine fz_v ?_
  | ((with_reducible refine' fz_nw ?h ?_); (case h => exact rfl))
  | ((with_reducible refine' fz_sl ?h ?h2 ?_); (case h => exact rfl); (case h2 => exact rfl))
  | with_reducible refine c_pure ?_
  | with_reducible refine kV1 ?_
  | with_reducible refine kV2 ?_
  | with_reducible refine kV3 ?_
  | with_reducible refine kV4 ?_
  | with_reducible refine kV5 ?_
  | with_reducible refine kV6 ?_
  | with_reducible refine p_addI ?_
  | with_reducible refine p_sub ?_
  | ((with_reducible refine' p_mod ?h ?_); (case h => first | decide | omega))
  | ((with_reducible refine' p_div ?h ?_); (case h => first | decide | omega))
  | ((with_reducible refine' p_mulI ?h ?_); (case h => first | exact cmul_l (by decide) | exact cmul_r (by decide) | exact cmul_l (by omega) | exact cmul_r (by omega)))
  | with_reducible refine p_eqI ?_
  | with_reducible refine p_eqS ?_
  | with_reducible refine p_neI ?_
  | with_reducible refine p_neS ?_
  | with_reducible refine p_lt ?_
  | with_reducible refine p_le ?_
  | with_reducible refine p_gt ?_
  | with_reducible refine p_ge ?_
  | with_reducible refine p_neg ?_
  | with_reducible refine p_pow6 ?_
  | with_reducible refine p_lenL ?_
  | with_reducible refine p_lenT ?_
  | with_reducible refine p_intI ?_
  | with_reducible refine p_intB ?_
  | with_reducible refine p_listL ?_
  | with_reducible refine p_listT ?_
  | with_reducible refine p_tupL ?_
  | with_reducible refine p_tupT ?_
  | with_reducible refine p_max2 ?_
  | with_reducible refine p_min2 ?_
  | with_reducible refine p_eqB ?_
  | with_reducible refine p_neB ?_
  | with_reducible refine p_isN ?_
  | with_reducible refine p_notN ?_
  | ((with_reducible refine' wp_put ?h ?_); (case h => walk_at "p"))
  | with_reducible refine s_if ?_
  | with_reducible refine t_tst ?_
  | with_reducible refine ex_b ?_
  | with_reducible refine ex_i ?_
  | with_reducible refine t_not ?_
  | with_reducible refine t_and ?_
  | with_reducible refine t_or ?_
  | with_reducible refine t_yes ?_
  | with_reducible refine s_ret ?_
  | with_reducible refine kS_nx ?_
  | with_reducible refine kS_rt ?_
  | with_reducible refine kS_bk ?_
  | with_reducible refine kS_ct ?_
  | with_reducible refine s_next ?_
  | with_reducible refine s_some ?_
  | with_reducible refine s_drop ?_
  | with_reducible refine v_tup ?_
  | with_reducible refine v_lst ?_
  | ((with_reducible refine' wp_opsD ?h ?_); (case h => exact rfl))
  | ((with_reducible refine' ck_le ?h ?_); (case h => exact rfl))
  | with_reducible refine v_un ?_
  | with_reducible refine v_and ?_
  | with_reducible refine v_or ?_
  | with_reducible refine v_not ?_
  | with_reducible refine wp_bD ?_
  | with_reducible refine v_ife ?_
  | with_reducible refine v_chain ?_
  | with_reducible refine p_leB ?_
  | with_reducible refine p_ltB ?_
  | with_reducible refine v_getS ?_
  | with_reducible refine v_lcN ?_
  | with_reducible refine v_lcR1N ?_
  | with_reducible refine v_lcR2 ?_
  | with_reducible refine wp_seqL ?_
  | with_reducible refine wp_seqT ?_
  | with_reducible refine wp_selL ?_
  | with_reducible refine wp_selTL1 ?_
  | with_reducible refine wp_selTL2 ?_
  | ((with_reducible refine' wp_unwN ?h ?_); (case h => walk_at "u"))
  | ((with_reducible refine' ex_rs ?h ?_); (case h => walk_at "r"))
  | with_reducible refine kT_y ?_
  | with_reducible refine wp_vD ?_
  | with_reducible refine s_for ?_
  | with_reducible refine s_forE ?_
  | with_reducible refine s_forR1 ?_
  | with_reducible refine s_forR2 ?_
  | with_reducible refine kL_nx ?_
  | with_reducible refine kL_ct ?_
  | with_reducible refine kL_bk ?_
  | with_reducible refine kL_rt ?_
  | with_reducible refine s_unp ?_
  | with_reducible refine t_cons ?_
  | with_reducible refine t_nil ?_
  | ((with_reducible refine' t_tup ?h ?_); (case h => exact rfl))
  | ((with_reducible refine' wp_tName ?h ?_); (case h => walk_at "p"))
  | with_reducible refine v_app ?_
  | ((with_reducible refine' ex_app ?h ?_); (case h => exact rfl))
  | with_reducible refine v_pop ?_
  | with_reducible refine v_ext ?_
  | with_reducible refine s_setI ?_
  | with_reducible refine v_cat ?_
  | with_reducible refine v_rep ?_
  | ((with_reducible refine' wp_cLn ?h ?_); (case h => exact rfl))
  | with_reducible refine v_sl ?_
  | with_reducible refine o_none ?_
  | with_reducible refine o_part ?_
  | with_reducible refine v_allN ?_
  | with_reducible refine wp_selS ?_
  | with_reducible refine v_lc2N ?_
  | with_reducible refine v_lenT ?_
  | with_reducible refine v_m1 ?_
  | with_reducible refine c_isS ?_
  | with_reducible refine c_isL ?_
  | with_reducible refine a_star ?_
  | with_reducible refine p_inSg ?_
  | with_reducible refine p_strS ?_
  | with_reducible refine p_cnt ?_
  | with_reducible refine kB_v (Nat.le_of_ble_eq_true rfl) ?_
  | with_reducible refine kB_n (Nat.le_of_ble_eq_true rfl) ?_
  | with_reducible refine kB_x (Nat.le_of_ble_eq_true rfl) ?_
  | with_reducible refine p_isiStr k_ss ?_
  | with_reducible refine p_isiStr k_st ?_
  | with_reducible refine p_isiStr k_si ?_
  | with_reducible refine p_isiStr k_sb ?_
  | with_reducible refine p_isiTup k_tt ?_
  | with_reducible refine p_isiTup k_ts ?_
  | with_reducible refine p_isiInt k_ii ?_
  | with_reducible refine p_isiInt k_ib ?_
  | with_reducible refine p_isiInt k_it ?_
  | with_reducible refine p_isiInt k_is ?_)
local macro_rules | `(tactic| walk_at "V") => `(tactic| repeat (walk_at "v"))
def nmB (x : Str) : Bool := decide (x.length ≤ 8) && (match x.cps.toList with | c :: _ => decide (c ∈ lets) | [] => false) && x.cps.toList.all fun c => decide (c ∈ letf)
theorem nm_of {x : Str} (h : nmB x = true) : NmOk x := by
  unfold nmB at h
  simp only [Bool.and_eq_true] at h
  obtain ⟨⟨h1, h2⟩, h3⟩ := h
  refine ⟨of_decide_eq_true h1, ?_, fun c hc => of_decide_eq_true (List.all_eq_true.mp h3 c hc)⟩
  split at h2
  · rename_i c r e
    exact ⟨c, r, e, of_decide_eq_true h2⟩
  · cases h2
/-- the names of a plan -/
structure Nms (nm : List Str) : Prop where
  len : nm.length = 24
  nd : nm.Nodup
  ok : ∀ x ∈ nm, NmOk x
def wA : List Str := ["sum", "later", "way", "fixed", "a9", "b", "times", "choose", "least", "most", "z0", "put"]
def sA : List Str := ["", "x"]
def gA (r k : Nat) : Str := wA.getD ((r + k) % 12) Str.empty ++ sA.getD (k / 12) Str.empty
theorem nmsA : ∀ r, r < 12 → ((List.range 24).map (gA r)).Nodup ∧ ((List.range 24).map (gA r)).all nmB = true := by decide +kernel
theorem nms_A (r : Nat) (h : r < 12) : Nms ((List.range 24).map (gA r)) := ⟨by simp, (nmsA r h).1, fun x hx => nm_of (List.all_eq_true.mp (nmsA r h).2 x hx)⟩
def mk (sz pl c : Nat) : Str := ⟨(List.replicate pl 109 ++ [c] ++ List.replicate (sz - 1 - pl) 109).toArray⟩
def sg (m r k : Nat) : Nat := letf.getD ((r + k) % m) 0
theorem letf_len : letf.length = 36 := by decide +kernel
theorem letf_nd : letf.Nodup := by decide +kernel
theorem letf_lo : ∀ i, i < 26 → letf.getD i 0 ∈ lets := by decide +kernel
theorem letf_hi : ∀ i, i < 36 → letf.getD i 0 ∈ letf := by decide +kernel
theorem m_let : (109 : Nat) ∈ lets ∧ (109 : Nat) ∈ letf := by decide +kernel
theorem mk_inj {sz pl c d : Nat} (h : mk sz pl c = mk sz pl d) : c = d := by
  have h : List.replicate pl 109 ++ [c] ++ List.replicate (sz - 1 - pl) 109 = List.replicate pl 109 ++ [d] ++ List.replicate (sz - 1 - pl) 109 := by
    have := congrArg (fun x : Str => x.cps.toList) h
    simpa [mk] using this
  rw [List.append_assoc, List.append_assoc] at h
  have := List.append_cancel_left h
  simpa using this
theorem sg_inj {m r i j : Nat} (hm : m ≤ 36) (h24 : 24 ≤ m) (hi : i < j) (hj : j < 24) : sg m r i ≠ sg m r j := by
  unfold sg
  intro h
  have h1 : (r + i) % m < letf.length := by rw [letf_len]; exact Nat.lt_of_lt_of_le (Nat.mod_lt _ (by omega)) hm
  have h2 : (r + j) % m < letf.length := by rw [letf_len]; exact Nat.lt_of_lt_of_le (Nat.mod_lt _ (by omega)) hm
  rw [List.getD_eq_getElem?_getD, List.getD_eq_getElem?_getD, List.getElem?_eq_getElem h1, List.getElem?_eq_getElem h2] at h
  have e := (List.getElem_inj letf_nd).mp h
  have e1 := Nat.div_add_mod (r + i) m
  have e2 := Nat.div_add_mod (r + j) m
  have e3 : (r + j) - (r + i) = m * ((r + j) / m) - m * ((r + i) / m) := by omega
  have e4 : j - i = m * ((r + j) / m - (r + i) / m) := by rw [Nat.mul_sub]; omega
  have e5 : 0 < (r + j) / m - (r + i) / m := by
    rcases Nat.eq_zero_or_pos ((r + j) / m - (r + i) / m) with z | z
    · rw [z] at e4
      omega
    · exact z
  have e6 : m ≤ m * ((r + j) / m - (r + i) / m) := Nat.le_mul_of_pos_right m e5
  omega
theorem nms_B (sz pl r : Nat) (hs : sz ≤ 8) (hp : pl < sz) (m : Nat) (hm : m = if 0 < pl then 36 else 26) : Nms ((List.range 24).map fun k => mk sz pl (sg m r k)) := by
  have h24 : 24 ≤ m ∧ m ≤ 36 := by
    rw [hm]
    split <;> omega
  refine ⟨by simp, ?_, fun x hx => ?_⟩
  · rw [List.Nodup, List.pairwise_map]
    refine List.Pairwise.imp_of_mem (fun {i j} hi hj h e => ?_) List.pairwise_lt_range
    exact sg_inj h24.2 h24.1 h (List.mem_range.mp hj) (mk_inj e)
  · obtain ⟨k, hk, rfl⟩ := List.mem_map.mp hx
    have hk := List.mem_range.mp hk
    have hmod : (r + k) % m < m := Nat.mod_lt _ (by omega)
    have hin : sg m r k ∈ letf := letf_hi _ (by omega)
    have tl : (mk sz pl (sg m r k)).cps.toList = List.replicate pl 109 ++ [sg m r k] ++ List.replicate (sz - 1 - pl) 109 := rfl
    refine ⟨?_, ?_, fun c hc => ?_⟩
    · rw [len_list, tl]
      simp
      omega
    · rw [tl]
      cases pl with
      | zero =>
        refine ⟨_, _, rfl, ?_⟩
        have : m = 26 := by rw [hm]; rfl
        exact letf_lo _ (by omega)
      | succ p => exact ⟨109, _, rfl, m_let.1⟩
    · rw [tl] at hc
      rcases List.mem_append.mp hc with hc | hc
      · rcases List.mem_append.mp hc with hc | hc
        · rw [List.eq_of_mem_replicate hc]
          exact m_let.2
        · rw [List.mem_singleton.mp hc]
          exact hin
      · rw [List.eq_of_mem_replicate hc]
        exact m_let.2
theorem mk_app (sz pl c : Nat) : (rep1 109 pl ++ (⟨#[c]⟩ : Str)) ++ rep1 109 (sz - 1 - pl) = mk sz pl c := by
  refine str_ext ?_
  have e1 := TL.tl_append (rep1 109 pl ++ (⟨#[c]⟩ : Str)) (rep1 109 (sz - 1 - pl))
  have e2 := TL.tl_append (rep1 109 pl) (⟨#[c]⟩ : Str)
  rw [e2] at e1
  exact e1
theorem sp_names (c : Int) : Ret f_law_names [.int c] fun o => ∃ nm : List Str, o = .nw (.lst (nm.map PyData.str)) ∧ Nms nm := by
  refine ret_body ?_
  show wp (m_law_names [.fz (.int c), .un, .un, .un, .un, .un, .un]) _
  unfold m_law_names
  walk_at "V"
  refine kIf_d (fun h => ?_) (fun h => ?_)
  · walk_at "V"
    refine ⟨⟨by omega, by omega⟩, ?_⟩
    walk_at "V"
    have hr0 : 0 ≤ c / 9 % 12 ∧ c / 9 % 12 < 12 := by omega
    generalize hr : (c / 9 % 12).toNat = r
    have hrr : r < 12 := by omega
    refine w_lcR (fun i zs s => i ≤ 24 ∧ zs = (List.range i).map (fun k => PyData.str (gA r k)) ∧ s = [.fz (.int c), .ow false (.lst (wA.map PyData.str)), .un, .un, .un, .un, .un]) ⟨by omega, rfl, rfl⟩ (fun i zs s hi ⟨_, e1, e2⟩ => ?_) (fun zs s ⟨_, e1, e2⟩ => ?_)
    · subst e1 e2
      have hi : i < 24 := by omega
      walk_at "V"
      have i1 : (c / 9 + (0 + (i : Int))) % 12 = (((r + i) % 12 : Nat) : Int) := by omega
      rw [i1]
      have hm : (r + i) % 12 < 12 := Nat.mod_lt _ (by decide)
      refine p_ixL (d := .str (wA.getD ((r + i) % 12) Str.empty)) (at_nat (by
        rw [List.getElem?_map, List.getD_eq_getElem?_getD, List.getElem?_eq_getElem (by show (r + i) % 12 < 12; omega)] <;> rfl)) ?_
      walk_at "V"
      have i2 : (0 + (i : Int)) / 12 = ((i / 12 : Nat) : Int) := by omega
      rw [i2]
      have hm2 : i / 12 < 2 := by omega
      refine p_ixL (d := .str (sA.getD (i / 12) Str.empty)) (at_nat (by
        show (sA.map PyData.str)[i / 12]? = _
        rw [List.getElem?_map, List.getD_eq_getElem?_getD, List.getElem?_eq_getElem (by show i / 12 < 2; omega)] <;> rfl)) ?_
      walk_at "V"
      refine p_addS ?_ ?_
      · have k1 : ∀ j, j < 12 → (wA.getD j Str.empty).length ≤ 10 := by decide +kernel
        have k2 : ∀ j, j < 2 → (sA.getD j Str.empty).length ≤ 10 := by decide +kernel
        have := k1 _ hm
        have := k2 _ hm2
        omega
      walk_at "V"
      refine ⟨by omega, ?_, rfl⟩
      rw [List.range_succ, List.map_append]
      rfl
    · subst e1 e2
      refine ⟨by simp, ?_⟩
      walk_at "V"
      exact ⟨(List.range 24).map (gA r), by rw [List.map_map]; rfl, nms_A r hrr⟩
  · walk_at "V"
    refine ⟨⟨by omega, by omega⟩, ?_⟩
    have hsz : 1 ≤ 1 + c % 8 ∧ 1 + c % 8 ≤ 8 := by omega
    have hpl : 0 ≤ c / 8 % (1 + c % 8) ∧ c / 8 % (1 + c % 8) < 1 + c % 8 := ⟨Int.emod_nonneg _ (by omega), Int.emod_lt_of_pos _ (by omega)⟩
    generalize 1 + c % 8 = z at hsz hpl ⊢
    generalize c / 8 % z = y at hpl ⊢
    obtain ⟨sz, rfl⟩ : ∃ sz : Nat, z = (sz : Int) := ⟨z.toNat, (Int.toNat_of_nonneg (by omega)).symm⟩
    obtain ⟨pl, rfl⟩ : ∃ pl : Nat, y = (pl : Int) := ⟨y.toNat, (Int.toNat_of_nonneg (by omega)).symm⟩
    obtain ⟨m, hm⟩ : ∃ m, m = if 0 < pl then 36 else 26 := ⟨_, rfl⟩
    have h24 : 24 ≤ m ∧ m ≤ 36 := by
      rw [hm]
      split <;> omega
    obtain ⟨r, hr⟩ : ∃ r : Nat, (r : Int) = c / 64 % (m : Int) := ⟨(c / 64 % (m : Int)).toNat, Int.toNat_of_nonneg (Int.emod_nonneg _ (by omega))⟩
    refine w_loopR (fun i s => i ≤ 24 ∧ ∃ x2 x6, okS x2 = true ∧ okS x6 = true ∧ s = [.fz (.int c), .fz (.str "abcdefghijklmnopqrstuvwxyz0123456789"), x2, .fz (.int (sz : Int)), .fz (.int (pl : Int)), .ow false (.lst ((List.range i).map fun k => PyData.str (mk sz pl (sg m r k)))), x6])
      ⟨by omega, .un, .un, rfl, rfl, rfl⟩ (fun i s hi ⟨_, x2, x6, h2, h6, e⟩ => ?_) (fun s ⟨_, x2, x6, h2, h6, e⟩ => ?_)
    · subst e
      have hi : i < 24 := hi
      walk_at "V"
      refine p_ixL (d := .int (m : Int)) ?_ ?_
      · by_cases q : 0 < pl
        · rw [decide_eq_true (by omega : (0 : Int) < (pl : Int)), hm, if_pos q]
          exact at_nat (k := 1) rfl
        · rw [decide_eq_false (by omega : ¬ (0 : Int) < (pl : Int)), hm, if_neg q]
          exact at_nat (k := 0) rfl
      walk_at "V"
      have hmod : (r + i) % m < m := Nat.mod_lt _ (by omega)
      have i1 : (c / 64 + (0 + (i : Int))) % (m : Int) = (((r + i) % m : Nat) : Int) := by
        rw [Int.zero_add, Int.add_emod, ← hr, Int.natCast_emod, Int.natCast_add]
        rw [Int.add_emod ((r : Int)) (i : Int), Int.emod_eq_of_lt (a := (r : Int)) (by omega) (by rw [hr]; exact Int.emod_lt_of_pos _ (by omega))]
      rw [i1]
      refine p_ixS (by decide) (ch := sg m r i) (at_nat (by
        unfold sg
        rw [List.getD_eq_getElem?_getD, List.getElem?_eq_getElem (show (r + i) % m < letf.length by rw [letf_len]; omega)]
        exact List.getElem?_eq_getElem (show (r + i) % m < letf.length by rw [letf_len]; omega))) ?_
      walk_at "V"
      refine p_mul1 (c := 109) (by omega) (by omega) ?_
      rw [Int.toNat_natCast]
      walk_at "V"
      have l1 : (rep1 109 pl).length = pl := by rw [len_list]; simp [rep1]
      have l2 : (⟨#[sg m r i]⟩ : Str).length = 1 := rfl
      refine p_addS (by rw [l1, l2]; omega) ?_
      walk_at "V"
      refine p_mul1 (c := 109) (by omega) (by omega) ?_
      rw [show ((sz : Int) - 1 - (pl : Int)).toNat = sz - 1 - pl by omega]
      walk_at "V"
      have l3 : (rep1 109 (sz - 1 - pl)).length = sz - 1 - pl := by rw [len_list]; simp [rep1]
      refine p_addS (by rw [Str.length_append, l1, l2, l3]; omega) ?_
      rw [mk_app]
      walk_at "V"
      refine ⟨by simp; omega, ?_⟩
      refine ⟨by omega, .fz (.int (0 + (i : Int))), .fz (.str ⟨#[sg m r i]⟩), rfl, rfl, ?_⟩
      rw [List.range_succ, List.map_append]
      rfl
    · subst e
      walk_at "V"
      refine kB_s (Nat.le_of_ble_eq_true rfl) (o := .nw (.lst ((List.range 24).map fun k => PyData.str (mk sz pl (sg m r k))))) rfl ?_
      exact ⟨(List.range 24).map fun k => mk sz pl (sg m r k), by rw [List.map_map]; rfl, nms_B sz pl r (by omega) (by omega) m hm⟩
end K12
-- K12i.lean
set_option Elab.async false
set_option linter.all false
set_option maxRecDepth 100000
set_option maxHeartbeats 2000000
/-! K12i: the law's plan. -/
namespace K12
open PySem L2 Sh
/-- a turn, from where it is known whether it is the last -/
def m_pD : MS :=
  (mSeq (mAsg (mLcR1 (mVar 13) (tName 16) mYes (mPopAt 7 (mBin fMod (mCallF f_law_next (mACons (mFz (mBin fAdd (mBin fAdd (mVar 11) (mBin fMulI (mC (.int 31)) (mVar 16))) (mC (.int 5)))) mANil)) (mCall (f1 fLen) (mACons (mVar 7) mANil)))) [16]) 15)
  (mDrop (mApp 5 (mTup (mACons (mFz (mBin fIx (mVar 2) (mBin fSub (mC (.int 23)) (mVar 6)))) (mACons (mFz (mVar 10)) (mACons (mFz (mCall (f1 fTuple) (mACons (mVar 14) mANil))) (mACons (mFz (mCall (f1 fTuple) (mACons (mVar 15) mANil))) mANil))))))))
def m_pC : MS :=
  (mSeq (mAsg (mLcR1 (mVar 12) (tName 16) mYes (mBin fIx (mVar 8) (mBin fMod (mCallF f_law_next (mACons (mFz (mBin fAdd (mVar 11) (mBin fMulI (mC (.int 7)) (mVar 16)))) mANil)) (mCall (f1 fLen) (mACons (mVar 8) mANil)))) [16]) 14)
  m_pD)
def m_pB : MS :=
  (mSeq (mAsg (mCallF f_law_next (mACons (mFz (mBin fAdd (mCallF f_law_cell_at (mACons (mFz (mVar 0)) (mACons (mFz (mBin fAdd (mBin fAdd (mVar 1) (mC (.int 3))) (mBin fMod (mVar 6) (mC (.int 8))))) mANil))) (mBin fMulI (mC (.int 977)) (mVar 6)))) mANil)) 9)
  (mSeq (mAsg (mCallF f_law_rule (mACons (mFz (mCallF f_law_next (mACons (mFz (mVar 9)) mANil))) (mACons (mFz (mBin fMod (mBin fDiv (mVar 9) (mC (.int 5))) (mC (.int 12)))) mANil))) 10)
  (mSeq (mAsg (mCallF f_law_next (mACons (mFz (mBin fAdd (mVar 9) (mC (.int 1)))) mANil)) 11)
  (mSeq (mAsg (mBin fIx (mLst (mACons (mFz (mBin fAdd (mC (.int 1)) (mBin fMod (mVar 11) (mC (.int 4))))) (mACons (mFz (mC (.int 1))) mANil))) (mCall (f1 fInt) (mACons (mBin fEq (mBin fIx (mVar 10) (mC (.int 0))) (mC (.str "later"))) mANil))) 12)
  (mSeq (mAsg (mGetS [("way", 2), ("choose", 3)] (mBin fIx (mVar 10) (mC (.int 0))) (mVar 12)) 12)
  (mSeq (mAsg (mGetS [("way", 2)] (mBin fIx (mVar 10) (mC (.int 0))) (mBin fIx (mLst (mACons (mFz (mC (.int 1))) (mACons (mFz (mC (.int 1))) (mACons (mFz (mC (.int 1))) (mACons (mFz (mC (.int 2))) (mACons (mFz (mC (.int 3))) mANil)))))) (mBin fMod (mBin fDiv (mVar 11) (mC (.int 4))) (mC (.int 5))))) 13)
  (mSeq (mAsg (mCall (f2 fMin2) (mACons (mVar 13) (mACons (mCall (f1 fLen) (mACons (mVar 7) mANil)) mANil))) 13)
  (mSeq (mIf (mOrT (mTst (mBin fEq (mVar 13) (mC (.int 0)))) (mAndT (mTst (mBin fEq (mBin fIx (mVar 10) (mC (.int 0))) (mC (.str "way")))) (mTst (mBin fLt (mVar 13) (mC (.int 2)))))) (fun s => some (Out.bk s)) mNext)
  m_pC))))))))
def m_pE : MS :=
  (mSeq (mIf (mTst (mBin fEq (mVar 5) (mLst mANil))) (mDrop (mApp 5 (mTup (mACons (mFz (mBin fIx (mVar 2) (mC (.int 0)))) (mACons (mFz (mTup (mACons (mFz (mC (.str "sum"))) mANil))) (mACons (mFz (mTup (mACons (mFz (mBin fIx (mVar 2) (mC (.int 0)))) mANil))) (mACons (mFz (mTup (mACons (mFz (mBin fIx (mVar 2) (mC (.int 1)))) mANil))) mANil))))))) mNext)
  (mRet (mCall (f1 fTuple) (mACons (mVar 5) mANil))))
def m_pT : MS :=
  (mSeq (mAsg (mBin fIx (mLst (mACons (mFz (mC (.int 2))) (mACons (mFz (mC (.int 4))) (mACons (mFz (mC (.int 6))) (mACons (mFz (mC (.int 9))) mANil))))) (mBin fMod (mCallF f_law_cell_at (mACons (mFz (mVar 0)) (mACons (mFz (mBin fAdd (mVar 1) (mC (.int 2)))) mANil))) (mC (.int 4)))) 4)
  (mSeq (mAsg (mLst mANil) 5)
  (mSeq (mAsg (mLcR1 (mCall (f2 fMin2) (mACons (mC (.int 24)) (mACons (mBin fAdd (mVar 4) (mVar 3)) mANil))) (tName 6) mYes (mBin fIx (mVar 2) (mVar 6)) [6]) 7)
  (mSeq (mAsg (mCall (f1 fList) (mACons (mVar 7) mANil)) 8)
  (mSeq (mForR1 (mVar 3) (tName 6) m_pB)
  m_pE)))))
theorem m_plan_eq : m_law_plan = (mSeq (mAsg (mCallF f_law_names (mACons (mFz (mCallF f_law_cell_at (mACons (mFz (mVar 0)) (mACons (mFz (mVar 1)) mANil)))) mANil)) 2)
  (mSeq (mAsg (mBin fIx (mLst (mACons (mFz (mC (.int 1))) (mACons (mFz (mC (.int 2))) (mACons (mFz (mC (.int 3))) (mACons (mFz (mC (.int 4))) (mACons (mFz (mC (.int 6))) (mACons (mFz (mC (.int 8))) mANil))))))) (mBin fMod (mCallF f_law_cell_at (mACons (mFz (mVar 0)) (mACons (mFz (mBin fAdd (mVar 1) (mC (.int 1)))) mANil))) (mC (.int 6)))) 3)
  (mSeq (mIf (mTst (mBin fEq (mBin fMod (mBin fDiv (mCallF f_law_cell_at (mACons (mFz (mVar 0)) (mACons (mFz (mBin fAdd (mVar 1) (mC (.int 1)))) mANil))) (mC (.int 6))) (mC (.int 10))) (mC (.int 1)))) (mAsg (mBin fAdd (mC (.int 9)) (mBin fMod (mBin fDiv (mCallF f_law_cell_at (mACons (mFz (mVar 0)) (mACons (mFz (mBin fAdd (mVar 1) (mC (.int 1)))) mANil))) (mC (.int 60))) (mC (.int 12)))) 3) mNext)
  m_pT))) := rfl
local macro_rules | `(tactic| walk_at "p") => `(tactic| first
  | ((with_reducible refine' put_vz ?z); (case z => first | rfl | assumption))
  | ((with_reducible refine' put_nz ?z); (case z => first | rfl | assumption))
  | (refine' put_vs ?m; (case m => walk_at "p"))
  | (refine' put_ns ?m; (case m => walk_at "p")))
local macro_rules | `(tactic| walk_at "u") => `(tactic| first
  | exact U_nil
  | (refine' U_in ?k ?x ?m; (case k => decide); (case x => rfl); (case m => walk_at "u"))
  | (refine' U_out ?k ?m; (case k => decide); (case m => walk_at "u")))
local macro_rules | `(tactic| walk_at "r") => `(tactic| first
  | exact Rs_nil
  | (refine' Rs_in ?k ?m; (case k => decide); (case m => walk_at "r"))
  | (refine' Rs_out ?k ?m; (case k => decide); (case m => walk_at "r")))
local macro_rules | `(tactic| walk_at "v") => `(tactic| first
  | with_reducible refine s_seq ?_
  | with_reducible refine s_asg ?_
  | ((with_reducible refine' v_var ?h ?_); (case h => exact rfl))
  | ((with_reducible refine' v_own ?h ?_); (case h => exact rfl))
  | with_reducible refine v_c ?_
  | with_reducible refine v_bin ?_
  | ((with_reducible refine' wp_cD ?h ?_); (case h => exact rfl))
  | with_reducible refine v_call ?_
  | with_reducible refine a_cons ?_
  | with_reducible refine a_nil ?_
  | ((with_reducible refine' wp_cDs ?h ?_); (case h => exact rfl))
  | with_reducible refine v_fz ?_
  | with_reducible refine fz_v ?_
  | ((with_reducible refine' fz_nw ?h ?_); (case h => exact rfl))
  | ((with_reducible refine' fz_sl ?h ?h2 ?_); (case h => exact rfl); (case h2 => exact rfl))
  | with_reducible refine c_pure ?_
  | with_reducible refine kV1 ?_
  | with_reducible refine kV2 ?_
  | with_reducible refine kV3 ?_
  | with_reducible refine kV4 ?_
  | with_reducible refine kV5 ?_
  | with_reducible refine kV6 ?_
  | with_reducible refine p_addI ?_
  | with_reducible refine p_sub ?_
  | ((with_reducible refine' p_mod ?h ?_); (case h => first | decide | omega))
  | ((with_reducible refine' p_div ?h ?_); (case h => first | decide | omega))
  | ((with_reducible refine' p_mulI ?h ?_); (case h => first | exact cmul_l (by decide) | exact cmul_r (by decide) | exact cmul_l (by omega) | exact cmul_r (by omega)))
  | with_reducible refine p_eqI ?_
  | with_reducible refine p_eqS ?_
  | with_reducible refine p_neI ?_
  | with_reducible refine p_neS ?_
  | with_reducible refine p_lt ?_
  | with_reducible refine p_le ?_
  | with_reducible refine p_gt ?_
  | with_reducible refine p_ge ?_
  | with_reducible refine p_neg ?_
  | with_reducible refine p_pow6 ?_
  | with_reducible refine p_lenL ?_
  | with_reducible refine p_lenT ?_
  | with_reducible refine p_intI ?_
  | with_reducible refine p_intB ?_
  | with_reducible refine p_listL ?_
  | with_reducible refine p_listT ?_
  | with_reducible refine p_tupL ?_
  | with_reducible refine p_tupT ?_
  | with_reducible refine p_max2 ?_
  | with_reducible refine p_min2 ?_
  | with_reducible refine p_eqB ?_
  | with_reducible refine p_neB ?_
  | with_reducible refine p_isN ?_
  | with_reducible refine p_notN ?_
  | ((with_reducible refine' wp_put ?h ?_); (case h => walk_at "p"))
  | with_reducible refine s_if ?_
  | with_reducible refine t_tst ?_
  | with_reducible refine ex_b ?_
  | with_reducible refine ex_i ?_
  | with_reducible refine t_not ?_
  | with_reducible refine t_and ?_
  | with_reducible refine t_or ?_
  | with_reducible refine t_yes ?_
  | with_reducible refine s_ret ?_
  | with_reducible refine kS_nx ?_
  | with_reducible refine kS_rt ?_
  | with_reducible refine kS_bk ?_
  | with_reducible refine kS_ct ?_
  | with_reducible refine s_next ?_
  | with_reducible refine s_some ?_
  | with_reducible refine s_drop ?_
  | with_reducible refine v_tup ?_
  | with_reducible refine v_lst ?_
  | ((with_reducible refine' wp_opsD ?h ?_); (case h => exact rfl))
  | ((with_reducible refine' ck_le ?h ?_); (case h => exact rfl))
  | with_reducible refine v_un ?_
  | with_reducible refine v_and ?_
  | with_reducible refine v_or ?_
  | with_reducible refine v_not ?_
  | with_reducible refine wp_bD ?_
  | with_reducible refine v_ife ?_
  | with_reducible refine v_chain ?_
  | with_reducible refine p_leB ?_
  | with_reducible refine p_ltB ?_
  | with_reducible refine v_getS ?_
  | with_reducible refine v_lcN ?_
  | with_reducible refine v_lcR1N ?_
  | with_reducible refine v_lcR2 ?_
  | with_reducible refine wp_seqL ?_
  | with_reducible refine wp_seqT ?_
  | with_reducible refine wp_selL ?_
  | with_reducible refine wp_selTL1 ?_
  | with_reducible refine wp_selTL2 ?_
  | ((with_reducible refine' wp_unwN ?h ?_); (case h => walk_at "u"))
  | ((with_reducible refine' ex_rs ?h ?_); (case h => walk_at "r"))
  | with_reducible refine kT_y ?_
  | with_reducible refine wp_vD ?_
  | with_reducible refine s_for ?_
  | with_reducible refine s_forE ?_
  | with_reducible refine s_forR1 ?_
  | with_reducible refine s_forR2 ?_
  | with_reducible refine kL_nx ?_
  | with_reducible refine kL_ct ?_
  | with_reducible refine kL_bk ?_
  | with_reducible refine kL_rt ?_
  | with_reducible refine s_unp ?_
  | with_reducible refine t_cons ?_
  | with_reducible refine t_nil ?_
  | ((with_reducible refine' t_tup ?h ?_); (case h => exact rfl))
  | ((with_reducible refine' wp_tName ?h ?_); (case h => walk_at "p"))
  | with_reducible refine v_app ?_
  | ((with_reducible refine' ex_app ?h ?_); (case h => exact rfl))
  | with_reducible refine v_pop ?_
  | with_reducible refine v_ext ?_
  | with_reducible refine s_setI ?_
  | with_reducible refine v_cat ?_
  | with_reducible refine v_rep ?_
  | ((with_reducible refine' wp_cLn ?h ?_); (case h => exact rfl))
  | with_reducible refine v_sl ?_
  | with_reducible refine o_none ?_
  | with_reducible refine o_part ?_
  | with_reducible refine v_allN ?_
  | with_reducible refine wp_selS ?_
  | with_reducible refine v_lc2N ?_
  | with_reducible refine v_lenT ?_
  | with_reducible refine v_m1 ?_
  | with_reducible refine c_isS ?_
  | with_reducible refine c_isL ?_
  | with_reducible refine a_star ?_
  | with_reducible refine p_inSg ?_
  | with_reducible refine p_strS ?_
  | with_reducible refine p_cnt ?_
  | with_reducible refine kB_v (Nat.le_of_ble_eq_true rfl) ?_
  | with_reducible refine kB_n (Nat.le_of_ble_eq_true rfl) ?_
  | with_reducible refine kB_x (Nat.le_of_ble_eq_true rfl) ?_
  | with_reducible refine p_isiStr k_ss ?_
  | with_reducible refine p_isiStr k_st ?_
  | with_reducible refine p_isiStr k_si ?_
  | with_reducible refine p_isiStr k_sb ?_
  | with_reducible refine p_isiTup k_tt ?_
  | with_reducible refine p_isiTup k_ts ?_
  | with_reducible refine p_isiInt k_ii ?_
  | with_reducible refine p_isiInt k_ib ?_
  | with_reducible refine p_isiInt k_it ?_
  | with_reducible refine p_isiInt k_is ?_)
local macro_rules | `(tactic| walk_at "V") => `(tactic| repeat (walk_at "v"))
structure PI (nm : List Str) (i : Nat) (P : List Stp) (fr : List Str) : Prop where
  len : P.length = i
  st : ∀ s ∈ P, StOk s
  nn : P.map (·.n) = (List.range i).map fun k => nm.getD (23 - k) Str.empty
  gg : (P.flatMap (·.gi) ++ fr).Nodup
  fl : fr.length ≤ 24
  fr : ∀ x ∈ fr, NmOk x
theorem sp_cell' (ns : List Int) (k : Int) (h : 0 ≤ k) : Ret f_law_cell_at [.list (ns.map PyData.int), .int k] fun o => ∃ c : Int, o = .v (.int c) := by
  obtain ⟨n, rfl⟩ : ∃ n : Nat, k = (n : Int) := ⟨k.toNat, (Int.toNat_of_nonneg h).symm⟩
  exact sp_cell ns n
theorem map_erase (k : Nat) : ∀ (l : List Str), (l.map PyData.str).eraseIdx k = (l.eraseIdx k).map PyData.str := by
  induction k with
  | zero => intro l; cases l <;> rfl
  | succ k ih =>
    intro l
    cases l with
    | nil => rfl
    | cons a r =>
      show PyData.str a :: (r.map PyData.str).eraseIdx k = _
      rw [ih r]
      rfl
theorem perm_erase : ∀ (l : List Str) (t : Nat) (h : t < l.length), (l[t] :: l.eraseIdx t).Perm l
  | a :: r, 0, _ => List.Perm.refl _
  | a :: r, t + 1, h => (List.Perm.swap a (r[t]'(Nat.lt_of_succ_lt_succ h)) (r.eraseIdx t)).trans (List.Perm.cons a (perm_erase r t (Nat.lt_of_succ_lt_succ h)))
theorem sp_pD (ns : List Int) (nm sp fr ys : List Str) (P : List Stp) (i many room : Nat) (pick more : Int) (r : Rl) (nd g : Nat) (x15 : Slot) (h15 : okS x15 = true)
    (hi : i < 20) (hnm : Nms nm) (hI : PI nm i P fr) (hfl0 : fr.length ≤ 24) (hm : 0 ≤ more) (hr : r.ok) (hg1 : g ≤ fr.length) (hg3 : g ≤ 3)
    (hc : ∃ a b e f, cnt r.w = some (a, b, e, f) ∧ a ≤ nd ∧ nd ≤ b ∧ e ≤ g ∧ g ≤ f) (hyl : ys.length = nd) (e3 : ∀ x ∈ ys, NmOk x) (hn4 : nd ≤ 4) :
    wp (m_pD [.fz (.list (ns.map PyData.int)), .fz (.int 0), .ow false (.lst (nm.map PyData.str)), .fz (.int (many : Int)), .fz (.int (room : Int)), .ow false (.lst (P.map Stp.d)), .fz (.int (0 + (i : Int))), .ow false (.lst (fr.map PyData.str)), .ow false (.lst (sp.map PyData.str)), .fz (.int pick), .fz r.d, .fz (.int more), .fz (.int (nd : Int)), .fz (.int (g : Int)), .ow false (.lst (ys.map PyData.str)), x15, .un]) fun o =>
      ∃ P' fr' y14 y15, okS y14 = true ∧ okS y15 = true ∧ PI nm (i + 1) P' fr' ∧ o = .nx [.fz (.list (ns.map PyData.int)), .fz (.int 0), .ow false (.lst (nm.map PyData.str)), .fz (.int (many : Int)), .fz (.int (room : Int)), .ow false (.lst (P'.map Stp.d)), .fz (.int (0 + (i : Int))), .ow false (.lst (fr'.map PyData.str)), .ow false (.lst (sp.map PyData.str)), .fz (.int pick), .fz r.d, .fz (.int more), .fz (.int (nd : Int)), .fz (.int (g : Int)), y14, y15, .un] := by
  unfold m_pD
  walk_at "V"
  refine ⟨⟨by omega, by omega⟩, ?_⟩
  walk_at "V"
  refine w_lcR (fun j zs s => ∃ y2 f2 : List Str, zs = y2.map PyData.str ∧ y2.length = j ∧ f2.length + j = fr.length ∧ (P.flatMap (·.gi) ++ y2 ++ f2).Nodup ∧ (∀ x ∈ y2, NmOk x) ∧ (∀ x ∈ f2, NmOk x) ∧ s = [.fz (.list (ns.map PyData.int)), .fz (.int 0), .ow false (.lst (nm.map PyData.str)), .fz (.int (many : Int)), .fz (.int (room : Int)), .ow false (.lst (P.map Stp.d)), .fz (.int (0 + (i : Int))), .ow false (.lst (f2.map PyData.str)), .ow false (.lst (sp.map PyData.str)), .fz (.int pick), .fz r.d, .fz (.int more), .fz (.int (nd : Int)), .fz (.int (g : Int)), .ow false (.lst (ys.map PyData.str)), x15, .un])
    ⟨[], fr, rfl, rfl, rfl, by rw [List.append_nil]; exact hI.gg, (fun _ z => nomatch z), hI.fr, rfl⟩ (fun j zs s hj ⟨y2, f2, e1, e2, e5, e6, e7, e8, e4⟩ => ?_) (fun zs s ⟨y2, f2, e1, e2, e5, e6, e7, e8, e4⟩ => ?_)
  · subst e1 e4
    have hf2 : 0 < f2.length := by omega
    walk_at "V"
    refine (sp_next _).mono fun o eo => ?_
    obtain ⟨q, rfl, q0, q1⟩ := eo
    walk_at "V"
    refine p_mod (by rw [List.length_map]; omega) ?_
    walk_at "V"
    have b1 := Int.emod_lt_of_pos q (b := ((f2.map PyData.str).length : Int)) (by rw [List.length_map]; omega)
    have b2 := Int.emod_nonneg q (b := ((f2.map PyData.str).length : Int)) (by rw [List.length_map]; omega)
    have hlt : (q % ((f2.map PyData.str).length : Int)).toNat < f2.length := by
      rw [List.length_map] at b1 b2 ⊢
      omega
    have heq : q % ((f2.map PyData.str).length : Int) = (((q % ((f2.map PyData.str).length : Int)).toNat : Nat) : Int) := (Int.toNat_of_nonneg b2).symm
    rw [heq]
    generalize (q % ((f2.map PyData.str).length : Int)).toNat = t at hlt
    have hfl : f2.length ≤ 24 := by
      omega
    refine ⟨_, _, (t : Int), t, .str f2[t], rfl, rfl, ?_, by rw [List.getElem?_map, List.getElem?_eq_getElem hlt] <;> rfl, ⟨by omega, by omega⟩, ?_⟩
    · unfold ixN
      rw [if_pos (by omega), if_pos (by rw [List.length_map]; omega), Int.toNat_natCast]
    rw [map_erase]
    walk_at "V"
    have hp : (f2[t] :: f2.eraseIdx t).Perm f2 := perm_erase f2 t hlt
    refine ⟨y2 ++ [f2[t]], f2.eraseIdx t, by simp, by simp [e2], ?_, ?_, fun x hx => ?_, fun x hx => e8 x (List.mem_of_mem_eraseIdx hx), rfl⟩
    · have := List.length_eraseIdx_of_lt hlt
      omega
    · have e9 : P.flatMap (·.gi) ++ (y2 ++ [f2[t]]) ++ f2.eraseIdx t = P.flatMap (·.gi) ++ y2 ++ (f2[t] :: f2.eraseIdx t) := by simp
      rw [e9]
      exact (List.Perm.nodup_iff (List.Perm.append_left _ hp)).mpr e6
    · rcases List.mem_append.mp hx with z | z
      · exact e7 x z
      · rw [List.mem_singleton.mp z]
        exact e8 _ (List.getElem_mem hlt)
  subst e1 e4
  have hgl : y2.length = g := by simpa using e2
  refine ⟨by rw [List.length_map]; omega, ?_⟩
  walk_at "V"
  have hk : 23 - i < nm.length := by rw [hnm.len]; omega
  have hix : (23 : Int) - (0 + (i : Int)) = ((23 - i : Nat) : Int) := by omega
  rw [hix]
  refine p_ixL (d := .str nm[23 - i]) (at_nat (by rw [List.getElem?_map, List.getElem?_eq_getElem hk] <;> rfl)) ?_
  walk_at "V"
  refine ⟨by rw [List.length_map, hI.len]; omega, ?_⟩
  walk_at "V"
  obtain ⟨a, b, e, f, hc1, hc2, hc3, hc4, hc5⟩ := hc
  refine ⟨P ++ [⟨nm[23 - i], r, ys, y2⟩], f2, .ow false (.lst (ys.map PyData.str)), .ow false (.lst (y2.map PyData.str)), rfl, rfl, ⟨?_, ?_, ?_, ?_, by omega, e8⟩, ?_⟩
  · rw [List.length_append, hI.len]
    rfl
  · intro s hs
    rcases List.mem_append.mp hs with z | z
    · exact hI.st s z
    · rw [List.mem_singleton.mp z]
      exact ⟨hnm.ok _ (List.getElem_mem hk), hr, ⟨a, b, e, f, hc1, by show a ≤ ys.length; omega, by show ys.length ≤ b; omega, by show e ≤ y2.length; omega, by show y2.length ≤ f; omega⟩, e3, e7⟩
  · rw [List.map_append, hI.nn, List.range_succ, List.map_append]
    congr 1
    show [nm[23 - i]] = [nm.getD (23 - i) Str.empty]
    rw [List.getD_eq_getElem?_getD, List.getElem?_eq_getElem hk]
    rfl
  · rw [List.flatMap_append]
    show (P.flatMap (fun s : Stp => s.gi) ++ (y2 ++ []) ++ f2).Nodup
    rw [List.append_nil]
    exact e6
  · rw [List.map_append]
    rfl
end K12
-- K12j.lean
set_option Elab.async false
set_option linter.all false
set_option maxRecDepth 100000
set_option maxHeartbeats 2000000
/-! K12j: a turn of the law's plan. -/
namespace K12
open PySem L2 Sh
local macro_rules | `(tactic| walk_at "p") => `(tactic| first
  | ((with_reducible refine' put_vz ?z); (case z => first | rfl | assumption))
  | ((with_reducible refine' put_nz ?z); (case z => first | rfl | assumption))
  | (refine' put_vs ?m; (case m => walk_at "p"))
  | (refine' put_ns ?m; (case m => walk_at "p")))
local macro_rules | `(tactic| walk_at "u") => `(tactic| first
  | exact U_nil
  | (refine' U_in ?k ?x ?m; (case k => decide); (case x => rfl); (case m => walk_at "u"))
  | (refine' U_out ?k ?m; (case k => decide); (case m => walk_at "u")))
local macro_rules | `(tactic| walk_at "r") => `(tactic| first
  | exact Rs_nil
  | (refine' Rs_in ?k ?m; (case k => decide); (case m => walk_at "r"))
  | (refine' Rs_out ?k ?m; (case k => decide); (case m => walk_at "r")))
local macro_rules | `(tactic| walk_at "v") => `(tactic| first
  | with_reducible refine s_seq ?_
  | with_reducible refine s_asg ?_
  | ((with_reducible refine' v_var ?h ?_); (case h => exact rfl))
  | ((with_reducible refine' v_own ?h ?_); (case h => exact rfl))
  | with_reducible refine v_c ?_
  | with_reducible refine v_bin ?_
  | ((with_reducible refine' wp_cD ?h ?_); (case h => exact rfl))
  | with_reducible refine v_call ?_
  | with_reducible refine a_cons ?_
  | with_reducible refine a_nil ?_
  | ((with_reducible refine' wp_cDs ?h ?_); (case h => exact rfl))
  | with_reducible refine v_fz ?_
  | with_reducible refine fz_v ?_
  | ((with_reducible refine' fz_nw ?h ?_); (case h => exact rfl))
  | ((with_reducible refine' fz_sl ?h ?h2 ?_); (case h => exact rfl); (case h2 => exact rfl))
  | with_reducible refine c_pure ?_
  | with_reducible refine kV1 ?_
  | with_reducible refine kV2 ?_
  | with_reducible refine kV3 ?_
  | with_reducible refine kV4 ?_
  | with_reducible refine kV5 ?_
  | with_reducible refine kV6 ?_
  | with_reducible refine p_addI ?_
  | with_reducible refine p_sub ?_
  | ((with_reducible refine' p_mod ?h ?_); (case h => first | decide | omega))
  | ((with_reducible refine' p_div ?h ?_); (case h => first | decide | omega))
  | ((with_reducible refine' p_mulI ?h ?_); (case h => first | exact cmul_l (by decide) | exact cmul_r (by decide) | exact cmul_l (by omega) | exact cmul_r (by omega)))
  | with_reducible refine p_eqI ?_
  | with_reducible refine p_eqS ?_
  | with_reducible refine p_neI ?_
  | with_reducible refine p_neS ?_
  | with_reducible refine p_lt ?_
  | with_reducible refine p_le ?_
  | with_reducible refine p_gt ?_
  | with_reducible refine p_ge ?_
  | with_reducible refine p_neg ?_
  | with_reducible refine p_pow6 ?_
  | with_reducible refine p_lenL ?_
  | with_reducible refine p_lenT ?_
  | with_reducible refine p_intI ?_
  | with_reducible refine p_intB ?_
  | with_reducible refine p_listL ?_
  | with_reducible refine p_listT ?_
  | with_reducible refine p_tupL ?_
  | with_reducible refine p_tupT ?_
  | with_reducible refine p_max2 ?_
  | with_reducible refine p_min2 ?_
  | with_reducible refine p_eqB ?_
  | with_reducible refine p_neB ?_
  | with_reducible refine p_isN ?_
  | with_reducible refine p_notN ?_
  | ((with_reducible refine' wp_put ?h ?_); (case h => walk_at "p"))
  | with_reducible refine s_if ?_
  | with_reducible refine t_tst ?_
  | with_reducible refine ex_b ?_
  | with_reducible refine ex_i ?_
  | with_reducible refine t_not ?_
  | with_reducible refine t_and ?_
  | with_reducible refine t_or ?_
  | with_reducible refine t_yes ?_
  | with_reducible refine s_ret ?_
  | with_reducible refine kS_nx ?_
  | with_reducible refine kS_rt ?_
  | with_reducible refine kS_bk ?_
  | with_reducible refine kS_ct ?_
  | with_reducible refine s_next ?_
  | with_reducible refine s_some ?_
  | with_reducible refine s_drop ?_
  | with_reducible refine v_tup ?_
  | with_reducible refine v_lst ?_
  | ((with_reducible refine' wp_opsD ?h ?_); (case h => exact rfl))
  | ((with_reducible refine' ck_le ?h ?_); (case h => exact rfl))
  | with_reducible refine v_un ?_
  | with_reducible refine v_and ?_
  | with_reducible refine v_or ?_
  | with_reducible refine v_not ?_
  | with_reducible refine wp_bD ?_
  | with_reducible refine v_ife ?_
  | with_reducible refine v_chain ?_
  | with_reducible refine p_leB ?_
  | with_reducible refine p_ltB ?_
  | with_reducible refine v_getS ?_
  | with_reducible refine v_lcN ?_
  | with_reducible refine v_lcR1N ?_
  | with_reducible refine v_lcR2 ?_
  | with_reducible refine wp_seqL ?_
  | with_reducible refine wp_seqT ?_
  | with_reducible refine wp_selL ?_
  | with_reducible refine wp_selTL1 ?_
  | with_reducible refine wp_selTL2 ?_
  | ((with_reducible refine' wp_unwN ?h ?_); (case h => walk_at "u"))
  | ((with_reducible refine' ex_rs ?h ?_); (case h => walk_at "r"))
  | with_reducible refine kT_y ?_
  | with_reducible refine wp_vD ?_
  | with_reducible refine s_for ?_
  | with_reducible refine s_forE ?_
  | with_reducible refine s_forR1 ?_
  | with_reducible refine s_forR2 ?_
  | with_reducible refine kL_nx ?_
  | with_reducible refine kL_ct ?_
  | with_reducible refine kL_bk ?_
  | with_reducible refine kL_rt ?_
  | with_reducible refine s_unp ?_
  | with_reducible refine t_cons ?_
  | with_reducible refine t_nil ?_
  | ((with_reducible refine' t_tup ?h ?_); (case h => exact rfl))
  | ((with_reducible refine' wp_tName ?h ?_); (case h => walk_at "p"))
  | with_reducible refine v_app ?_
  | ((with_reducible refine' ex_app ?h ?_); (case h => exact rfl))
  | with_reducible refine v_pop ?_
  | with_reducible refine v_ext ?_
  | with_reducible refine s_setI ?_
  | with_reducible refine v_cat ?_
  | with_reducible refine v_rep ?_
  | ((with_reducible refine' wp_cLn ?h ?_); (case h => exact rfl))
  | with_reducible refine v_sl ?_
  | with_reducible refine o_none ?_
  | with_reducible refine o_part ?_
  | with_reducible refine v_allN ?_
  | with_reducible refine wp_selS ?_
  | with_reducible refine v_lc2N ?_
  | with_reducible refine v_lenT ?_
  | with_reducible refine v_m1 ?_
  | with_reducible refine c_isS ?_
  | with_reducible refine c_isL ?_
  | with_reducible refine a_star ?_
  | with_reducible refine p_inSg ?_
  | with_reducible refine p_strS ?_
  | with_reducible refine p_cnt ?_
  | with_reducible refine kB_v (Nat.le_of_ble_eq_true rfl) ?_
  | with_reducible refine kB_n (Nat.le_of_ble_eq_true rfl) ?_
  | with_reducible refine kB_x (Nat.le_of_ble_eq_true rfl) ?_
  | with_reducible refine p_isiStr k_ss ?_
  | with_reducible refine p_isiStr k_st ?_
  | with_reducible refine p_isiStr k_si ?_
  | with_reducible refine p_isiStr k_sb ?_
  | with_reducible refine p_isiTup k_tt ?_
  | with_reducible refine p_isiTup k_ts ?_
  | with_reducible refine p_isiInt k_ii ?_
  | with_reducible refine p_isiInt k_ib ?_
  | with_reducible refine p_isiInt k_it ?_
  | with_reducible refine p_isiInt k_is ?_)
local macro_rules | `(tactic| walk_at "V") => `(tactic| repeat (walk_at "v"))
theorem sp_pC (ns : List Int) (nm sp fr : List Str) (P : List Stp) (i many room : Nat) (pick more : Int) (r : Rl) (nd g : Nat) (x14 x15 : Slot) (h14 : okS x14 = true) (h15 : okS x15 = true)
    (hi : i < 20) (hnm : Nms nm) (hsp : ∀ x ∈ sp, NmOk x) (hsl : 0 < sp.length) (hI : PI nm i P fr) (hfl0 : fr.length ≤ 24) (hm : 0 ≤ more) (hr : r.ok) (hg1 : g ≤ fr.length) (hg3 : g ≤ 3) (hn4 : nd ≤ 4)
    (hc : ∃ a b e f, cnt r.w = some (a, b, e, f) ∧ a ≤ nd ∧ nd ≤ b ∧ e ≤ g ∧ g ≤ f) :
    wp (m_pC [.fz (.list (ns.map PyData.int)), .fz (.int 0), .ow false (.lst (nm.map PyData.str)), .fz (.int (many : Int)), .fz (.int (room : Int)), .ow false (.lst (P.map Stp.d)), .fz (.int (0 + (i : Int))), .ow false (.lst (fr.map PyData.str)), .ow false (.lst (sp.map PyData.str)), .fz (.int pick), .fz r.d, .fz (.int more), .fz (.int (nd : Int)), .fz (.int (g : Int)), x14, x15, .un]) fun o =>
      ∃ P' fr' y14 y15, okS y14 = true ∧ okS y15 = true ∧ PI nm (i + 1) P' fr' ∧ o = .nx [.fz (.list (ns.map PyData.int)), .fz (.int 0), .ow false (.lst (nm.map PyData.str)), .fz (.int (many : Int)), .fz (.int (room : Int)), .ow false (.lst (P'.map Stp.d)), .fz (.int (0 + (i : Int))), .ow false (.lst (fr'.map PyData.str)), .ow false (.lst (sp.map PyData.str)), .fz (.int pick), .fz r.d, .fz (.int more), .fz (.int (nd : Int)), .fz (.int (g : Int)), y14, y15, .un] := by
  unfold m_pC
  walk_at "V"
  refine ⟨⟨by omega, by omega⟩, ?_⟩
  walk_at "V"
  refine w_lcR (fun j zs s => ∃ ys : List Str, zs = ys.map PyData.str ∧ ys.length = j ∧ (∀ x ∈ ys, NmOk x) ∧ s = [.fz (.list (ns.map PyData.int)), .fz (.int 0), .ow false (.lst (nm.map PyData.str)), .fz (.int (many : Int)), .fz (.int (room : Int)), .ow false (.lst (P.map Stp.d)), .fz (.int (0 + (i : Int))), .ow false (.lst (fr.map PyData.str)), .ow false (.lst (sp.map PyData.str)), .fz (.int pick), .fz r.d, .fz (.int more), .fz (.int (nd : Int)), .fz (.int (g : Int)), x14, x15, .un])
    ⟨[], rfl, rfl, (fun _ z => nomatch z), rfl⟩ (fun j zs s hj ⟨ys, e1, e2, e3, e4⟩ => ?_) (fun zs s ⟨ys, e1, e2, e3, e4⟩ => ?_)
  · subst e1 e4
    walk_at "V"
    refine (sp_next _).mono fun o eo => ?_
    obtain ⟨q, rfl, q0, q1⟩ := eo
    walk_at "V"
    refine p_mod (by rw [List.length_map]; omega) ?_
    walk_at "V"
    have hlt : (q % ((sp.map PyData.str).length : Int)).toNat < sp.length := by
      have h1 := Int.emod_lt_of_pos q (b := ((sp.map PyData.str).length : Int)) (by rw [List.length_map]; omega)
      have h2 := Int.emod_nonneg q (b := ((sp.map PyData.str).length : Int)) (by rw [List.length_map]; omega)
      rw [List.length_map] at h1 h2 ⊢
      omega
    have heq : q % ((sp.map PyData.str).length : Int) = (((q % ((sp.map PyData.str).length : Int)).toNat : Nat) : Int) := (Int.toNat_of_nonneg (Int.emod_nonneg _ (by rw [List.length_map]; omega))).symm
    rw [heq]
    generalize (q % ((sp.map PyData.str).length : Int)).toNat = t at hlt
    refine p_ixL (d := .str sp[t]) (at_nat (by rw [List.getElem?_map, List.getElem?_eq_getElem hlt] <;> rfl)) ?_
    walk_at "V"
    refine ⟨ys ++ [sp[t]], by simp, by simp [e2], fun x hx => ?_, rfl⟩
    rcases List.mem_append.mp hx with z | z
    · exact e3 x z
    · rw [List.mem_singleton.mp z]
      exact hsp _ (List.getElem_mem hlt)
  subst e1 e4
  have hyl : ys.length = nd := by simpa using e2
  refine ⟨by rw [List.length_map]; omega, ?_⟩
  walk_at "V"
  exact sp_pD ns nm sp fr ys P i many room pick more r nd g x15 h15 hi hnm hI hfl0 hm hr hg1 hg3 hc hyl e3 hn4
end K12
-- K12k.lean
set_option Elab.async false
set_option linter.all false
set_option maxRecDepth 100000
set_option maxHeartbeats 4000000
/-! K12k: the turns of the law's plan. -/
namespace K12
open PySem L2 Sh
local macro_rules | `(tactic| walk_at "p") => `(tactic| first
  | ((with_reducible refine' put_vz ?z); (case z => first | rfl | assumption))
  | ((with_reducible refine' put_nz ?z); (case z => first | rfl | assumption))
  | (refine' put_vs ?m; (case m => walk_at "p"))
  | (refine' put_ns ?m; (case m => walk_at "p")))
local macro_rules | `(tactic| walk_at "u") => `(tactic| first
  | exact U_nil
  | (refine' U_in ?k ?x ?m; (case k => decide); (case x => rfl); (case m => walk_at "u"))
  | (refine' U_out ?k ?m; (case k => decide); (case m => walk_at "u")))
local macro_rules | `(tactic| walk_at "r") => `(tactic| first
  | exact Rs_nil
  | (refine' Rs_in ?k ?m; (case k => decide); (case m => walk_at "r"))
  | (refine' Rs_out ?k ?m; (case k => decide); (case m => walk_at "r")))
local macro_rules | `(tactic| walk_at "v") => `(tactic| first
  | with_reducible refine s_seq ?_
  | with_reducible refine s_asg ?_
  | ((with_reducible refine' v_var ?h ?_); (case h => exact rfl))
  | ((with_reducible refine' v_own ?h ?_); (case h => exact rfl))
  | with_reducible refine v_c ?_
  | with_reducible refine v_bin ?_
  | ((with_reducible refine' wp_cD ?h ?_); (case h => exact rfl))
  | with_reducible refine v_call ?_
  | with_reducible refine a_cons ?_
  | with_reducible refine a_nil ?_
  | ((with_reducible refine' wp_cDs ?h ?_); (case h => exact rfl))
  | with_reducible refine v_fz ?_
  | with_reducible refine fz_v ?_
  | ((with_reducible refine' fz_nw ?h ?_); (case h => exact rfl))
  | ((with_reducible refine' fz_sl ?h ?h2 ?_); (case h => exact rfl); (case h2 => exact rfl))
  | with_reducible refine c_pure ?_
  | with_reducible refine kV1 ?_
  | with_reducible refine kV2 ?_
  | with_reducible refine kV3 ?_
  | with_reducible refine kV4 ?_
  | with_reducible refine kV5 ?_
  | with_reducible refine kV6 ?_
  | with_reducible refine p_addI ?_
  | with_reducible refine p_sub ?_
  | ((with_reducible refine' p_mod ?h ?_); (case h => first | decide | omega))
  | ((with_reducible refine' p_div ?h ?_); (case h => first | decide | omega))
  | ((with_reducible refine' p_mulI ?h ?_); (case h => first | exact cmul_l (by decide) | exact cmul_r (by decide) | exact cmul_l (by omega) | exact cmul_r (by omega)))
  | with_reducible refine p_eqI ?_
  | with_reducible refine p_eqS ?_
  | with_reducible refine p_neI ?_
  | with_reducible refine p_neS ?_
  | with_reducible refine p_lt ?_
  | with_reducible refine p_le ?_
  | with_reducible refine p_gt ?_
  | with_reducible refine p_ge ?_
  | with_reducible refine p_neg ?_
  | with_reducible refine p_pow6 ?_
  | with_reducible refine p_lenL ?_
  | with_reducible refine p_lenT ?_
  | with_reducible refine p_intI ?_
  | with_reducible refine p_intB ?_
  | with_reducible refine p_listL ?_
  | with_reducible refine p_listT ?_
  | with_reducible refine p_tupL ?_
  | with_reducible refine p_tupT ?_
  | with_reducible refine p_max2 ?_
  | with_reducible refine p_min2 ?_
  | with_reducible refine p_eqB ?_
  | with_reducible refine p_neB ?_
  | with_reducible refine p_isN ?_
  | with_reducible refine p_notN ?_
  | ((with_reducible refine' wp_put ?h ?_); (case h => walk_at "p"))
  | with_reducible refine s_if ?_
  | with_reducible refine t_tst ?_
  | with_reducible refine ex_b ?_
  | with_reducible refine ex_i ?_
  | with_reducible refine t_not ?_
  | with_reducible refine t_and ?_
  | with_reducible refine t_or ?_
  | with_reducible refine t_yes ?_
  | with_reducible refine s_ret ?_
  | with_reducible refine kS_nx ?_
  | with_reducible refine kS_rt ?_
  | with_reducible refine kS_bk ?_
  | with_reducible refine kS_ct ?_
  | with_reducible refine s_next ?_
  | with_reducible refine s_some ?_
  | with_reducible refine s_drop ?_
  | with_reducible refine v_tup ?_
  | with_reducible refine v_lst ?_
  | ((with_reducible refine' wp_opsD ?h ?_); (case h => exact rfl))
  | ((with_reducible refine' ck_le ?h ?_); (case h => exact rfl))
  | with_reducible refine v_un ?_
  | with_reducible refine v_and ?_
  | with_reducible refine v_or ?_
  | with_reducible refine v_not ?_
  | with_reducible refine wp_bD ?_
  | with_reducible refine v_ife ?_
  | with_reducible refine v_chain ?_
  | with_reducible refine p_leB ?_
  | with_reducible refine p_ltB ?_
  | with_reducible refine v_getS ?_
  | with_reducible refine v_lcN ?_
  | with_reducible refine v_lcR1N ?_
  | with_reducible refine v_lcR2 ?_
  | with_reducible refine wp_seqL ?_
  | with_reducible refine wp_seqT ?_
  | with_reducible refine wp_selL ?_
  | with_reducible refine wp_selTL1 ?_
  | with_reducible refine wp_selTL2 ?_
  | ((with_reducible refine' wp_unwN ?h ?_); (case h => walk_at "u"))
  | ((with_reducible refine' ex_rs ?h ?_); (case h => walk_at "r"))
  | with_reducible refine kT_y ?_
  | with_reducible refine wp_vD ?_
  | with_reducible refine s_for ?_
  | with_reducible refine s_forE ?_
  | with_reducible refine s_forR1 ?_
  | with_reducible refine s_forR2 ?_
  | with_reducible refine kL_nx ?_
  | with_reducible refine kL_ct ?_
  | with_reducible refine kL_bk ?_
  | with_reducible refine kL_rt ?_
  | with_reducible refine s_unp ?_
  | with_reducible refine t_cons ?_
  | with_reducible refine t_nil ?_
  | ((with_reducible refine' t_tup ?h ?_); (case h => exact rfl))
  | ((with_reducible refine' wp_tName ?h ?_); (case h => walk_at "p"))
  | with_reducible refine v_app ?_
  | ((with_reducible refine' ex_app ?h ?_); (case h => exact rfl))
  | with_reducible refine v_pop ?_
  | with_reducible refine v_ext ?_
  | with_reducible refine s_setI ?_
  | with_reducible refine v_cat ?_
  | with_reducible refine v_rep ?_
  | ((with_reducible refine' wp_cLn ?h ?_); (case h => exact rfl))
  | with_reducible refine v_sl ?_
  | with_reducible refine o_none ?_
  | with_reducible refine o_part ?_
  | with_reducible refine v_allN ?_
  | with_reducible refine wp_selS ?_
  | with_reducible refine v_lc2N ?_
  | with_reducible refine v_lenT ?_
  | with_reducible refine v_m1 ?_
  | with_reducible refine c_isS ?_
  | with_reducible refine c_isL ?_
  | with_reducible refine a_star ?_
  | with_reducible refine p_inSg ?_
  | with_reducible refine p_strS ?_
  | with_reducible refine p_cnt ?_
  | with_reducible refine kB_v (Nat.le_of_ble_eq_true rfl) ?_
  | with_reducible refine kB_n (Nat.le_of_ble_eq_true rfl) ?_
  | with_reducible refine kB_x (Nat.le_of_ble_eq_true rfl) ?_
  | with_reducible refine p_isiStr k_ss ?_
  | with_reducible refine p_isiStr k_st ?_
  | with_reducible refine p_isiStr k_si ?_
  | with_reducible refine p_isiStr k_sb ?_
  | with_reducible refine p_isiTup k_tt ?_
  | with_reducible refine p_isiTup k_ts ?_
  | with_reducible refine p_isiInt k_ii ?_
  | with_reducible refine p_isiInt k_ib ?_
  | with_reducible refine p_isiInt k_it ?_
  | with_reducible refine p_isiInt k_is ?_)
local macro_rules | `(tactic| walk_at "V") => `(tactic| repeat (walk_at "v"))
def ndW (w : Str) (m : Int) : Int := if w = "way" then 2 else if w = "choose" then 3 else if w = "later" then 1 else 1 + m % 4
theorem at_later (w : Str) (m : Int) : atI [PyData.int (1 + m % 4), .int 1] (if decide (w = "later") = true then 1 else 0) = some (.int (if w = "later" then 1 else 1 + m % 4)) := by
  by_cases h : w = "later"
  · rw [if_pos (decide_eq_true h), if_pos h]
    rfl
  · rw [if_neg (by simpa using h), if_neg h]
    rfl
theorem get_nd (w : Str) (m : Int) : getD2 [("way", 2), ("choose", 3)] w (.int (if w = "later" then 1 else 1 + m % 4)) = some (ndW w m) := by
  by_cases h1 : w = "way"
  · subst h1
    simp [getD2, getS, ndW]
  · have h1' : ¬ ("way" : Str) = w := fun z => h1 z.symm
    by_cases h2 : w = "choose"
    · subst h2
      rfl
    · have h2' : ¬ ("choose" : Str) = w := fun z => h2 z.symm
      simp [getD2, getS, ndW, h1, h1', h2, h2', iD]
theorem get_g (w : Str) (z : Int) : getD2 [("way", 2)] w (.int z) = some (if w = "way" then 2 else z) := by
  by_cases h1 : w = "way"
  · subst h1
    simp [getD2, getS]
  · have h1' : ¬ ("way" : Str) = w := fun z => h1 z.symm
    simp [getD2, getS, h1, h1', iD]
theorem cnt_ok {r : Rl} (h : r.ok) (m : Int) (g : Nat) (hg : 1 ≤ g ∧ g ≤ 3) (hw : r.w = "way" → g = 2) : ∃ nd : Nat, ndW r.w m = (nd : Int) ∧ nd ≤ 4 ∧ ∃ a b e f, cnt r.w = some (a, b, e, f) ∧ a ≤ nd ∧ nd ≤ b ∧ e ≤ g ∧ g ≤ f := by
  have key : ∀ w : Str, w ∈ (["sum", "times", "least", "most", "fixed", "later", "way", "choose"] : List Str) → (w = "way" → g = 2) → ∃ nd : Nat, ndW w m = (nd : Int) ∧ nd ≤ 4 ∧ ∃ a b e f, cnt w = some (a, b, e, f) ∧ a ≤ nd ∧ nd ≤ b ∧ e ≤ g ∧ g ≤ f := by
    intro w hm hw
    have h14 : ∃ nd : Nat, 1 + m % 4 = (nd : Int) ∧ 1 ≤ nd ∧ nd ≤ 4 := ⟨(1 + m % 4).toNat, by omega, by omega, by omega⟩
    obtain ⟨nd, e1, e2, e3⟩ := h14
    simp only [List.mem_cons, List.not_mem_nil, or_false] at hm
    rcases hm with q | q | q | q | q | q | q | q <;> subst q
    · exact ⟨nd, e1, e3, 1, 4, 1, 3, rfl, e2, e3, hg.1, hg.2⟩
    · exact ⟨nd, e1, e3, 1, 4, 1, 3, rfl, e2, e3, hg.1, hg.2⟩
    · exact ⟨nd, e1, e3, 1, 4, 1, 3, rfl, e2, e3, hg.1, hg.2⟩
    · exact ⟨nd, e1, e3, 1, 4, 1, 3, rfl, e2, e3, hg.1, hg.2⟩
    · exact ⟨nd, e1, e3, 1, 4, 1, 3, rfl, e2, e3, hg.1, hg.2⟩
    · exact ⟨1, rfl, by decide, 1, 1, 1, 3, rfl, by decide, by decide, hg.1, hg.2⟩
    · exact ⟨2, rfl, by decide, 2, 2, 2, 2, rfl, by decide, by decide, by rw [hw rfl]; decide, by rw [hw rfl]; decide⟩
    · exact ⟨3, rfl, by decide, 3, 3, 1, 3, rfl, by decide, by decide, hg.1, hg.2⟩
  refine key r.w ?_ hw
  cases r with
  | fx i => exact (by decide : ("fixed" : Str) ∈ (["sum", "times", "least", "most", "fixed", "later", "way", "choose"] : List Str))
  | wd w =>
    have h : w ∈ (["sum", "times", "least", "most", "later", "way", "choose"] : List Str) := h
    show w ∈ (["sum", "times", "least", "most", "fixed", "later", "way", "choose"] : List Str)
    simp only [List.mem_cons, List.not_mem_nil, or_false] at h ⊢
    rcases h with q | q | q | q | q | q | q <;> subst q <;> simp
theorem p_rd {r : Rl} {Q : Op → SL → Prop} {s : SL} (q : Q (.v (.str r.w)) s) : wp (fIx r.d (.int 0)) (kR Q s) := by
  obtain ⟨ds, e1, e2⟩ := rl_at r
  rw [e1]
  exact p_ixT (at_nat (k := 0) e2) q
theorem at_g (m : Int) (h : 0 ≤ m) : ∃ g : Nat, atI [PyData.int 1, .int 1, .int 1, .int 2, .int 3] (m / 4 % 5) = some (.int (g : Int)) ∧ 1 ≤ g ∧ g ≤ 3 := by
  have h5 : m / 4 % 5 = 0 ∨ m / 4 % 5 = 1 ∨ m / 4 % 5 = 2 ∨ m / 4 % 5 = 3 ∨ m / 4 % 5 = 4 := by omega
  rcases h5 with e | e | e | e | e <;> rw [e]
  · exact ⟨1, rfl, by decide, by decide⟩
  · exact ⟨1, rfl, by decide, by decide⟩
  · exact ⟨1, rfl, by decide, by decide⟩
  · exact ⟨2, rfl, by decide, by decide⟩
  · exact ⟨3, rfl, by decide, by decide⟩
theorem min_g (w : Str) (g0 n : Nat) (h : 1 ≤ g0 ∧ g0 ≤ 3) : ∃ g : Nat, (if (n : Int) < (if w = "way" then 2 else (g0 : Int)) then (n : Int) else (if w = "way" then 2 else (g0 : Int))) = (g : Int) ∧ g ≤ n ∧ g ≤ 3 ∧ (w = "way" → g ≤ 2) := by
  by_cases hw : w = "way"
  · rw [if_pos hw]
    by_cases h2 : (n : Int) < 2
    · rw [if_pos h2]
      exact ⟨n, rfl, by omega, by omega, fun _ => by omega⟩
    · rw [if_neg h2]
      exact ⟨2, rfl, by omega, by omega, fun _ => by omega⟩
  · rw [if_neg hw]
    by_cases h2 : (n : Int) < (g0 : Int)
    · rw [if_pos h2]
      exact ⟨n, rfl, by omega, by omega, fun z => absurd z hw⟩
    · rw [if_neg h2]
      exact ⟨g0, rfl, by omega, by omega, fun z => absurd z hw⟩
/-- how the turns go -/
def LI (ns : List Int) (nm sp : List Str) (many room : Nat) (i : Nat) (s : SL) : Prop := ∃ (P : List Stp) (fr : List Str) (x6 x9 x10 x11 x12 x13 x14 x15 : Slot), (okS x6 = true ∧ okS x9 = true ∧ okS x10 = true ∧ okS x11 = true ∧ okS x12 = true ∧ okS x13 = true ∧ okS x14 = true ∧ okS x15 = true) ∧ PI nm i P fr ∧
  s = [.fz (.list (ns.map PyData.int)), .fz (.int 0), .ow false (.lst (nm.map PyData.str)), .fz (.int (many : Int)), .fz (.int (room : Int)), .ow false (.lst (P.map Stp.d)), x6, .ow false (.lst (fr.map PyData.str)), .ow false (.lst (sp.map PyData.str)), x9, x10, x11, x12, x13, x14, x15, .un]
theorem sp_pB (ns : List Int) (nm sp fr : List Str) (P : List Stp) (i many room : Nat) (x9 x10 x11 x12 x13 x14 x15 : Slot) (h9 : okS x9 = true) (h10 : okS x10 = true) (h11 : okS x11 = true) (h12 : okS x12 = true) (h13 : okS x13 = true) (h14 : okS x14 = true) (h15 : okS x15 = true)
    (hi : i < 20) (hnm : Nms nm) (hsp : ∀ x ∈ sp, NmOk x) (hsl : 0 < sp.length) (hI : PI nm i P fr) {Q : Out → Prop} (hQ : ∀ s, LI ns nm sp many room i s → Q (.nx s)) :
    wp (m_pB [.fz (.list (ns.map PyData.int)), .fz (.int 0), .ow false (.lst (nm.map PyData.str)), .fz (.int (many : Int)), .fz (.int (room : Int)), .ow false (.lst (P.map Stp.d)), .fz (.int (0 + (i : Int))), .ow false (.lst (fr.map PyData.str)), .ow false (.lst (sp.map PyData.str)), x9, x10, x11, x12, x13, x14, x15, .un]) (kL (LI ns nm sp many room (i + 1)) Q) := by
  unfold m_pB
  walk_at "V"
  refine (sp_cell' ns _ (by omega)).mono fun o eo => ?_
  obtain ⟨c, rfl⟩ := eo
  walk_at "V"
  refine (sp_next _).mono fun o eo => ?_
  obtain ⟨pick, rfl, p0, p1⟩ := eo
  walk_at "V"
  refine (sp_next _).mono fun o eo => ?_
  obtain ⟨q, rfl, q0, q1⟩ := eo
  walk_at "V"
  refine (sp_rule _ _ (by omega) (by omega)).mono fun o eo => ?_
  obtain ⟨r, rfl, hr⟩ := eo
  walk_at "V"
  refine (sp_next _).mono fun o eo => ?_
  obtain ⟨more, rfl, m0, m1⟩ := eo
  walk_at "V"
  refine p_rd ?_
  walk_at "V"
  refine p_ixL (at_later r.w more) ?_
  walk_at "V"
  refine p_rd ?_
  walk_at "V"
  refine ex_w (get_nd r.w more) ?_
  walk_at "V"
  refine p_rd ?_
  walk_at "V"
  obtain ⟨g0, a1, a2⟩ := at_g more m0
  refine p_ixL a1 ?_
  walk_at "V"
  refine ex_w (get_g r.w (g0 : Int)) ?_
  walk_at "V"
  obtain ⟨g, b1, b2, b3, b4⟩ := min_g r.w g0 fr.length a2
  rw [List.length_map, b1]
  have hC : 1 ≤ g → (r.w = "way" → g = 2) → wp (m_pC [.fz (.list (ns.map PyData.int)), .fz (.int 0), .ow false (.lst (nm.map PyData.str)), .fz (.int (many : Int)), .fz (.int (room : Int)), .ow false (.lst (P.map Stp.d)), .fz (.int (0 + (i : Int))), .ow false (.lst (fr.map PyData.str)), .ow false (.lst (sp.map PyData.str)), .fz (.int pick), .fz r.d, .fz (.int more), .fz (.int (ndW r.w more)), .fz (.int (g : Int)), x14, x15, .un]) (kL (LI ns nm sp many room (i + 1)) Q) := by
    intro hg hw
    obtain ⟨nd, c1, c2, c3⟩ := cnt_ok hr more g ⟨hg, b3⟩ hw
    rw [c1]
    refine wp_mono (sp_pC ns nm sp fr P i many room pick more r nd g x14 x15 h14 h15 hi hnm hsp hsl hI hI.fl m0 hr b2 b3 c2 c3) fun o eo => ?_
    obtain ⟨P', fr', y14, y15, k1, k2, k3, rfl⟩ := eo
    exact ⟨P', fr', _, _, _, _, _, _, y14, y15, ⟨rfl, rfl, rfl, rfl, rfl, rfl, k1, k2⟩, k3, rfl⟩
  walk_at "V"
  refine kIf_d (fun h => ?_) (fun h => ?_)
  · refine kIf_tt ?_
    walk_at "V"
    exact hQ _ ⟨P, fr, _, _, _, _, _, _, x14, x15, ⟨rfl, rfl, rfl, rfl, rfl, rfl, h14, h15⟩, hI, rfl⟩
  · walk_at "V"
    refine p_rd ?_
    walk_at "V"
    refine kIf_d (fun hw => ?_) (fun hw => ?_)
    · walk_at "V"
      refine kIf_d (fun h2 => ?_) (fun h2 => ?_)
      · walk_at "V"
        exact hQ _ ⟨P, fr, _, _, _, _, _, _, x14, x15, ⟨rfl, rfl, rfl, rfl, rfl, rfl, h14, h15⟩, hI, rfl⟩
      · walk_at "V"
        exact hC (by omega) fun _ => by have := b4 hw; omega
    · refine kIf_ff ?_
      walk_at "V"
      exact hC (by omega) fun z => absurd z hw
end K12
-- K12l.lean
set_option Elab.async false
set_option linter.all false
set_option maxRecDepth 100000
set_option maxHeartbeats 4000000
/-! K12l: the law's plan, whole. -/
namespace K12
open PySem L2 Sh
local macro_rules | `(tactic| walk_at "p") => `(tactic| first
  | ((with_reducible refine' put_vz ?z); (case z => first | rfl | assumption))
  | ((with_reducible refine' put_nz ?z); (case z => first | rfl | assumption))
  | (refine' put_vs ?m; (case m => walk_at "p"))
  | (refine' put_ns ?m; (case m => walk_at "p")))
local macro_rules | `(tactic| walk_at "u") => `(tactic| first
  | exact U_nil
  | (refine' U_in ?k ?x ?m; (case k => decide); (case x => rfl); (case m => walk_at "u"))
  | (refine' U_out ?k ?m; (case k => decide); (case m => walk_at "u")))
local macro_rules | `(tactic| walk_at "r") => `(tactic| first
  | exact Rs_nil
  | (refine' Rs_in ?k ?m; (case k => decide); (case m => walk_at "r"))
  | (refine' Rs_out ?k ?m; (case k => decide); (case m => walk_at "r")))
local macro_rules | `(tactic| walk_at "v") => `(tactic| first
  | with_reducible refine s_seq ?_
  | with_reducible refine s_asg ?_
  | ((with_reducible refine' v_var ?h ?_); (case h => exact rfl))
  | ((with_reducible refine' v_own ?h ?_); (case h => exact rfl))
  | with_reducible refine v_c ?_
  | with_reducible refine v_bin ?_
  | ((with_reducible refine' wp_cD ?h ?_); (case h => exact rfl))
  | with_reducible refine v_call ?_
  | with_reducible refine a_cons ?_
  | with_reducible refine a_nil ?_
  | ((with_reducible refine' wp_cDs ?h ?_); (case h => exact rfl))
  | with_reducible refine v_fz ?_
  | with_reducible refine fz_v ?_
  | ((with_reducible refine' fz_nw ?h ?_); (case h => exact rfl))
  | ((with_reducible refine' fz_sl ?h ?h2 ?_); (case h => exact rfl); (case h2 => exact rfl))
  | with_reducible refine c_pure ?_
  | with_reducible refine kV1 ?_
  | with_reducible refine kV2 ?_
  | with_reducible refine kV3 ?_
  | with_reducible refine kV4 ?_
  | with_reducible refine kV5 ?_
  | with_reducible refine kV6 ?_
  | with_reducible refine p_addI ?_
  | with_reducible refine p_sub ?_
  | ((with_reducible refine' p_mod ?h ?_); (case h => first | decide | omega))
  | ((with_reducible refine' p_div ?h ?_); (case h => first | decide | omega))
  | ((with_reducible refine' p_mulI ?h ?_); (case h => first | exact cmul_l (by decide) | exact cmul_r (by decide) | exact cmul_l (by omega) | exact cmul_r (by omega)))
  | with_reducible refine p_eqI ?_
  | with_reducible refine p_eqS ?_
  | with_reducible refine p_neI ?_
  | with_reducible refine p_neS ?_
  | with_reducible refine p_lt ?_
  | with_reducible refine p_le ?_
  | with_reducible refine p_gt ?_
  | with_reducible refine p_ge ?_
  | with_reducible refine p_neg ?_
  | with_reducible refine p_pow6 ?_
  | with_reducible refine p_lenL ?_
  | with_reducible refine p_lenT ?_
  | with_reducible refine p_intI ?_
  | with_reducible refine p_intB ?_
  | with_reducible refine p_listL ?_
  | with_reducible refine p_listT ?_
  | with_reducible refine p_tupL ?_
  | with_reducible refine p_tupT ?_
  | with_reducible refine p_max2 ?_
  | with_reducible refine p_min2 ?_
  | with_reducible refine p_eqB ?_
  | with_reducible refine p_neB ?_
  | with_reducible refine p_isN ?_
  | with_reducible refine p_notN ?_
  | ((with_reducible refine' wp_put ?h ?_); (case h => walk_at "p"))
  | with_reducible refine s_if ?_
  | with_reducible refine t_tst ?_
  | with_reducible refine ex_b ?_
  | with_reducible refine ex_i ?_
  | with_reducible refine t_not ?_
  | with_reducible refine t_and ?_
  | with_reducible refine t_or ?_
  | with_reducible refine t_yes ?_
  | with_reducible refine s_ret ?_
  | with_reducible refine kS_nx ?_
  | with_reducible refine kS_rt ?_
  | with_reducible refine kS_bk ?_
  | with_reducible refine kS_ct ?_
  | with_reducible refine s_next ?_
  | with_reducible refine s_some ?_
  | with_reducible refine s_drop ?_
  | with_reducible refine v_tup ?_
  | with_reducible refine v_lst ?_
  | ((with_reducible refine' wp_opsD ?h ?_); (case h => exact rfl))
  | ((with_reducible refine' ck_le ?h ?_); (case h => exact rfl))
  | with_reducible refine v_un ?_
  | with_reducible refine v_and ?_
  | with_reducible refine v_or ?_
  | with_reducible refine v_not ?_
  | with_reducible refine wp_bD ?_
  | with_reducible refine v_ife ?_
  | with_reducible refine v_chain ?_
  | with_reducible refine p_leB ?_
  | with_reducible refine p_ltB ?_
  | with_reducible refine v_getS ?_
  | with_reducible refine v_lcN ?_
  | with_reducible refine v_lcR1N ?_
  | with_reducible refine v_lcR2 ?_
  | with_reducible refine wp_seqL ?_
  | with_reducible refine wp_seqT ?_
  | with_reducible refine wp_selL ?_
  | with_reducible refine wp_selTL1 ?_
  | with_reducible refine wp_selTL2 ?_
  | ((with_reducible refine' wp_unwN ?h ?_); (case h => walk_at "u"))
  | ((with_reducible refine' ex_rs ?h ?_); (case h => walk_at "r"))
  | with_reducible refine kT_y ?_
  | with_reducible refine wp_vD ?_
  | with_reducible refine s_for ?_
  | with_reducible refine s_forE ?_
  | with_reducible refine s_forR1 ?_
  | with_reducible refine s_forR2 ?_
  | with_reducible refine kL_nx ?_
  | with_reducible refine kL_ct ?_
  | with_reducible refine kL_bk ?_
  | with_reducible refine kL_rt ?_
  | with_reducible refine s_unp ?_
  | with_reducible refine t_cons ?_
  | with_reducible refine t_nil ?_
  | ((with_reducible refine' t_tup ?h ?_); (case h => exact rfl))
  | ((with_reducible refine' wp_tName ?h ?_); (case h => walk_at "p"))
  | with_reducible refine v_app ?_
  | ((with_reducible refine' ex_app ?h ?_); (case h => exact rfl))
  | with_reducible refine v_pop ?_
  | with_reducible refine v_ext ?_
  | with_reducible refine s_setI ?_
  | with_reducible refine v_cat ?_
  | with_reducible refine v_rep ?_
  | ((with_reducible refine' wp_cLn ?h ?_); (case h => exact rfl))
  | with_reducible refine v_sl ?_
  | with_reducible refine o_none ?_
  | with_reducible refine o_part ?_
  | with_reducible refine v_allN ?_
  | with_reducible refine wp_selS ?_
  | with_reducible refine v_lc2N ?_
  | with_reducible refine v_lenT ?_
  | with_reducible refine v_m1 ?_
  | with_reducible refine c_isS ?_
  | with_reducible refine c_isL ?_
  | with_reducible refine a_star ?_
  | with_reducible refine p_inSg ?_
  | with_reducible refine p_strS ?_
  | with_reducible refine p_cnt ?_
  | with_reducible refine kB_v (Nat.le_of_ble_eq_true rfl) ?_
  | with_reducible refine kB_n (Nat.le_of_ble_eq_true rfl) ?_
  | with_reducible refine kB_x (Nat.le_of_ble_eq_true rfl) ?_
  | with_reducible refine p_isiStr k_ss ?_
  | with_reducible refine p_isiStr k_st ?_
  | with_reducible refine p_isiStr k_si ?_
  | with_reducible refine p_isiStr k_sb ?_
  | with_reducible refine p_isiTup k_tt ?_
  | with_reducible refine p_isiTup k_ts ?_
  | with_reducible refine p_isiInt k_ii ?_
  | with_reducible refine p_isiInt k_ib ?_
  | with_reducible refine p_isiInt k_it ?_
  | with_reducible refine p_isiInt k_is ?_)
local macro_rules | `(tactic| walk_at "V") => `(tactic| repeat (walk_at "v"))
theorem lay_map {α : Type} {f : α → D} : ∀ {xs : List α}, (∀ x ∈ xs, PyData.canLay0 (f x) = true) → PyData.canLayAll0 (xs.map f) = true
  | [], _ => by simp [PyData.canLayAll0]
  | x :: xs, h => by
    rw [List.map_cons]
    unfold PyData.canLayAll0
    rw [h x List.mem_cons_self, lay_map fun y hy => h y (List.mem_cons_of_mem _ hy)]
    rfl
theorem dep_map {α : Type} {f : α → D} {n : Nat} : ∀ {xs : List α}, (∀ x ∈ xs, PyData.depth (f x) ≤ n) → PyData.depthAll (xs.map f) ≤ n
  | [], _ => by simp [PyData.depthAll]
  | x :: xs, h => by
    have h1 := h x List.mem_cons_self
    have h2 := dep_map (xs := xs) fun y hy => h y (List.mem_cons_of_mem _ hy)
    rw [List.map_cons]
    simp only [PyData.depthAll]
    omega
theorem nm_lay {x : Str} (h : NmOk x) : PyData.canLay0 (.str x) = true := by
  show x.cps.all (· < 0x110000) = true
  rw [← Array.all_toList, List.all_eq_true]
  intro c hc
  have k : ∀ c ∈ letf, decide (c < 0x110000) = true := by decide +kernel
  exact k c (h.all c hc)
theorem rl_lay {r : Rl} (h : r.ok) : PyData.canLay0 r.d = true ∧ PyData.depth r.d ≤ 2 := by
  cases r with
  | fx i => exact ⟨by
      have e : PyData.strOk "fixed" = true := by decide +kernel
      simp [Rl.d, PyData.canLay0, PyData.canLayAll0, e], by simp [Rl.d, PyData.depth, PyData.depthAll]⟩
  | wd w =>
    have h : w ∈ (["sum", "times", "least", "most", "later", "way", "choose"] : List Str) := h
    have e : PyData.strOk w = true := by
      simp only [List.mem_cons, List.not_mem_nil, or_false] at h
      rcases h with q | q | q | q | q | q | q <;> subst q <;> decide +kernel
    exact ⟨by simp [Rl.d, PyData.canLay0, PyData.canLayAll0, e], by simp [Rl.d, PyData.depth, PyData.depthAll]⟩
theorem st_lay {s : Stp} (h : StOk s) : PyData.canLay0 s.d = true ∧ PyData.depth s.d ≤ 3 := by
  have h1 := nm_lay h.n
  have h2 := rl_lay h.r
  have h3 := lay_map (f := PyData.str) (xs := s.ne) fun x hx => nm_lay (h.ne x hx)
  have h4 := lay_map (f := PyData.str) (xs := s.gi) fun x hx => nm_lay (h.gi x hx)
  have h5 := dep_map (f := PyData.str) (n := 0) (xs := s.ne) fun x hx => by simp [PyData.depth]
  have h6 := dep_map (f := PyData.str) (n := 0) (xs := s.gi) fun x hx => by simp [PyData.depth]
  constructor
  · show PyData.canLay0 (.tuple [.str s.n, s.r.d, .tuple (s.ne.map PyData.str), .tuple (s.gi.map PyData.str)]) = true
    simp only [PyData.canLay0, PyData.canLayAll0] at h1 ⊢
    rw [h1, h2.1, h3, h4]
    rfl
  · show PyData.depth (.tuple [.str s.n, s.r.d, .tuple (s.ne.map PyData.str), .tuple (s.gi.map PyData.str)]) ≤ 3
    simp only [PyData.depth, PyData.depthAll]
    have := h2.2
    omega
theorem p_eqNil {P : List Stp} {Q : Op → SL → Prop} {s : SL} (h : ∀ s ∈ P, StOk s) (q : Q (.v (.bool (decide (P = [])))) s) : wp (fEq (.list (P.map Stp.d)) (.list [])) (kR Q s) := by
  have e1 : SeqAt.shaped (.list (P.map Stp.d)) = true := by
    have h1 := lay_map (f := Stp.d) (xs := P) fun x hx => (st_lay (h x hx)).1
    have h2 := dep_map (f := Stp.d) (n := 3) (xs := P) fun x hx => (st_lay (h x hx)).2
    unfold SeqAt.shaped
    simp only [PyData.canLay0, PyData.depth]
    rw [h1]
    simp
    omega
  have e2 : SeqAt.shaped (.list []) = true := by decide +kernel
  have e : fEq (.list (P.map Stp.d)) (.list []) = some (.d (.bool (decide (P = [])))) := by
    show (if (SeqAt.shaped (.list (P.map Stp.d)) && SeqAt.shaped (.list [])) = true then some (Res.d (.bool (PyData.eqv (.list (P.map Stp.d)) (.list [])))) else none) = _
    rw [e1, e2, if_pos (show (true && true) = true from rfl)]
    cases P with
    | nil => simp [PyData.eqv, PyData.eqvAll]
    | cons a r => simp [PyData.eqv, PyData.eqvAll]
  exact ⟨_, e, q⟩
theorem nn_nodup {nm : List Str} (h : Nms nm) {i : Nat} (hi : i ≤ 20) : ((List.range i).map fun k => nm.getD (23 - k) Str.empty).Nodup := by
  rw [List.Nodup, List.pairwise_map]
  refine List.Pairwise.imp_of_mem (fun {a b} ha hb hlt e => ?_) List.pairwise_lt_range
  have ha := List.mem_range.mp ha
  have hb := List.mem_range.mp hb
  have h1 : 23 - a < nm.length := by rw [h.len]; omega
  have h2 : 23 - b < nm.length := by rw [h.len]; omega
  rw [List.getD_eq_getElem?_getD, List.getD_eq_getElem?_getD, List.getElem?_eq_getElem h1, List.getElem?_eq_getElem h2] at e
  have := (List.getElem_inj h.nd).mp e
  omega
theorem sp_pE (ns : List Int) (nm sp : List Str) (many room i : Nat) (hnm : Nms nm) (hi : i ≤ 20) (s : SL) (h : LI ns nm sp many room i s) : wp (m_pE s) (kB [.list (ns.map PyData.int), .int 0] fun o => ∃ P, o = .v (pD P) ∧ PlOk P) := by
  obtain ⟨P, fr, x6, x9, x10, x11, x12, x13, x14, x15, hx, hI, rfl⟩ := h
  unfold m_pE
  walk_at "V"
  refine p_eqNil hI.st ?_
  walk_at "V"
  have h0 : 0 < nm.length := by rw [hnm.len]; decide
  have h1 : 1 < nm.length := by rw [hnm.len]; decide
  refine kIf_d (fun hP => ?_) (fun hP => ?_)
  · subst hP
    walk_at "V"
    refine p_ixL (d := .str nm[0]) (at_nat (k := 0) (by rw [List.getElem?_map, List.getElem?_eq_getElem h0] <;> rfl)) ?_
    walk_at "V"
    refine p_ixL (d := .str nm[0]) (at_nat (k := 0) (by rw [List.getElem?_map, List.getElem?_eq_getElem h0] <;> rfl)) ?_
    walk_at "V"
    refine p_ixL (d := .str nm[1]) (at_nat (k := 1) (by rw [List.getElem?_map, List.getElem?_eq_getElem h1] <;> rfl)) ?_
    walk_at "V"
    refine ⟨by decide, ?_⟩
    walk_at "V"
    have o0 := hnm.ok _ (List.getElem_mem h0)
    have o1 := hnm.ok _ (List.getElem_mem h1)
    refine ⟨[⟨nm[0], .wd "sum", [nm[0]], [nm[1]]⟩], rfl, ⟨Nat.le_refl _, Nat.le_of_ble_eq_true rfl, fun s hs => ?_, by simp, by simp⟩⟩
    rw [List.mem_singleton.mp hs]
    exact ⟨o0, (by decide : ("sum" : Str) ∈ (["sum", "times", "least", "most", "later", "way", "choose"] : List Str)), ⟨1, 4, 1, 3, rfl, Nat.le_of_ble_eq_true rfl, Nat.le_of_ble_eq_true rfl, Nat.le_of_ble_eq_true rfl, Nat.le_of_ble_eq_true rfl⟩, fun x hx => by rw [List.mem_singleton.mp hx]; exact o0, fun x hx => by rw [List.mem_singleton.mp hx]; exact o1⟩
  · walk_at "V"
    have hl := hI.len
    refine ⟨P, rfl, ⟨?_, by omega, hI.st, ?_, ?_⟩⟩
    · cases P with
      | nil => exact absurd rfl hP
      | cons a r => simp
    · rw [hI.nn]
      exact nn_nodup hnm hi
    · exact (List.nodup_append.mp hI.gg).1
theorem sp_pT (ns : List Int) (nm : List Str) (many : Nat) (hm : 1 ≤ many ∧ many ≤ 20) (hnm : Nms nm) : wp (m_pT [.fz (.list (ns.map PyData.int)), .fz (.int 0), .ow false (.lst (nm.map PyData.str)), .fz (.int (many : Int)), .un, .un, .un, .un, .un, .un, .un, .un, .un, .un, .un, .un, .un]) (kB [.list (ns.map PyData.int), .int 0] fun o => ∃ P, o = .v (pD P) ∧ PlOk P) := by
  unfold m_pT
  walk_at "V"
  refine (sp_cell' ns _ (by omega)).mono fun o eo => ?_
  obtain ⟨c, rfl⟩ := eo
  walk_at "V"
  obtain ⟨room, r1, r2⟩ : ∃ room : Nat, atI [PyData.int 2, .int 4, .int 6, .int 9] (c % 4) = some (.int (room : Int)) ∧ 2 ≤ room ∧ room ≤ 9 := by
    have h5 : c % 4 = 0 ∨ c % 4 = 1 ∨ c % 4 = 2 ∨ c % 4 = 3 := by omega
    rcases h5 with e | e | e | e <;> rw [e]
    · exact ⟨2, rfl, by decide, by decide⟩
    · exact ⟨4, rfl, by decide, by decide⟩
    · exact ⟨6, rfl, by decide, by decide⟩
    · exact ⟨9, rfl, by decide, by decide⟩
  refine p_ixL r1 ?_
  walk_at "V"
  obtain ⟨t, t1, t2⟩ : ∃ t : Nat, (if (room : Int) + (many : Int) < 24 then (room : Int) + (many : Int) else 24) = (t : Int) ∧ 3 ≤ t ∧ t ≤ 24 := by
    by_cases h : (room : Int) + (many : Int) < 24
    · rw [if_pos h]
      exact ⟨room + many, by omega, by omega, by omega⟩
    · rw [if_neg h]
      exact ⟨24, rfl, by decide, by decide⟩
  rw [t1]
  refine ⟨⟨by omega, by omega⟩, ?_⟩
  rw [Int.toNat_natCast]
  walk_at "V"
  refine w_lcR (fun j zs s => j ≤ t ∧ zs = (nm.take j).map PyData.str ∧ s = [.fz (.list (ns.map PyData.int)), .fz (.int 0), .ow false (.lst (nm.map PyData.str)), .fz (.int (many : Int)), .fz (.int (room : Int)), .ow false (.lst []), .un, .un, .un, .un, .un, .un, .un, .un, .un, .un, .un]) ⟨Nat.zero_le _, by simp, rfl⟩ (fun j zs s hj ⟨_, e1, e2⟩ => ?_) (fun zs s ⟨_, e1, e2⟩ => ?_)
  · subst e1 e2
    have hjl : j < nm.length := by rw [hnm.len]; omega
    walk_at "V"
    rw [Int.zero_add]
    refine p_ixL (d := .str nm[j]) (at_nat (by rw [List.getElem?_map, List.getElem?_eq_getElem hjl] <;> rfl)) ?_
    walk_at "V"
    refine ⟨by omega, ?_, rfl⟩
    rw [List.take_add_one, List.getElem?_eq_getElem hjl, List.map_append]
    rfl
  subst e1 e2
  have htl : (nm.take t).length = t := by rw [List.length_take, hnm.len]; omega
  refine ⟨by rw [List.length_map]; omega, ?_⟩
  walk_at "V"
  refine ⟨⟨by omega, by omega⟩, ?_⟩
  rw [Int.toNat_natCast]
  have hok : ∀ x ∈ nm.take t, NmOk x := fun x hx => hnm.ok x (List.mem_of_mem_take hx)
  refine w_loopR (LI ns nm (nm.take t) many room) ⟨[], nm.take t, _, _, _, _, _, _, _, _, ⟨rfl, rfl, rfl, rfl, rfl, rfl, rfl, rfl⟩, ⟨rfl, (fun _ z => nomatch z), rfl, ?_, by omega, hok⟩, rfl⟩ (fun i s hi hL => ?_) (fun s hL => ?_)
  · exact (List.Sublist.nodup (List.take_sublist t nm) hnm.nd)
  · obtain ⟨P, fr, x6, x9, x10, x11, x12, x13, x14, x15, ⟨k6, k9, k10, k11, k12, k13, k14, k15⟩, hI, rfl⟩ := hL
    walk_at "V"
    exact sp_pB ns nm (nm.take t) fr P i many room x9 x10 x11 x12 x13 x14 x15 k9 k10 k11 k12 k13 k14 k15 (by omega) hnm hok (by omega) hI fun s hs => by
      walk_at "V"
      exact sp_pE ns nm _ many room i hnm (by omega) s hs
  · walk_at "V"
    exact sp_pE ns nm _ many room many hnm (by omega) s hL
end K12
-- K12m.lean
set_option Elab.async false
set_option linter.all false
set_option maxRecDepth 100000
set_option maxHeartbeats 4000000
/-! K12m: the law. -/
namespace K12
open PySem L2 Sh
local macro_rules | `(tactic| walk_at "p") => `(tactic| first
  | ((with_reducible refine' put_vz ?z); (case z => first | rfl | assumption))
  | ((with_reducible refine' put_nz ?z); (case z => first | rfl | assumption))
  | (refine' put_vs ?m; (case m => walk_at "p"))
  | (refine' put_ns ?m; (case m => walk_at "p")))
local macro_rules | `(tactic| walk_at "u") => `(tactic| first
  | exact U_nil
  | (refine' U_in ?k ?x ?m; (case k => decide); (case x => rfl); (case m => walk_at "u"))
  | (refine' U_out ?k ?m; (case k => decide); (case m => walk_at "u")))
local macro_rules | `(tactic| walk_at "r") => `(tactic| first
  | exact Rs_nil
  | (refine' Rs_in ?k ?m; (case k => decide); (case m => walk_at "r"))
  | (refine' Rs_out ?k ?m; (case k => decide); (case m => walk_at "r")))
local macro_rules | `(tactic| walk_at "v") => `(tactic| first
  | with_reducible refine s_seq ?_
  | with_reducible refine s_asg ?_
  | ((with_reducible refine' v_var ?h ?_); (case h => exact rfl))
  | ((with_reducible refine' v_own ?h ?_); (case h => exact rfl))
  | with_reducible refine v_c ?_
  | with_reducible refine v_bin ?_
  | ((with_reducible refine' wp_cD ?h ?_); (case h => exact rfl))
  | with_reducible refine v_call ?_
  | with_reducible refine a_cons ?_
  | with_reducible refine a_nil ?_
  | ((with_reducible refine' wp_cDs ?h ?_); (case h => exact rfl))
  | with_reducible refine v_fz ?_
  | with_reducible refine fz_v ?_
  | ((with_reducible refine' fz_nw ?h ?_); (case h => exact rfl))
  | ((with_reducible refine' fz_sl ?h ?h2 ?_); (case h => exact rfl); (case h2 => exact rfl))
  | with_reducible refine c_pure ?_
  | with_reducible refine kV1 ?_
  | with_reducible refine kV2 ?_
  | with_reducible refine kV3 ?_
  | with_reducible refine kV4 ?_
  | with_reducible refine kV5 ?_
  | with_reducible refine kV6 ?_
  | with_reducible refine p_addI ?_
  | with_reducible refine p_sub ?_
  | ((with_reducible refine' p_mod ?h ?_); (case h => first | decide | omega))
  | ((with_reducible refine' p_div ?h ?_); (case h => first | decide | omega))
  | ((with_reducible refine' p_mulI ?h ?_); (case h => first | exact cmul_l (by decide) | exact cmul_r (by decide) | exact cmul_l (by omega) | exact cmul_r (by omega)))
  | with_reducible refine p_eqI ?_
  | with_reducible refine p_eqS ?_
  | with_reducible refine p_neI ?_
  | with_reducible refine p_neS ?_
  | with_reducible refine p_lt ?_
  | with_reducible refine p_le ?_
  | with_reducible refine p_gt ?_
  | with_reducible refine p_ge ?_
  | with_reducible refine p_neg ?_
  | with_reducible refine p_pow6 ?_
  | with_reducible refine p_lenL ?_
  | with_reducible refine p_lenT ?_
  | with_reducible refine p_intI ?_
  | with_reducible refine p_intB ?_
  | with_reducible refine p_listL ?_
  | with_reducible refine p_listT ?_
  | with_reducible refine p_tupL ?_
  | with_reducible refine p_tupT ?_
  | with_reducible refine p_max2 ?_
  | with_reducible refine p_min2 ?_
  | with_reducible refine p_eqB ?_
  | with_reducible refine p_neB ?_
  | with_reducible refine p_isN ?_
  | with_reducible refine p_notN ?_
  | ((with_reducible refine' wp_put ?h ?_); (case h => walk_at "p"))
  | with_reducible refine s_if ?_
  | with_reducible refine t_tst ?_
  | with_reducible refine ex_b ?_
  | with_reducible refine ex_i ?_
  | with_reducible refine t_not ?_
  | with_reducible refine t_and ?_
  | with_reducible refine t_or ?_
  | with_reducible refine t_yes ?_
  | with_reducible refine s_ret ?_
  | with_reducible refine kS_nx ?_
  | with_reducible refine kS_rt ?_
  | with_reducible refine kS_bk ?_
  | with_reducible refine kS_ct ?_
  | with_reducible refine s_next ?_
  | with_reducible refine s_some ?_
  | with_reducible refine s_drop ?_
  | with_reducible refine v_tup ?_
  | with_reducible refine v_lst ?_
  | ((with_reducible refine' wp_opsD ?h ?_); (case h => exact rfl))
  | ((with_reducible refine' ck_le ?h ?_); (case h => exact rfl))
  | with_reducible refine v_un ?_
  | with_reducible refine v_and ?_
  | with_reducible refine v_or ?_
  | with_reducible refine v_not ?_
  | with_reducible refine wp_bD ?_
  | with_reducible refine v_ife ?_
  | with_reducible refine v_chain ?_
  | with_reducible refine p_leB ?_
  | with_reducible refine p_ltB ?_
  | with_reducible refine v_getS ?_
  | with_reducible refine v_lcN ?_
  | with_reducible refine v_lcR1N ?_
  | with_reducible refine v_lcR2 ?_
  | with_reducible refine wp_seqL ?_
  | with_reducible refine wp_seqT ?_
  | with_reducible refine wp_selL ?_
  | with_reducible refine wp_selTL1 ?_
  | with_reducible refine wp_selTL2 ?_
  | ((with_reducible refine' wp_unwN ?h ?_); (case h => walk_at "u"))
  | ((with_reducible refine' ex_rs ?h ?_); (case h => walk_at "r"))
  | with_reducible refine kT_y ?_
  | with_reducible refine wp_vD ?_
  | with_reducible refine s_for ?_
  | with_reducible refine s_forE ?_
  | with_reducible refine s_forR1 ?_
  | with_reducible refine s_forR2 ?_
  | with_reducible refine kL_nx ?_
  | with_reducible refine kL_ct ?_
  | with_reducible refine kL_bk ?_
  | with_reducible refine kL_rt ?_
  | with_reducible refine s_unp ?_
  | with_reducible refine t_cons ?_
  | with_reducible refine t_nil ?_
  | ((with_reducible refine' t_tup ?h ?_); (case h => exact rfl))
  | ((with_reducible refine' wp_tName ?h ?_); (case h => walk_at "p"))
  | with_reducible refine v_app ?_
  | ((with_reducible refine' ex_app ?h ?_); (case h => exact rfl))
  | with_reducible refine v_pop ?_
  | with_reducible refine v_ext ?_
  | with_reducible refine s_setI ?_
  | with_reducible refine v_cat ?_
  | with_reducible refine v_rep ?_
  | ((with_reducible refine' wp_cLn ?h ?_); (case h => exact rfl))
  | with_reducible refine v_sl ?_
  | with_reducible refine o_none ?_
  | with_reducible refine o_part ?_
  | with_reducible refine v_allN ?_
  | with_reducible refine wp_selS ?_
  | with_reducible refine v_lc2N ?_
  | with_reducible refine v_lenT ?_
  | with_reducible refine v_m1 ?_
  | with_reducible refine c_isS ?_
  | with_reducible refine c_isL ?_
  | with_reducible refine a_star ?_
  | with_reducible refine p_inSg ?_
  | with_reducible refine p_strS ?_
  | with_reducible refine p_cnt ?_
  | with_reducible refine kB_v (Nat.le_of_ble_eq_true rfl) ?_
  | with_reducible refine kB_n (Nat.le_of_ble_eq_true rfl) ?_
  | with_reducible refine kB_x (Nat.le_of_ble_eq_true rfl) ?_
  | with_reducible refine p_isiStr k_ss ?_
  | with_reducible refine p_isiStr k_st ?_
  | with_reducible refine p_isiStr k_si ?_
  | with_reducible refine p_isiStr k_sb ?_
  | with_reducible refine p_isiTup k_tt ?_
  | with_reducible refine p_isiTup k_ts ?_
  | with_reducible refine p_isiInt k_ii ?_
  | with_reducible refine p_isiInt k_ib ?_
  | with_reducible refine p_isiInt k_it ?_
  | with_reducible refine p_isiInt k_is ?_)
local macro_rules | `(tactic| walk_at "V") => `(tactic| repeat (walk_at "v"))
theorem sp_plan (ns : List Int) : Ret f_law_plan [.list (ns.map PyData.int), .int 0] fun o => ∃ P, o = .v (pD P) ∧ PlOk P := by
  refine ret_body ?_
  show wp (m_law_plan [.fz (.list (ns.map PyData.int)), .fz (.int 0), .un, .un, .un, .un, .un, .un, .un, .un, .un, .un, .un, .un, .un, .un, .un]) _
  rw [m_plan_eq]
  walk_at "V"
  refine (sp_cell' ns 0 (by omega)).mono fun o eo => ?_
  obtain ⟨c, rfl⟩ := eo
  walk_at "V"
  refine (sp_names c).mono fun o eo => ?_
  obtain ⟨nm, rfl, hnm⟩ := eo
  walk_at "V"
  refine (sp_cell' ns _ (by omega)).mono fun o eo => ?_
  obtain ⟨d, rfl⟩ := eo
  walk_at "V"
  obtain ⟨many, r1, r2⟩ : ∃ many : Nat, atI [PyData.int 1, .int 2, .int 3, .int 4, .int 6, .int 8] (d % 6) = some (.int (many : Int)) ∧ 1 ≤ many ∧ many ≤ 20 := by
    have h5 : d % 6 = 0 ∨ d % 6 = 1 ∨ d % 6 = 2 ∨ d % 6 = 3 ∨ d % 6 = 4 ∨ d % 6 = 5 := by omega
    rcases h5 with e | e | e | e | e | e <;> rw [e]
    · exact ⟨1, rfl, by decide, by decide⟩
    · exact ⟨2, rfl, by decide, by decide⟩
    · exact ⟨3, rfl, by decide, by decide⟩
    · exact ⟨4, rfl, by decide, by decide⟩
    · exact ⟨6, rfl, by decide, by decide⟩
    · exact ⟨8, rfl, by decide, by decide⟩
  refine p_ixL r1 ?_
  walk_at "V"
  refine (sp_cell' ns _ (by omega)).mono fun o eo => ?_
  obtain ⟨d2, rfl⟩ := eo
  walk_at "V"
  refine kIf_d (fun h => ?_) (fun h => ?_)
  · walk_at "V"
    refine (sp_cell' ns _ (by omega)).mono fun o eo => ?_
    obtain ⟨d3, rfl⟩ := eo
    walk_at "V"
    obtain ⟨k, hk⟩ : ∃ k : Nat, 9 + d3 / 60 % 12 = (k : Int) := ⟨(9 + d3 / 60 % 12).toNat, by omega⟩
    rw [hk]
    exact sp_pT ns nm k (by omega) hnm
  · walk_at "V"
    exact sp_pT ns nm many r2 hnm
def P7 : List Stp := [⟨"one", .fx 7, ["a"], ["b", "d"]⟩]
def PA : List Stp := [⟨"add", .wd "sum", ["a", "b"], ["c"]⟩]
theorem ok7 : PlOk P7 := ⟨by decide, by decide, fun s hs => by
  rw [List.mem_singleton.mp hs]
  refine ⟨nm_of (by decide +kernel), (by decide : (7 : Nat) < 1000000), ⟨1, 4, 1, 3, rfl, by decide, by decide, by decide, by decide⟩, fun x hx => ?_, fun x hx => ?_⟩
  · have hx : x ∈ (["a"] : List Str) := hx
    rw [List.mem_singleton.mp hx]
    exact nm_of (by decide +kernel)
  · have hx : x ∈ (["b", "d"] : List Str) := hx
    simp only [List.mem_cons, List.not_mem_nil, or_false] at hx
    rcases hx with q | q <;> subst q <;> exact nm_of (by decide +kernel), by decide +kernel, by decide +kernel⟩
theorem okA : ∀ s ∈ PA, StOk s := fun s hs => by
  rw [List.mem_singleton.mp hs]
  refine ⟨nm_of (by decide +kernel), (by decide : ("sum" : Str) ∈ (["sum", "times", "least", "most", "later", "way", "choose"] : List Str)), ⟨1, 4, 1, 3, rfl, by decide, by decide, by decide, by decide⟩, fun x hx => ?_, fun x hx => ?_⟩
  · have hx : x ∈ (["a", "b"] : List Str) := hx
    simp only [List.mem_cons, List.not_mem_nil, or_false] at hx
    rcases hx with q | q <;> subst q <;> exact nm_of (by decide +kernel)
  · have hx : x ∈ (["c"] : List Str) := hx
    rw [List.mem_singleton.mp hx]
    exact nm_of (by decide +kernel)
theorem txt7 : txt P7 = "one fixed 7 a -> b d\n" := by decide +kernel
theorem txtA : txt PA = "add sum a b -> c\n" := by decide +kernel
theorem sp_law (ns : List Int) : Ret f_law [.list (ns.map PyData.int)] fun o => o = .v (.bool true) := by
  refine ret_body ?_
  show wp (m_law [.fz (.list (ns.map PyData.int)), .un, .un, .un, .un, .un]) _
  unfold m_law
  walk_at "V"
  refine (sp_plan ns).mono fun o eo => ?_
  obtain ⟨P, rfl, hP⟩ := eo
  walk_at "V"
  refine (sp_text P hP.st hP.hi).mono fun o eo => ?_
  subst eo
  walk_at "V"
  refine ⟨⟨by omega, by omega⟩, ?_⟩
  refine w_loopR (fun i s => ∃ x3 x4 x5, okS x3 = true ∧ okS x4 = true ∧ okS x5 = true ∧ s = [.fz (.list (ns.map PyData.int)), .fz (pD P), .fz (.str (txt P)), x3, x4, x5]) ⟨_, _, _, rfl, rfl, rfl, rfl⟩ (fun i s hi ⟨x3, x4, x5, h3, h4, h5, e⟩ => ?_) (fun s ⟨x3, x4, x5, h3, h4, h5, e⟩ => ?_)
  · subst e
    walk_at "V"
    refine (sp_shown P hP.st hP.hi).mono fun o eo => ?_
    subst eo
    walk_at "V"
    refine kIf_ff ?_
    walk_at "V"
    refine kIf_f (by rw [decide_eq_true rfl]; rfl) ?_
    walk_at "V"
    refine (sp_read P hP).mono fun o eo => ?_
    subst eo
    walk_at "V"
    refine (sp_same _ (good_plan P hP.st hP.hi)).mono fun o eo => ?_
    subst eo
    walk_at "V"
    refine kIf_ff ?_
    walk_at "V"
    rw [← txt7]
    refine (sp_read P7 ok7).mono fun o eo => ?_
    subst eo
    walk_at "V"
    refine (sp_same (pD P7) (good_plan P7 ok7.st ok7.hi)).mono fun o eo => ?_
    subst eo
    walk_at "V"
    refine kIf_ff ?_
    walk_at "V"
    refine (sp_shown PA okA (by decide)).mono fun o eo => ?_
    subst eo
    rw [txtA]
    walk_at "V"
    refine kIf_f (by rw [decide_eq_true rfl]; rfl) ?_
    walk_at "V"
    exact ⟨_, _, _, rfl, rfl, rfl, rfl⟩
  · subst e
    walk_at "V"
    rfl
theorem law_all : ∀ ns : List Int, ns.length ≤ 63 → ∃ ss', f_law [.fz (.list (ns.map PyData.int))] = some (.v (.bool true), ss') := fun ns _ => by
  obtain ⟨o, e, _, rfl⟩ := sp_law ns
  exact ⟨_, e⟩
end K12
-- K12n.lean
set_option Elab.async false
set_option linter.all false
set_option maxRecDepth 100000
set_option maxHeartbeats 4000000
namespace K12
open PySem PySem.Spec PyProof.Rows L2 Sh
/-- the table of a code object -/
def tOf (K : PySem.W.Frag) (c : Addr) : Addr := match K.lookup c with
  | some ⟨_, _, .fields vs, _⟩ => (match (vs[11]? : Option Value) with | some (.ref P) => P | _ => 0)
  | _ => 0
theorem codeHd_get {K : PySem.W.Frag} {c P : Addr} (e : PySem.W.codeHdIn K c P = true) : ∃ (o : Value) (dd : Option Addr) (vs : Array Value) (sl : Array (Option Value)), K.lookup c = some ⟨o, dd, .fields vs, sl⟩ ∧ vs[11]? = some (.ref P) := by
  unfold PySem.W.codeHdIn at e
  split at e
  · rename_i vs sl hk
    simp only [Bool.and_eq_true] at e
    obtain ⟨⟨⟨⟨⟨e1, _⟩, _⟩, _⟩, _⟩, _⟩ := e
    split at e1
    · rename_i P' h11
      rw [beq_iff_eq.mp e1] at h11
      exact ⟨_, _, vs, _, hk, h11⟩
    · cases e1
  · cases e
def codeChk (vs : Array Value) (c P : Addr) : Bool := (match (vs[11]? : Option Value) with | some (.ref P') => P' == P | _ => false) &&
      (match vs.getD 18 .none with | .str _ _ => true | _ => false) && (match vs.getD 7 .none with | .int _ _ => true | _ => false) &&
      (match vs.getD 9 .none with | .bool _ => true | _ => false) && (match vs.getD 10 .none with | .int _ _ => true | _ => false) && c != P
theorem hd_of {K : PySem.W.Frag} {c P : Addr} {dd : Option Addr} {vs : Array Value} {sl : Array (Option Value)} (l : K.lookup c = some ⟨.type "code", dd, .fields vs, sl⟩) (e : codeChk vs c P = true) : PySem.W.codeHdIn K c P = true := by
  unfold PySem.W.codeHdIn
  rw [l]
  exact e
theorem tab_of {K : PySem.W.Frag} {f c P : Addr} {h : Heap} {o : Obj} {fd : FuncData} (hO : LamX.OwnTab K f h) (l : K.lookup f = some o) (hd : o.data = .func fd) (hc : fd.code = .ref c) (e : PySem.W.codeHdIn K c P = true) : h.get? P = some { cls := .none, data := .fields #[] } := by
  obtain ⟨o2, dd, vs, sl, h1, h2⟩ := codeHd_get e
  exact hO c P o fd o2 dd vs sl l hd hc h1 h2
abbrev cfgT (K : PySem.W.Frag) (T : List Addr) : Cfg K := ⟨0, fun _ => 0, T⟩
section
variable {P : Program} {w : World} {K : PySem.W.Frag} {mg : Str → Option Value} {base : Heap} {c : Cfg K}
theorem fn_at {fa : Addr} {fd : FuncData} {ps : List Str} {k n : Nat} {x : Str} {f : SemF} (h1 : FnOk P w K mg base CX0 k fa fd ps (spF c n f)) (hm : mg x = some (.ref fa)) (hk : PySem.W.keepIn K (.ref fa) = true) (hb : Binds K fd ps []) : Fn P w K mg base c k x n f :=
  ⟨⟨fa, fd, ps, h1, hm, hk, hb⟩⟩
theorem tup4 {t : Addr} {td : Option Addr} {n : Nat} {sl : Array (Option Value)} {a b e f : Int} {k1 k2 k3 k4 : Tok} (h : K.lookup t = some ⟨.type "tuple", td, .seq #[.int a k1, .int b k2, .int e k3, .int f k4] n, sl⟩) (F : Hp) : Dp K F (.ref t) (.tuple [.int a, .int b, .int e, .int f]) :=
  .tup (xs := [.int a, .int b, .int e, .int f]) (.inr ⟨_, _, n, h, rfl, rfl, (by decide : 4 ≤ sizeLine), .cons ⟨_, rfl⟩ (.cons ⟨_, rfl⟩ (.cons ⟨_, rfl⟩ (.cons ⟨_, rfl⟩ .nil)))⟩) (.cons (.int a) (.cons (.int b) (.cons (.int e) (.cons (.int f) .nil))))
end
theorem all_mk {l : PySem.W.OpenLaw} {w : World} {K : PySem.W.Frag} {h : Heap} {mg : Str → Option Value} {fa CN : Addr} (X : K.In h) (G : h.Ns mainGlobals mg) (hfa : mg "law" = some (.ref fa)) {we : Array DictEntry} {wn : Nat} {rc : Str → Bool} (own : ∀ (x : Str) (f : Addr), rc x = true → mg x = some (.ref f) → LamX.OwnTab K f h)
    {f0 f1 f2 f3 f4 f5 f6 f7 f8 f9 f10 f11 f12 f13 f14 f15 f16 f17 f18 f19 f20 f21 f22 f23 f24 cc2 P2 cc5 P5 cc8 P8 cc11 P11 : Addr} {yd2 yd5 yd8 yd11 : Option Addr} {yv2 yv5 yv8 yv11 : Array Value} {ys2 ys5 ys8 ys11 : Array (Option Value)} {od0 an0 od1 an1 od2 an2 od3 an3 od4 an4 od5 an5 od6 an6 od7 an7 od8 an8 od9 an9 od10 an10 od11 an11 od12 an12 od13 an13 od14 an14 od15 an15 od16 an16 od17 an17 od18 an18 od19 an19 od20 an20 od21 an21 od22 an22 od23 an23 od24 an24 : Option Addr} {sl0 sl1 sl2 sl3 sl4 sl5 sl6 sl7 sl8 sl9 sl10 sl11 sl12 sl13 sl14 sl15 sl16 sl17 sl18 sl19 sl20 sl21 sl22 sl23 sl24 : Array (Option Value)} {oc0 kV0 dc0 pm0 ct0 oc1 kV1 dc1 pm1 ct1 oc2 kV2 dc2 pm2 ct2 oc3 kV3 dc3 pm3 ct3 oc4 kV4 dc4 pm4 ct4 oc5 kV5 dc5 pm5 ct5 oc6 kV6 dc6 pm6 ct6 oc7 kV7 dc7 pm7 ct7 oc8 kV8 dc8 pm8 ct8 oc9 kV9 dc9 pm9 ct9 oc10 kV10 dc10 pm10 ct10 oc11 kV11 dc11 pm11 ct11 oc12 kV12 dc12 pm12 ct12 oc13 kV13 dc13 pm13 ct13 oc14 kV14 dc14 pm14 ct14 oc15 kV15 dc15 pm15 ct15 oc16 kV16 dc16 pm16 ct16 oc17 kV17 dc17 pm17 ct17 oc18 kV18 dc18 pm18 ct18 oc19 kV19 dc19 pm19 ct19 oc20 kV20 dc20 pm20 ct20 oc21 kV21 dc21 pm21 ct21 oc22 kV22 dc22 pm22 ct22 oc23 kV23 dc23 pm23 ct23 oc24 kV24 dc24 pm24 ct24 cd0 cd1 cd3 cd4 cd6 cd7 cd9 cd10 cd12 cd13 cd14 cd15 cd16 cd17 cd18 cd19 cd20 cd21 cd22 cd23 cd24 : Value}
    {t0 t1 t2 t3 t4 t5 t6 t7 : Addr} {td0 td1 td2 td3 td4 td5 td6 td7 : Option Addr} {tn0 tn1 tn2 tn3 tn4 tn5 tn6 tn7 : Nat} {ts0 ts1 ts2 ts3 ts4 ts5 ts6 ts7 : Array (Option Value)} {q0_0 q0_1 q0_2 q0_3 q1_0 q1_1 q1_2 q1_3 q2_0 q2_1 q2_2 q2_3 q3_0 q3_1 q3_2 q3_3 q4_0 q4_1 q4_2 q4_3 q5_0 q5_1 q5_2 q5_3 q6_0 q6_1 q6_2 q6_3 q7_0 q7_1 q7_2 q7_3 : Tok} {k_ARROW k_FIGURES k_LETTERS k_LETTERS_AND_FIGURES k_MILLION k_MOST_FIGURES k_MOST_SIGNS k_MOST_STEPS : Tok}
    (a0 : PySem.W.nsIn K mainGlobals "is_whole" = some (some (.ref f0))) (l0 : K.lookup f0 = some ⟨oc0, od0, .func (PySem.W.fnOf "is_whole" "is_whole" (defArgs s_is_whole) (defBody s_is_whole) (defScope s_is_whole) .none kV0 dc0 pm0 an0 cd0 ct0), sl0⟩) (c0 : PySem.W.codeIn K cd0 "is_whole" = true) (k0 : PySem.W.keepIn K (.ref f0) = true)
    (a1 : PySem.W.nsIn K mainGlobals "is_value" = some (some (.ref f1))) (l1 : K.lookup f1 = some ⟨oc1, od1, .func (PySem.W.fnOf "is_value" "is_value" (defArgs s_is_value) (defBody s_is_value) (defScope s_is_value) .none kV1 dc1 pm1 an1 cd1 ct1), sl1⟩) (c1 : PySem.W.codeIn K cd1 "is_value" = true) (k1 : PySem.W.keepIn K (.ref f1) = true)
    (a2 : PySem.W.nsIn K mainGlobals "is_name" = some (some (.ref f2))) (l2 : K.lookup f2 = some ⟨oc2, od2, .func (PySem.W.fnOf "is_name" "is_name" (defArgs s_is_name) (defBody s_is_name) (defScope s_is_name) .none kV2 dc2 pm2 an2 (.ref cc2) ct2), sl2⟩) (c2 : PySem.W.codeIn K (.ref cc2) "is_name" = true) (k2 : PySem.W.keepIn K (.ref f2) = true)
    (a3 : PySem.W.nsIn K mainGlobals "is_rule" = some (some (.ref f3))) (l3 : K.lookup f3 = some ⟨oc3, od3, .func (PySem.W.fnOf "is_rule" "is_rule" (defArgs s_is_rule) (defBody s_is_rule) (defScope s_is_rule) .none kV3 dc3 pm3 an3 cd3 ct3), sl3⟩) (c3 : PySem.W.codeIn K cd3 "is_rule" = true) (k3 : PySem.W.keepIn K (.ref f3) = true)
    (a4 : PySem.W.nsIn K mainGlobals "counts_fit" = some (some (.ref f4))) (l4 : K.lookup f4 = some ⟨oc4, od4, .func (PySem.W.fnOf "counts_fit" "counts_fit" (defArgs s_counts_fit) (defBody s_counts_fit) (defScope s_counts_fit) .none kV4 dc4 pm4 an4 cd4 ct4), sl4⟩) (c4 : PySem.W.codeIn K cd4 "counts_fit" = true) (k4 : PySem.W.keepIn K (.ref f4) = true)
    (a5 : PySem.W.nsIn K mainGlobals "is_step" = some (some (.ref f5))) (l5 : K.lookup f5 = some ⟨oc5, od5, .func (PySem.W.fnOf "is_step" "is_step" (defArgs s_is_step) (defBody s_is_step) (defScope s_is_step) .none kV5 dc5 pm5 an5 (.ref cc5) ct5), sl5⟩) (c5 : PySem.W.codeIn K (.ref cc5) "is_step" = true) (k5 : PySem.W.keepIn K (.ref f5) = true)
    (a6 : PySem.W.nsIn K mainGlobals "given_places" = some (some (.ref f6))) (l6 : K.lookup f6 = some ⟨oc6, od6, .func (PySem.W.fnOf "given_places" "given_places" (defArgs s_given_places) (defBody s_given_places) (defScope s_given_places) .none kV6 dc6 pm6 an6 cd6 ct6), sl6⟩) (c6 : PySem.W.codeIn K cd6 "given_places" = true) (k6 : PySem.W.keepIn K (.ref f6) = true)
    (a7 : PySem.W.nsIn K mainGlobals "all_unlike" = some (some (.ref f7))) (l7 : K.lookup f7 = some ⟨oc7, od7, .func (PySem.W.fnOf "all_unlike" "all_unlike" (defArgs s_all_unlike) (defBody s_all_unlike) (defScope s_all_unlike) .none kV7 dc7 pm7 an7 cd7 ct7), sl7⟩) (c7 : PySem.W.codeIn K cd7 "all_unlike" = true) (k7 : PySem.W.keepIn K (.ref f7) = true)
    (a8 : PySem.W.nsIn K mainGlobals "is_plan" = some (some (.ref f8))) (l8 : K.lookup f8 = some ⟨oc8, od8, .func (PySem.W.fnOf "is_plan" "is_plan" (defArgs s_is_plan) (defBody s_is_plan) (defScope s_is_plan) .none kV8 dc8 pm8 an8 (.ref cc8) ct8), sl8⟩) (c8 : PySem.W.codeIn K (.ref cc8) "is_plan" = true) (k8 : PySem.W.keepIn K (.ref f8) = true)
    (a9 : PySem.W.nsIn K mainGlobals "shown_row" = some (some (.ref f9))) (l9 : K.lookup f9 = some ⟨oc9, od9, .func (PySem.W.fnOf "shown_row" "shown_row" (defArgs s_shown_row) (defBody s_shown_row) (defScope s_shown_row) .none kV9 dc9 pm9 an9 cd9 ct9), sl9⟩) (c9 : PySem.W.codeIn K cd9 "shown_row" = true) (k9 : PySem.W.keepIn K (.ref f9) = true)
    (a10 : PySem.W.nsIn K mainGlobals "shown" = some (some (.ref f10))) (l10 : K.lookup f10 = some ⟨oc10, od10, .func (PySem.W.fnOf "shown" "shown" (defArgs s_shown) (defBody s_shown) (defScope s_shown) .none kV10 dc10 pm10 an10 cd10 ct10), sl10⟩) (c10 : PySem.W.codeIn K cd10 "shown" = true) (k10 : PySem.W.keepIn K (.ref f10) = true)
    (a11 : PySem.W.nsIn K mainGlobals "is_number" = some (some (.ref f11))) (l11 : K.lookup f11 = some ⟨oc11, od11, .func (PySem.W.fnOf "is_number" "is_number" (defArgs s_is_number) (defBody s_is_number) (defScope s_is_number) .none kV11 dc11 pm11 an11 (.ref cc11) ct11), sl11⟩) (c11 : PySem.W.codeIn K (.ref cc11) "is_number" = true) (k11 : PySem.W.keepIn K (.ref f11) = true)
    (a12 : PySem.W.nsIn K mainGlobals "split_rule" = some (some (.ref f12))) (l12 : K.lookup f12 = some ⟨oc12, od12, .func (PySem.W.fnOf "split_rule" "split_rule" (defArgs s_split_rule) (defBody s_split_rule) (defScope s_split_rule) .none kV12 dc12 pm12 an12 cd12 ct12), sl12⟩) (c12 : PySem.W.codeIn K cd12 "split_rule" = true) (k12 : PySem.W.keepIn K (.ref f12) = true)
    (a13 : PySem.W.nsIn K mainGlobals "read_row" = some (some (.ref f13))) (l13 : K.lookup f13 = some ⟨oc13, od13, .func (PySem.W.fnOf "read_row" "read_row" (defArgs s_read_row) (defBody s_read_row) (defScope s_read_row) .none kV13 dc13 pm13 an13 cd13 ct13), sl13⟩) (c13 : PySem.W.codeIn K cd13 "read_row" = true) (k13 : PySem.W.keepIn K (.ref f13) = true)
    (a14 : PySem.W.nsIn K mainGlobals "read" = some (some (.ref f14))) (l14 : K.lookup f14 = some ⟨oc14, od14, .func (PySem.W.fnOf "read" "read" (defArgs s_read) (defBody s_read) (defScope s_read) .none kV14 dc14 pm14 an14 cd14 ct14), sl14⟩) (c14 : PySem.W.codeIn K cd14 "read" = true) (k14 : PySem.W.keepIn K (.ref f14) = true)
    (a15 : PySem.W.nsIn K mainGlobals "_law_cell_at" = some (some (.ref f15))) (l15 : K.lookup f15 = some ⟨oc15, od15, .func (PySem.W.fnOf "_law_cell_at" "_law_cell_at" (defArgs s_law_cell_at) (defBody s_law_cell_at) (defScope s_law_cell_at) .none kV15 dc15 pm15 an15 cd15 ct15), sl15⟩) (c15 : PySem.W.codeIn K cd15 "_law_cell_at" = true) (k15 : PySem.W.keepIn K (.ref f15) = true)
    (a16 : PySem.W.nsIn K mainGlobals "_law_next" = some (some (.ref f16))) (l16 : K.lookup f16 = some ⟨oc16, od16, .func (PySem.W.fnOf "_law_next" "_law_next" (defArgs s_law_next) (defBody s_law_next) (defScope s_law_next) .none kV16 dc16 pm16 an16 cd16 ct16), sl16⟩) (c16 : PySem.W.codeIn K cd16 "_law_next" = true) (k16 : PySem.W.keepIn K (.ref f16) = true)
    (a17 : PySem.W.nsIn K mainGlobals "_law_names" = some (some (.ref f17))) (l17 : K.lookup f17 = some ⟨oc17, od17, .func (PySem.W.fnOf "_law_names" "_law_names" (defArgs s_law_names) (defBody s_law_names) (defScope s_law_names) .none kV17 dc17 pm17 an17 cd17 ct17), sl17⟩) (c17 : PySem.W.codeIn K cd17 "_law_names" = true) (k17 : PySem.W.keepIn K (.ref f17) = true)
    (a18 : PySem.W.nsIn K mainGlobals "_law_value" = some (some (.ref f18))) (l18 : K.lookup f18 = some ⟨oc18, od18, .func (PySem.W.fnOf "_law_value" "_law_value" (defArgs s_law_value) (defBody s_law_value) (defScope s_law_value) .none kV18 dc18 pm18 an18 cd18 ct18), sl18⟩) (c18 : PySem.W.codeIn K cd18 "_law_value" = true) (k18 : PySem.W.keepIn K (.ref f18) = true)
    (a19 : PySem.W.nsIn K mainGlobals "_law_rule" = some (some (.ref f19))) (l19 : K.lookup f19 = some ⟨oc19, od19, .func (PySem.W.fnOf "_law_rule" "_law_rule" (defArgs s_law_rule) (defBody s_law_rule) (defScope s_law_rule) .none kV19 dc19 pm19 an19 cd19 ct19), sl19⟩) (c19 : PySem.W.codeIn K cd19 "_law_rule" = true) (k19 : PySem.W.keepIn K (.ref f19) = true)
    (a20 : PySem.W.nsIn K mainGlobals "_law_plan" = some (some (.ref f20))) (l20 : K.lookup f20 = some ⟨oc20, od20, .func (PySem.W.fnOf "_law_plan" "_law_plan" (defArgs s_law_plan) (defBody s_law_plan) (defScope s_law_plan) .none kV20 dc20 pm20 an20 cd20 ct20), sl20⟩) (c20 : PySem.W.codeIn K cd20 "_law_plan" = true) (k20 : PySem.W.keepIn K (.ref f20) = true)
    (a21 : PySem.W.nsIn K mainGlobals "_law_line" = some (some (.ref f21))) (l21 : K.lookup f21 = some ⟨oc21, od21, .func (PySem.W.fnOf "_law_line" "_law_line" (defArgs s_law_line) (defBody s_law_line) (defScope s_law_line) .none kV21 dc21 pm21 an21 cd21 ct21), sl21⟩) (c21 : PySem.W.codeIn K cd21 "_law_line" = true) (k21 : PySem.W.keepIn K (.ref f21) = true)
    (a22 : PySem.W.nsIn K mainGlobals "_law_text" = some (some (.ref f22))) (l22 : K.lookup f22 = some ⟨oc22, od22, .func (PySem.W.fnOf "_law_text" "_law_text" (defArgs s_law_text) (defBody s_law_text) (defScope s_law_text) .none kV22 dc22 pm22 an22 cd22 ct22), sl22⟩) (c22 : PySem.W.codeIn K cd22 "_law_text" = true) (k22 : PySem.W.keepIn K (.ref f22) = true)
    (a23 : PySem.W.nsIn K mainGlobals "_law_same" = some (some (.ref f23))) (l23 : K.lookup f23 = some ⟨oc23, od23, .func (PySem.W.fnOf "_law_same" "_law_same" (defArgs s_law_same) (defBody s_law_same) (defScope s_law_same) .none kV23 dc23 pm23 an23 cd23 ct23), sl23⟩) (c23 : PySem.W.codeIn K cd23 "_law_same" = true) (k23 : PySem.W.keepIn K (.ref f23) = true)
    (a24 : PySem.W.nsIn K mainGlobals "law" = some (some (.ref f24))) (l24 : K.lookup f24 = some ⟨oc24, od24, .func (PySem.W.fnOf "law" "law" (defArgs s_law) (defBody s_law) (defScope s_law) .none kV24 dc24 pm24 an24 cd24 ct24), sl24⟩) (c24 : PySem.W.codeIn K cd24 "law" = true) (k24 : PySem.W.keepIn K (.ref f24) = true)
    (y2 : K.lookup cc2 = some ⟨.type "code", yd2, .fields yv2, ys2⟩) (p2 : yv2[11]? = some (.ref P2)) (h2 : codeChk yv2 cc2 P2 = true) (n2 : K.lookup P2 = none) (r2 : rc "is_name" = true)
    (y5 : K.lookup cc5 = some ⟨.type "code", yd5, .fields yv5, ys5⟩) (p5 : yv5[11]? = some (.ref P5)) (h5 : codeChk yv5 cc5 P5 = true) (n5 : K.lookup P5 = none) (r5 : rc "is_step" = true)
    (y8 : K.lookup cc8 = some ⟨.type "code", yd8, .fields yv8, ys8⟩) (p8 : yv8[11]? = some (.ref P8)) (h8 : codeChk yv8 cc8 P8 = true) (n8 : K.lookup P8 = none) (r8 : rc "is_plan" = true)
    (y11 : K.lookup cc11 = some ⟨.type "code", yd11, .fields yv11, ys11⟩) (p11 : yv11[11]? = some (.ref P11)) (h11 : codeChk yv11 cc11 P11 = true) (n11 : K.lookup P11 = none) (r11 : rc "is_number" = true)
    (aW : PySem.W.nsIn K mainGlobals "COUNTS" = some (some (.ref CN))) (lW : K.lookup CN = some ⟨.type "dict", none, .dict we wn, #[]⟩) (kW : PySem.W.KeysLit w.params we.toList) (lo : (CN == sysModules) = false)
    (u0 : PySem.W.nsIn K CN "sum" = some (some (.ref t0))) (v0 : K.lookup t0 = some ⟨.type "tuple", td0, .seq #[.int 1 q0_0, .int 4 q0_1, .int 1 q0_2, .int 3 q0_3] tn0, ts0⟩)
    (u1 : PySem.W.nsIn K CN "times" = some (some (.ref t1))) (v1 : K.lookup t1 = some ⟨.type "tuple", td1, .seq #[.int 1 q1_0, .int 4 q1_1, .int 1 q1_2, .int 3 q1_3] tn1, ts1⟩)
    (u2 : PySem.W.nsIn K CN "least" = some (some (.ref t2))) (v2 : K.lookup t2 = some ⟨.type "tuple", td2, .seq #[.int 1 q2_0, .int 4 q2_1, .int 1 q2_2, .int 3 q2_3] tn2, ts2⟩)
    (u3 : PySem.W.nsIn K CN "most" = some (some (.ref t3))) (v3 : K.lookup t3 = some ⟨.type "tuple", td3, .seq #[.int 1 q3_0, .int 4 q3_1, .int 1 q3_2, .int 3 q3_3] tn3, ts3⟩)
    (u4 : PySem.W.nsIn K CN "fixed" = some (some (.ref t4))) (v4 : K.lookup t4 = some ⟨.type "tuple", td4, .seq #[.int 1 q4_0, .int 4 q4_1, .int 1 q4_2, .int 3 q4_3] tn4, ts4⟩)
    (u5 : PySem.W.nsIn K CN "later" = some (some (.ref t5))) (v5 : K.lookup t5 = some ⟨.type "tuple", td5, .seq #[.int 1 q5_0, .int 1 q5_1, .int 1 q5_2, .int 3 q5_3] tn5, ts5⟩)
    (u6 : PySem.W.nsIn K CN "way" = some (some (.ref t6))) (v6 : K.lookup t6 = some ⟨.type "tuple", td6, .seq #[.int 2 q6_0, .int 2 q6_1, .int 2 q6_2, .int 2 q6_3] tn6, ts6⟩)
    (u7 : PySem.W.nsIn K CN "choose" = some (some (.ref t7))) (v7 : K.lookup t7 = some ⟨.type "tuple", td7, .seq #[.int 3 q7_0, .int 3 q7_1, .int 1 q7_2, .int 3 q7_3] tn7, ts7⟩)
    (m_ARROW : PySem.W.nsIn K mainGlobals "ARROW" = some (some (.str "->" k_ARROW)))
    (m_FIGURES : PySem.W.nsIn K mainGlobals "FIGURES" = some (some (.str "0123456789" k_FIGURES)))
    (m_LETTERS : PySem.W.nsIn K mainGlobals "LETTERS" = some (some (.str "abcdefghijklmnopqrstuvwxyz" k_LETTERS)))
    (m_LETTERS_AND_FIGURES : PySem.W.nsIn K mainGlobals "LETTERS_AND_FIGURES" = some (some (.str "abcdefghijklmnopqrstuvwxyz0123456789" k_LETTERS_AND_FIGURES)))
    (m_MILLION : PySem.W.nsIn K mainGlobals "MILLION" = some (some (.int 1000000 k_MILLION)))
    (m_MOST_FIGURES : PySem.W.nsIn K mainGlobals "MOST_FIGURES" = some (some (.int 6 k_MOST_FIGURES)))
    (m_MOST_SIGNS : PySem.W.nsIn K mainGlobals "MOST_SIGNS" = some (some (.int 8 k_MOST_SIGNS)))
    (m_MOST_STEPS : PySem.W.nsIn K mainGlobals "MOST_STEPS" = some (some (.int 20 k_MOST_STEPS)))
    (z_all : PySem.W.nsIn K mainGlobals "all" = some none)
    (z_bool : PySem.W.nsIn K mainGlobals "bool" = some none)
    (z_int : PySem.W.nsIn K mainGlobals "int" = some none)
    (z_isinstance : PySem.W.nsIn K mainGlobals "isinstance" = some none)
    (z_len : PySem.W.nsIn K mainGlobals "len" = some none)
    (z_list : PySem.W.nsIn K mainGlobals "list" = some none)
    (z_min : PySem.W.nsIn K mainGlobals "min" = some none)
    (z_range : PySem.W.nsIn K mainGlobals "range" = some none)
    (z_set : PySem.W.nsIn K mainGlobals "set" = some none)
    (z_str : PySem.W.nsIn K mainGlobals "str" = some none)
    (z_tuple : PySem.W.nsIn K mainGlobals "tuple" = some none) :
    LamX.LawAtS l w K CX0 8 63 "_law_script" mg fa h := by
  have e := hfa.symm.trans (PySem.W.mg_of X G a24)
  cases e
  have F0 := fun_mk (st := s_is_whole) l0 c0 k0
  have F1 := fun_mk (st := s_is_value) l1 c1 k1
  have F2 := fun_mk (st := s_is_name) l2 c2 k2
  have F3 := fun_mk (st := s_is_rule) l3 c3 k3
  have F4 := fun_mk (st := s_counts_fit) l4 c4 k4
  have F5 := fun_mk (st := s_is_step) l5 c5 k5
  have F6 := fun_mk (st := s_given_places) l6 c6 k6
  have F7 := fun_mk (st := s_all_unlike) l7 c7 k7
  have F8 := fun_mk (st := s_is_plan) l8 c8 k8
  have F9 := fun_mk (st := s_shown_row) l9 c9 k9
  have F10 := fun_mk (st := s_shown) l10 c10 k10
  have F11 := fun_mk (st := s_is_number) l11 c11 k11
  have F12 := fun_mk (st := s_split_rule) l12 c12 k12
  have F13 := fun_mk (st := s_read_row) l13 c13 k13
  have F14 := fun_mk (st := s_read) l14 c14 k14
  have F15 := fun_mk (st := s_law_cell_at) l15 c15 k15
  have F16 := fun_mk (st := s_law_next) l16 c16 k16
  have F17 := fun_mk (st := s_law_names) l17 c17 k17
  have F18 := fun_mk (st := s_law_value) l18 c18 k18
  have F19 := fun_mk (st := s_law_rule) l19 c19 k19
  have F20 := fun_mk (st := s_law_plan) l20 c20 k20
  have F21 := fun_mk (st := s_law_line) l21 c21 k21
  have F22 := fun_mk (st := s_law_text) l22 c22 k22
  have F23 := fun_mk (st := s_law_same) l23 c23 k23
  have F24 := fun_mk (st := s_law) l24 c24 k24
  have b0 := F0.binds (ps := ["thing"]) fun _ _ _ _ _ _ us hl => match us, hl with | [_], _ => rfl
  have b1 := F1.binds (ps := ["thing"]) fun _ _ _ _ _ _ us hl => match us, hl with | [_], _ => rfl
  have b2 := F2.binds (ps := ["text"]) fun _ _ _ _ _ _ us hl => match us, hl with | [_], _ => rfl
  have b3 := F3.binds (ps := ["rule"]) fun _ _ _ _ _ _ us hl => match us, hl with | [_], _ => rfl
  have b4 := F4.binds (ps := ["word", "needs", "gives"]) fun _ _ _ _ _ _ us hl => match us, hl with | [_, _, _], _ => rfl
  have b5 := F5.binds (ps := ["step"]) fun _ _ _ _ _ _ us hl => match us, hl with | [_], _ => rfl
  have b6 := F6.binds (ps := ["plan"]) fun _ _ _ _ _ _ us hl => match us, hl with | [_], _ => rfl
  have b7 := F7.binds (ps := ["names"]) fun _ _ _ _ _ _ us hl => match us, hl with | [_], _ => rfl
  have b8 := F8.binds (ps := ["plan"]) fun _ _ _ _ _ _ us hl => match us, hl with | [_], _ => rfl
  have b9 := F9.binds (ps := ["step"]) fun _ _ _ _ _ _ us hl => match us, hl with | [_], _ => rfl
  have b10 := F10.binds (ps := ["plan"]) fun _ _ _ _ _ _ us hl => match us, hl with | [_], _ => rfl
  have b11 := F11.binds (ps := ["word"]) fun _ _ _ _ _ _ us hl => match us, hl with | [_], _ => rfl
  have b12 := F12.binds (ps := ["words"]) fun _ _ _ _ _ _ us hl => match us, hl with | [_], _ => rfl
  have b13 := F13.binds (ps := ["row"]) fun _ _ _ _ _ _ us hl => match us, hl with | [_], _ => rfl
  have b14 := F14.binds (ps := ["text"]) fun _ _ _ _ _ _ us hl => match us, hl with | [_], _ => rfl
  have b15 := F15.binds (ps := ["_law_script", "_law_k"]) fun _ _ _ _ _ _ us hl => match us, hl with | [_, _], _ => rfl
  have b16 := F16.binds (ps := ["_law_pick"]) fun _ _ _ _ _ _ us hl => match us, hl with | [_], _ => rfl
  have b17 := F17.binds (ps := ["_law_cell"]) fun _ _ _ _ _ _ us hl => match us, hl with | [_], _ => rfl
  have b18 := F18.binds (ps := ["_law_pick"]) fun _ _ _ _ _ _ us hl => match us, hl with | [_], _ => rfl
  have b19 := F19.binds (ps := ["_law_pick", "_law_way"]) fun _ _ _ _ _ _ us hl => match us, hl with | [_, _], _ => rfl
  have b20 := F20.binds (ps := ["_law_script", "_law_at"]) fun _ _ _ _ _ _ us hl => match us, hl with | [_, _], _ => rfl
  have b21 := F21.binds (ps := ["_law_step"]) fun _ _ _ _ _ _ us hl => match us, hl with | [_], _ => rfl
  have b22 := F22.binds (ps := ["_law_plan_here"]) fun _ _ _ _ _ _ us hl => match us, hl with | [_], _ => rfl
  have b23 := F23.binds (ps := ["_law_found", "_law_due"]) fun _ _ _ _ _ _ us hl => match us, hl with | [_, _], _ => rfl
  have kd : KdAt K w mg "COUNTS" kd_COUNTS := ⟨⟨CN, PySem.W.mg_of X G aW, ⟨we, wn, ⟨lW, kW, lo⟩⟩, fun p hp => by
    have hp : p ∈ [(("sum" : Str), PyData.tuple [.int 1, .int 4, .int 1, .int 3]), (("times" : Str), PyData.tuple [.int 1, .int 4, .int 1, .int 3]), (("least" : Str), PyData.tuple [.int 1, .int 4, .int 1, .int 3]), (("most" : Str), PyData.tuple [.int 1, .int 4, .int 1, .int 3]), (("fixed" : Str), PyData.tuple [.int 1, .int 4, .int 1, .int 3]), (("later" : Str), PyData.tuple [.int 1, .int 1, .int 1, .int 3]), (("way" : Str), PyData.tuple [.int 2, .int 2, .int 2, .int 2]), (("choose" : Str), PyData.tuple [.int 3, .int 3, .int 1, .int 3])] := hp
    simp only [List.mem_cons, List.not_mem_nil, or_false] at hp
    rcases hp with z | z | z | z | z | z | z | z <;> subst z
    · exact ⟨.ref t0, ⟨we, wn, _, lW, kW, u0, rfl⟩, fun F => tup4 v0 F⟩
    · exact ⟨.ref t1, ⟨we, wn, _, lW, kW, u1, rfl⟩, fun F => tup4 v1 F⟩
    · exact ⟨.ref t2, ⟨we, wn, _, lW, kW, u2, rfl⟩, fun F => tup4 v2 F⟩
    · exact ⟨.ref t3, ⟨we, wn, _, lW, kW, u3, rfl⟩, fun F => tup4 v3 F⟩
    · exact ⟨.ref t4, ⟨we, wn, _, lW, kW, u4, rfl⟩, fun F => tup4 v4 F⟩
    · exact ⟨.ref t5, ⟨we, wn, _, lW, kW, u5, rfl⟩, fun F => tup4 v5 F⟩
    · exact ⟨.ref t6, ⟨we, wn, _, lW, kW, u6, rfl⟩, fun F => tup4 v6 F⟩
    · exact ⟨.ref t7, ⟨we, wn, _, lW, kW, u7, rfl⟩, fun F => tup4 v7 F⟩⟩⟩
  have Z : Txt K w mg := { b_all := PySem.W.mg_none_of X G z_all, b_bool := PySem.W.mg_none_of X G z_bool, b_int := PySem.W.mg_none_of X G z_int, b_isinstance := PySem.W.mg_none_of X G z_isinstance, b_len := PySem.W.mg_none_of X G z_len, b_list := PySem.W.mg_none_of X G z_list, b_min := PySem.W.mg_none_of X G z_min, b_range := PySem.W.mg_none_of X G z_range, b_set := PySem.W.mg_none_of X G z_set, b_str := PySem.W.mg_none_of X G z_str, b_tuple := PySem.W.mg_none_of X G z_tuple, c_ARROW := ⟨_, PySem.W.mg_of X G m_ARROW⟩, c_FIGURES := ⟨_, PySem.W.mg_of X G m_FIGURES⟩, c_LETTERS := ⟨_, PySem.W.mg_of X G m_LETTERS⟩, c_LETTERS_AND_FIGURES := ⟨_, PySem.W.mg_of X G m_LETTERS_AND_FIGURES⟩, c_MILLION := ⟨_, PySem.W.mg_of X G m_MILLION⟩, c_MOST_FIGURES := ⟨_, PySem.W.mg_of X G m_MOST_FIGURES⟩, c_MOST_SIGNS := ⟨_, PySem.W.mg_of X G m_MOST_SIGNS⟩, c_MOST_STEPS := ⟨_, PySem.W.mg_of X G m_MOST_STEPS⟩, k_COUNTS := kd }
  have hT : ∀ p ∈ ([(cc2, P2), (cc5, P5), (cc8, P8), (cc11, P11)] : List (Addr × Addr)), h.get? p.2 = some { cls := .none, data := .fields #[] } := fun p hp => by
    simp only [List.mem_cons, List.not_mem_nil, or_false] at hp
    rcases hp with z | z | z | z <;> subst z
    · exact tab_of (own _ _ r2 (PySem.W.mg_of X G a2)) l2 rfl rfl (hd_of y2 h2)
    · exact tab_of (own _ _ r5 (PySem.W.mg_of X G a5)) l5 rfl rfl (hd_of y5 h5)
    · exact tab_of (own _ _ r8 (PySem.W.mg_of X G a8)) l8 rfl rfl (hd_of y8 h8)
    · exact tab_of (own _ _ r11 (PySem.W.mg_of X G a11)) l11 rfl rfl (hd_of y11 h11)
  have nT : ∀ p ∈ ([(cc2, P2), (cc5, P5), (cc8, P8), (cc11, P11)] : List (Addr × Addr)), K.lookup p.2 = none := fun p hp => by
    simp only [List.mem_cons, List.not_mem_nil, or_false] at hp
    rcases hp with z | z | z | z <;> subst z
    · exact n2
    · exact n5
    · exact n8
    · exact n11
  have hC : ∀ p ∈ ([(cc2, P2), (cc5, P5), (cc8, P8), (cc11, P11)] : List (Addr × Addr)), PySem.W.CodeHd h p.1 p.2 := fun p hp => by
    simp only [List.mem_cons, List.not_mem_nil, or_false] at hp
    rcases hp with z | z | z | z <;> subst z
    · exact PySem.W.codeHd_of_K X (hd_of y2 h2)
    · exact PySem.W.codeHd_of_K X (hd_of y5 h5)
    · exact PySem.W.codeHd_of_K X (hd_of y8 h8)
    · exact PySem.W.codeHd_of_K X (hd_of y11 h11)
  refine ⟨PySem.W.fnOf "law" "law" (defArgs s_law) (defBody s_law) (defScope s_law) .none kV24 dc24 pm24 an24 cd24 ct24, ([(cc2, P2), (cc5, P5), (cc8, P8), (cc11, P11)] : List (Addr × Addr)), spLaw K (([(cc2, P2), (cc5, P5), (cc8, P8), (cc11, P11)] : List (Addr × Addr)).map Prod.snd), hT, nT, hC, fun s v => .of_eq rfl, fun H a ns hl _ hH hS => ⟨a, ns, rfl, hS, hl, fun P hP => ?_, fun _ => rfl⟩, fun base _ _ TB => ?_⟩
  · obtain ⟨p, hp, rfl⟩ := List.mem_map.mp hP
    exact ⟨#[], hH p hp, True.intro⟩
  have TBg : ∀ p ∈ ([(cc2, P2), (cc5, P5), (cc8, P8), (cc11, P11)] : List (Addr × Addr)), GxR.TabB base mg p.1 p.2 := fun p hp => ⟨(TB p hp).code, (TB p hp).bm, (TB p hp).gP⟩
  have hP : ∀ p ∈ ([(cc2, P2), (cc5, P5), (cc8, P8), (cc11, P11)] : List (Addr × Addr)), p.2 ∈ (cfgT K (([(cc2, P2), (cc5, P5), (cc8, P8), (cc11, P11)] : List (Addr × Addr)).map Prod.snd)).T := fun p hp => List.mem_map.mpr ⟨p, hp, rfl⟩
  have H_is_whole : Fn l.prog w K mg base (cfgT K (([(cc2, P2), (cc5, P5), (cc8, P8), (cc11, P11)] : List (Addr × Addr)).map Prod.snd)) 1 "is_whole" 1 f_is_whole := fn_at (ok_is_whole F0 Z) (PySem.W.mg_of X G a0) k0 b0
  have H_is_value : Fn l.prog w K mg base (cfgT K (([(cc2, P2), (cc5, P5), (cc8, P8), (cc11, P11)] : List (Addr × Addr)).map Prod.snd)) 2 "is_value" 1 f_is_value := fn_at (ok_is_value F1 Z H_is_whole) (PySem.W.mg_of X G a1) k1 b1
  have H_is_name : Fn l.prog w K mg base (cfgT K (([(cc2, P2), (cc5, P5), (cc8, P8), (cc11, P11)] : List (Addr × Addr)).map Prod.snd)) 2 "is_name" 1 f_is_name := fn_at (ok_is_name F2 Z  rfl (TBg (cc2, P2) (by simp)) (hP (cc2, P2) (by simp))) (PySem.W.mg_of X G a2) k2 b2
  have H_is_rule : Fn l.prog w K mg base (cfgT K (([(cc2, P2), (cc5, P5), (cc8, P8), (cc11, P11)] : List (Addr × Addr)).map Prod.snd)) 3 "is_rule" 1 f_is_rule := fn_at (ok_is_rule F3 Z H_is_value) (PySem.W.mg_of X G a3) k3 b3
  have H_counts_fit : Fn l.prog w K mg base (cfgT K (([(cc2, P2), (cc5, P5), (cc8, P8), (cc11, P11)] : List (Addr × Addr)).map Prod.snd)) 1 "counts_fit" 3 f_counts_fit := fn_at (ok_counts_fit F4 Z) (PySem.W.mg_of X G a4) k4 b4
  have H_is_step : Fn l.prog w K mg base (cfgT K (([(cc2, P2), (cc5, P5), (cc8, P8), (cc11, P11)] : List (Addr × Addr)).map Prod.snd)) 4 "is_step" 1 f_is_step := fn_at (ok_is_step F5 Z H_counts_fit H_is_name H_is_rule rfl (TBg (cc5, P5) (by simp)) (hP (cc5, P5) (by simp))) (PySem.W.mg_of X G a5) k5 b5
  have H_given_places : Fn l.prog w K mg base (cfgT K (([(cc2, P2), (cc5, P5), (cc8, P8), (cc11, P11)] : List (Addr × Addr)).map Prod.snd)) 1 "given_places" 1 f_given_places := fn_at (ok_given_places F6 Z) (PySem.W.mg_of X G a6) k6 b6
  have H_all_unlike : Fn l.prog w K mg base (cfgT K (([(cc2, P2), (cc5, P5), (cc8, P8), (cc11, P11)] : List (Addr × Addr)).map Prod.snd)) 1 "all_unlike" 1 f_all_unlike := fn_at (ok_all_unlike F7 Z) (PySem.W.mg_of X G a7) k7 b7
  have H_is_plan : Fn l.prog w K mg base (cfgT K (([(cc2, P2), (cc5, P5), (cc8, P8), (cc11, P11)] : List (Addr × Addr)).map Prod.snd)) 6 "is_plan" 1 f_is_plan := fn_at (ok_is_plan F8 Z H_all_unlike H_given_places H_is_step rfl (TBg (cc8, P8) (by simp)) (hP (cc8, P8) (by simp))) (PySem.W.mg_of X G a8) k8 b8
  have H_shown_row : Fn l.prog w K mg base (cfgT K (([(cc2, P2), (cc5, P5), (cc8, P8), (cc11, P11)] : List (Addr × Addr)).map Prod.snd)) 1 "shown_row" 1 f_shown_row := fn_at (ok_shown_row F9 Z) (PySem.W.mg_of X G a9) k9 b9
  have H_shown : Fn l.prog w K mg base (cfgT K (([(cc2, P2), (cc5, P5), (cc8, P8), (cc11, P11)] : List (Addr × Addr)).map Prod.snd)) 2 "shown" 1 f_shown := fn_at (ok_shown F10 Z H_shown_row) (PySem.W.mg_of X G a10) k10 b10
  have H_is_number : Fn l.prog w K mg base (cfgT K (([(cc2, P2), (cc5, P5), (cc8, P8), (cc11, P11)] : List (Addr × Addr)).map Prod.snd)) 2 "is_number" 1 f_is_number := fn_at (ok_is_number F11 Z  rfl (TBg (cc11, P11) (by simp)) (hP (cc11, P11) (by simp))) (PySem.W.mg_of X G a11) k11 b11
  have H_split_rule : Fn l.prog w K mg base (cfgT K (([(cc2, P2), (cc5, P5), (cc8, P8), (cc11, P11)] : List (Addr × Addr)).map Prod.snd)) 3 "split_rule" 1 f_split_rule := fn_at (ok_split_rule F12 Z H_is_number) (PySem.W.mg_of X G a12) k12 b12
  have H_read_row : Fn l.prog w K mg base (cfgT K (([(cc2, P2), (cc5, P5), (cc8, P8), (cc11, P11)] : List (Addr × Addr)).map Prod.snd)) 4 "read_row" 1 f_read_row := fn_at (ok_read_row F13 Z H_split_rule) (PySem.W.mg_of X G a13) k13 b13
  have H_read : Fn l.prog w K mg base (cfgT K (([(cc2, P2), (cc5, P5), (cc8, P8), (cc11, P11)] : List (Addr × Addr)).map Prod.snd)) 7 "read" 1 f_read := fn_at (ok_read F14 Z H_is_plan H_read_row) (PySem.W.mg_of X G a14) k14 b14
  have H_law_cell_at : Fn l.prog w K mg base (cfgT K (([(cc2, P2), (cc5, P5), (cc8, P8), (cc11, P11)] : List (Addr × Addr)).map Prod.snd)) 1 "_law_cell_at" 2 f_law_cell_at := fn_at (ok_law_cell_at F15 Z) (PySem.W.mg_of X G a15) k15 b15
  have H_law_next : Fn l.prog w K mg base (cfgT K (([(cc2, P2), (cc5, P5), (cc8, P8), (cc11, P11)] : List (Addr × Addr)).map Prod.snd)) 1 "_law_next" 1 f_law_next := fn_at (ok_law_next F16 Z) (PySem.W.mg_of X G a16) k16 b16
  have H_law_names : Fn l.prog w K mg base (cfgT K (([(cc2, P2), (cc5, P5), (cc8, P8), (cc11, P11)] : List (Addr × Addr)).map Prod.snd)) 1 "_law_names" 1 f_law_names := fn_at (ok_law_names F17 Z) (PySem.W.mg_of X G a17) k17 b17
  have H_law_value : Fn l.prog w K mg base (cfgT K (([(cc2, P2), (cc5, P5), (cc8, P8), (cc11, P11)] : List (Addr × Addr)).map Prod.snd)) 1 "_law_value" 1 f_law_value := fn_at (ok_law_value F18 Z) (PySem.W.mg_of X G a18) k18 b18
  have H_law_rule : Fn l.prog w K mg base (cfgT K (([(cc2, P2), (cc5, P5), (cc8, P8), (cc11, P11)] : List (Addr × Addr)).map Prod.snd)) 2 "_law_rule" 2 f_law_rule := fn_at (ok_law_rule F19 Z H_law_value) (PySem.W.mg_of X G a19) k19 b19
  have H_law_plan : Fn l.prog w K mg base (cfgT K (([(cc2, P2), (cc5, P5), (cc8, P8), (cc11, P11)] : List (Addr × Addr)).map Prod.snd)) 3 "_law_plan" 2 f_law_plan := fn_at (ok_law_plan F20 Z H_law_cell_at H_law_names H_law_next H_law_rule) (PySem.W.mg_of X G a20) k20 b20
  have H_law_line : Fn l.prog w K mg base (cfgT K (([(cc2, P2), (cc5, P5), (cc8, P8), (cc11, P11)] : List (Addr × Addr)).map Prod.snd)) 1 "_law_line" 1 f_law_line := fn_at (ok_law_line F21 Z) (PySem.W.mg_of X G a21) k21 b21
  have H_law_text : Fn l.prog w K mg base (cfgT K (([(cc2, P2), (cc5, P5), (cc8, P8), (cc11, P11)] : List (Addr × Addr)).map Prod.snd)) 2 "_law_text" 1 f_law_text := fn_at (ok_law_text F22 Z H_law_line) (PySem.W.mg_of X G a22) k22 b22
  have S0 : Fn l.prog w K mg base (cfgT K (([(cc2, P2), (cc5, P5), (cc8, P8), (cc11, P11)] : List (Addr × Addr)).map Prod.snd)) 1 "_law_same" 2 (fun _ => none) := fn_at (fn_none F23 sc_law_same rfl) (PySem.W.mg_of X G a23) k23 b23
  have S1 : Fn l.prog w K mg base (cfgT K (([(cc2, P2), (cc5, P5), (cc8, P8), (cc11, P11)] : List (Addr × Addr)).map Prod.snd)) 2 "_law_same" 2 f_law_same0 := fn_at (ok_law_same F23 Z S0) (PySem.W.mg_of X G a23) k23 b23
  have S2 : Fn l.prog w K mg base (cfgT K (([(cc2, P2), (cc5, P5), (cc8, P8), (cc11, P11)] : List (Addr × Addr)).map Prod.snd)) 3 "_law_same" 2 f_law_same1 := fn_at (ok_law_same F23 Z S1) (PySem.W.mg_of X G a23) k23 b23
  have S3 : Fn l.prog w K mg base (cfgT K (([(cc2, P2), (cc5, P5), (cc8, P8), (cc11, P11)] : List (Addr × Addr)).map Prod.snd)) 4 "_law_same" 2 f_law_same2 := fn_at (ok_law_same F23 Z S2) (PySem.W.mg_of X G a23) k23 b23
  have H_law_same : Fn l.prog w K mg base (cfgT K (([(cc2, P2), (cc5, P5), (cc8, P8), (cc11, P11)] : List (Addr × Addr)).map Prod.snd)) 5 "_law_same" 2 f_law_same := fn_at (ok_law_same F23 Z S3) (PySem.W.mg_of X G a23) k23 b23
  exact (ok_law F24 Z H_law_plan H_law_same H_law_text H_read H_shown).imp (law_end (c := (cfgT K (([(cc2, P2), (cc5, P5), (cc8, P8), (cc11, P11)] : List (Addr × Addr)).map Prod.snd))) law_all)
/-- the end, where defs hold generator expressions -/
theorem walk_tabs {l : PySem.W.OpenLaw} {n k : Nat} {q : Program} {loose : List Str} {XP : (Str → Option Value) → Heap → Prop} {YP : World → Heap → Prop} {d : DefRec} {K : Params → PySem.W.Frag} {CX : World → CXT} {x : Str}
    (hn : l.most = some n) (hn2 : n ≤ sizeLine) (hdf : d.params.defaults = []) (hr : Room k callerA) (hY : ∀ (w : World) (h : Heap), YP w h → (K w.params).In h)
    (F : ∀ (w : World) (mg : Str → Option Value) (fa : Addr) (h : Heap), YP w h → (K w.params).In h → h.Ns mainGlobals mg → mg d.name = some (.ref fa) → (∀ (y : Str) (f : Addr), ((recsOf q).any fun e => e.name == y) = true → mg y = some (.ref f) → LamX.OwnTab (K w.params) f h) → LamX.LawAtS l w (K w.params) (CX w) k n x mg fa h)
    (hCX : ∀ (w : World) (H : Hp) (s : Shared) (e : Value) (s' : Shared), CX w [] H s (fun _ _ _ => False) e s' → False) :
    PySem.W.WalkO q loose XP YP l.row.toRowW d [] (fun f vs => PySem.call f vs) := by
  refine Att.attach_callB hn hdf fun w s₀ s₁ mg mb fa o pm cd doc a vs ns G Y ho hd hcd hmg hobj hints hlen hbits hg => ?_
  have KX := hY w _ Y
  have own : ∀ (y : Str) (f : Addr), ((recsOf q).any fun e => e.name == y) = true → mg y = some (.ref f) → LamX.OwnTab (K w.params) f s₁.heap := fun y f hy hm c P o1 fd1 e dd vs1 sl k1 k2 k3 k4 k5 => by
    obtain ⟨dL, hL, hq⟩ := List.any_eq_true.mp hy
    obtain ⟨a', o', fd', c', P', h1, h2, h3, h4, h5, ⟨oc, vc, e1, _, e3, e4⟩, hP⟩ := G.T.tab dL hL
    rw [beq_iff_eq.mp hq, hm] at h1
    cases h1
    rw [KX _ _ k1] at h2
    cases h2
    rw [k2] at h3
    cases h3
    rw [k3] at h4
    cases h4
    rw [KX _ _ k4] at e1
    cases e1
    cases e3
    rw [k5] at e4
    cases e4
    exact hP
  obtain ⟨fd, cs, sp, hT, nT, C, hb, hsp, hF⟩ := F w mg fa _ Y KX G.T.g hmg own
  exact LamX.law_callTs KX G.T.g G.T.b G.T.builtins G.T.nolimit hg hT nT C G.T.bmain hobj hints (Nat.le_trans hlen hn2) hr hF hb (fun H hH hS => hsp H a ns hlen hbits hH hS) fun H e s' => hCX w H s₁ e s'
end K12
-- K12end.lean
set_option Elab.async false
set_option linter.all false
set_option maxRecDepth 100000
open PySem PySem.W PyProof.Rows
set_option maxHeartbeats 0 in
theorem PySem.Challenge.cw_readyfire_k12_shown_and_read_holds : PySem.Challenge.rw_readyfire_k12_shown_and_read.Holds := by
  w_on; o_law; k_head; (case hw => w_witness2)
  k_fill
  refine K12.walk_tabs (l := PySem.Challenge.rw_readyfire_k12_shown_and_read) (n := 63) (k := 8) (x := "_law_script") (CX := fun _ => L2.CX0) rfl (by decide) rfl ⟨rfl, by decide, by decide⟩ (fun w h Y => PySem.W.kIn_of Y) ?F (fun _ _ _ _ _ h => h)
  case F =>
    intro w mg fa h Y KX G hmg own
    refine' K12.all_mk KX G hmg own ?a0 ?l0 ?c0 ?k0 ?a1 ?l1 ?c1 ?k1 ?a2 ?l2 ?c2 ?k2 ?a3 ?l3 ?c3 ?k3 ?a4 ?l4 ?c4 ?k4 ?a5 ?l5 ?c5 ?k5 ?a6 ?l6 ?c6 ?k6 ?a7 ?l7 ?c7 ?k7 ?a8 ?l8 ?c8 ?k8 ?a9 ?l9 ?c9 ?k9 ?a10 ?l10 ?c10 ?k10 ?a11 ?l11 ?c11 ?k11 ?a12 ?l12 ?c12 ?k12 ?a13 ?l13 ?c13 ?k13 ?a14 ?l14 ?c14 ?k14 ?a15 ?l15 ?c15 ?k15 ?a16 ?l16 ?c16 ?k16 ?a17 ?l17 ?c17 ?k17 ?a18 ?l18 ?c18 ?k18 ?a19 ?l19 ?c19 ?k19 ?a20 ?l20 ?c20 ?k20 ?a21 ?l21 ?c21 ?k21 ?a22 ?l22 ?c22 ?k22 ?a23 ?l23 ?c23 ?k23 ?a24 ?l24 ?c24 ?k24 ?y2 ?p2 ?h2 ?n2 ?r2 ?y5 ?p5 ?h5 ?n5 ?r5 ?y8 ?p8 ?h8 ?n8 ?r8 ?y11 ?p11 ?h11 ?n11 ?r11 ?aW ?lW ?kW ?lo ?u0 ?v0 ?u1 ?v1 ?u2 ?v2 ?u3 ?v3 ?u4 ?v4 ?u5 ?v5 ?u6 ?v6 ?u7 ?v7 ?m_ARROW ?m_FIGURES ?m_LETTERS ?m_LETTERS_AND_FIGURES ?m_MILLION ?m_MOST_FIGURES ?m_MOST_SIGNS ?m_MOST_STEPS ?z_all ?z_bool ?z_int ?z_isinstance ?z_len ?z_list ?z_min ?z_range ?z_set ?z_str ?z_tuple
    (case a0 => k_is); (case l0 => k_is); (case c0 => k_is); (case k0 => k_is); (case a1 => k_is); (case l1 => k_is); (case c1 => k_is); (case k1 => k_is); (case a2 => k_is); (case l2 => k_is); (case c2 => k_is); (case k2 => k_is); (case a3 => k_is); (case l3 => k_is); (case c3 => k_is); (case k3 => k_is); (case a4 => k_is); (case l4 => k_is); (case c4 => k_is); (case k4 => k_is); (case a5 => k_is); (case l5 => k_is); (case c5 => k_is); (case k5 => k_is); (case a6 => k_is); (case l6 => k_is); (case c6 => k_is); (case k6 => k_is); (case a7 => k_is); (case l7 => k_is); (case c7 => k_is); (case k7 => k_is); (case a8 => k_is); (case l8 => k_is); (case c8 => k_is); (case k8 => k_is); (case a9 => k_is); (case l9 => k_is); (case c9 => k_is); (case k9 => k_is); (case a10 => k_is); (case l10 => k_is); (case c10 => k_is); (case k10 => k_is); (case a11 => k_is); (case l11 => k_is); (case c11 => k_is); (case k11 => k_is); (case a12 => k_is); (case l12 => k_is); (case c12 => k_is); (case k12 => k_is); (case a13 => k_is); (case l13 => k_is); (case c13 => k_is); (case k13 => k_is); (case a14 => k_is); (case l14 => k_is); (case c14 => k_is); (case k14 => k_is); (case a15 => k_is); (case l15 => k_is); (case c15 => k_is); (case k15 => k_is); (case a16 => k_is); (case l16 => k_is); (case c16 => k_is); (case k16 => k_is); (case a17 => k_is); (case l17 => k_is); (case c17 => k_is); (case k17 => k_is); (case a18 => k_is); (case l18 => k_is); (case c18 => k_is); (case k18 => k_is); (case a19 => k_is); (case l19 => k_is); (case c19 => k_is); (case k19 => k_is); (case a20 => k_is); (case l20 => k_is); (case c20 => k_is); (case k20 => k_is); (case a21 => k_is); (case l21 => k_is); (case c21 => k_is); (case k21 => k_is); (case a22 => k_is); (case l22 => k_is); (case c22 => k_is); (case k22 => k_is); (case a23 => k_is); (case l23 => k_is); (case c23 => k_is); (case k23 => k_is); (case a24 => k_is); (case l24 => k_is); (case c24 => k_is); (case k24 => k_is); (case y2 => k_is); (case p2 => with_unfolding_all exact rfl); (case h2 => with_unfolding_all exact rfl); (case n2 => first | k_is | with_unfolding_all exact rfl); (case r2 => first | rfl | decide +kernel); (case y5 => k_is); (case p5 => with_unfolding_all exact rfl); (case h5 => with_unfolding_all exact rfl); (case n5 => first | k_is | with_unfolding_all exact rfl); (case r5 => first | rfl | decide +kernel); (case y8 => k_is); (case p8 => with_unfolding_all exact rfl); (case h8 => with_unfolding_all exact rfl); (case n8 => first | k_is | with_unfolding_all exact rfl); (case r8 => first | rfl | decide +kernel); (case y11 => k_is); (case p11 => with_unfolding_all exact rfl); (case h11 => with_unfolding_all exact rfl); (case n11 => first | k_is | with_unfolding_all exact rfl); (case r11 => first | rfl | decide +kernel); (case aW => k_is); (case lW => k_is); (case kW => k_keys); (case lo => first | k_is | rfl | decide +kernel); (case u0 => k_is); (case v0 => k_is); (case u1 => k_is); (case v1 => k_is); (case u2 => k_is); (case v2 => k_is); (case u3 => k_is); (case v3 => k_is); (case u4 => k_is); (case v4 => k_is); (case u5 => k_is); (case v5 => k_is); (case u6 => k_is); (case v6 => k_is); (case u7 => k_is); (case v7 => k_is); (case m_ARROW => k_is); (case m_FIGURES => k_is); (case m_LETTERS => k_is); (case m_LETTERS_AND_FIGURES => k_is); (case m_MILLION => k_is); (case m_MOST_FIGURES => k_is); (case m_MOST_SIGNS => k_is); (case m_MOST_STEPS => k_is); (case z_all => k_is); (case z_bool => k_is); (case z_int => k_is); (case z_isinstance => k_is); (case z_len => k_is); (case z_list => k_is); (case z_min => k_is); (case z_range => k_is); (case z_set => k_is); (case z_str => k_is); (case z_tuple => k_is)
