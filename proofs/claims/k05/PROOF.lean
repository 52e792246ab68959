import PyProof.Rows.All
import Wide.All
import OpenK.AllK
import Wide.FinOn
import HandS.ForMost
import HandS.Deep
import HandS.Wide
import HandS.IsInst
import HandS.Style
import HandS.TupAny
import HandS.EndBits
import HandS.Flow
import HandS.Dict
import HandS.More
import PySem.Challenge.RW_spillsheet_k05_what_is_an_expression
set_option Elab.async false
set_option linter.all false
set_option maxRecDepth 100000
set_option maxHeartbeats 4000000
namespace Sm
open PySem PySem.Spec PyProof.Rows L2

/-- a value: tuples by what they hold, other objects by their number -/
inductive PV where
  | non | bl (b : Bool) | int (i : Int) | str (x : Str) | tup (xs : List PV) | ref (n : Nat)
inductive Cell where
  | lst (xs : List PV) | rol (xs : List PV) | dk (kvs : List (Key × PV))
abbrev Store := List Cell

mutual
def VR (K : PySem.W.Frag) (ρ : List Addr) (H : Hp) : PV → V → Prop
  | .non, v => v = .non
  | .bl b, v => v = .bl b
  | .int i, v => v = .int i
  | .str x, v => v = .str x
  | .tup xs, v => ∃ a vs, v = .ref a ∧ SqT K H a vs ∧ VRs K ρ H xs vs
  | .ref n, v => ∃ a, v = .ref a ∧ ρ[n]? = some a
def VRs (K : PySem.W.Frag) (ρ : List Addr) (H : Hp) : List PV → List V → Prop
  | [], vs => vs = []
  | x :: xs, vs => ∃ v r, vs = v :: r ∧ VR K ρ H x v ∧ VRs K ρ H xs r
end
/-- a list that is only read -/
def RoL (K : PySem.W.Frag) (H : Hp) (a : Addr) (vs : List V) : Prop := (∃ o, H a = some (.frz o (.lst vs))) ∨
  ∃ (o : Obj) (its : Array Value) (n : Nat), K.lookup a = some o ∧ o.cls = .type "list" ∧ o.dict = none ∧ o.data = .seq its n ∧ its.size ≤ sizeLine ∧ Vals vs its.toList
theorem RoL.sq {K : PySem.W.Frag} {H : Hp} {a : Addr} {vs : List V} (h : RoL K H a vs) : SqL K H a vs := by
  rcases h with ⟨o, h⟩ | h
  · exact .inl (.inr ⟨o, h⟩)
  · exact .inr h
def CR (K : PySem.W.Frag) (ρ : List Addr) (H : Hp) : Cell → Addr → Prop
  | .lst xs, a => ∃ vs, H a = some (.lst vs) ∧ VRs K ρ H xs vs
  | .rol xs, a => ∃ vs, RoL K H a vs ∧ VRs K ρ H xs vs
  | .dk kvs, a => ∃ vs, H a = some (.dK ((kvs.map (·.1)).zip vs)) ∧ VRs K ρ H (kvs.map (·.2)) vs
structure SR (K : PySem.W.Frag) (ρ : List Addr) (H : Hp) (st : Store) : Prop where
  len : ρ.length = st.length
  nd : ∀ (n m : Nat) (a : Addr) xs ys, st[n]? = some (.lst xs) → st[m]? = some (.lst ys) → ρ[n]? = some a → ρ[m]? = some a → n = m
  nk : ∀ (n m : Nat) (a : Addr) xs ys, st[n]? = some (.dk xs) → st[m]? = some (.dk ys) → ρ[n]? = some a → ρ[m]? = some a → n = m
  cel : ∀ (n : Nat) (c : Cell) (a : Addr), st[n]? = some c → ρ[n]? = some a → CR K ρ H c a
/-- what a step keeps -/
structure Up (K : PySem.W.Frag) (ρ : List Addr) (H : Hp) (ρ' : List Addr) (H' : Hp) : Prop where
  t : ∀ a vs, SqT K H a vs → SqT K H' a vs
  r : ∀ (n : Nat) a, ρ[n]? = some a → ρ'[n]? = some a
section
variable {K : PySem.W.Frag} {ρ ρ' ρ'' : List Addr} {H H' H'' : Hp}
theorem Up.refl : Up K ρ H ρ H := ⟨fun _ _ h => h, fun _ _ h => h⟩
theorem Up.trans (a : Up K ρ H ρ' H') (b : Up K ρ' H' ρ'' H'') : Up K ρ H ρ'' H'' := ⟨fun x vs h => b.t x vs (a.t x vs h), fun n x h => b.r n x (a.r n x h)⟩
mutual
theorem VR.up (u : Up K ρ H ρ' H') : ∀ {x : PV} {v : V}, VR K ρ H x v → VR K ρ' H' x v
  | .non, _, h => h
  | .bl _, _, h => h
  | .int _, _, h => h
  | .str _, _, h => h
  | .tup xs, v, h => by
    unfold VR at h ⊢
    obtain ⟨a, vs, e, s, r⟩ := h
    exact ⟨a, vs, e, u.t a vs s, VRs.up u r⟩
  | .ref n, v, h => by
    unfold VR at h ⊢
    obtain ⟨a, e, s⟩ := h
    exact ⟨a, e, u.r n a s⟩
theorem VRs.up (u : Up K ρ H ρ' H') : ∀ {xs : List PV} {vs : List V}, VRs K ρ H xs vs → VRs K ρ' H' xs vs
  | [], _, h => h
  | x :: xs, vs, h => by
    unfold VRs at h ⊢
    obtain ⟨v, r, e, h1, h2⟩ := h
    exact ⟨v, r, e, VR.up u h1, VRs.up u h2⟩
end
theorem VR.int_iff {i : Int} {v : V} : VR K ρ H (.int i) v ↔ v = .int i := by unfold VR; exact Iff.rfl
theorem VR.bl_iff {b : Bool} {v : V} : VR K ρ H (.bl b) v ↔ v = .bl b := by unfold VR; exact Iff.rfl
theorem VR.str_iff {x : Str} {v : V} : VR K ρ H (.str x) v ↔ v = .str x := by unfold VR; exact Iff.rfl
theorem VR.non_iff {v : V} : VR K ρ H .non v ↔ v = .non := by unfold VR; exact Iff.rfl
theorem VR.tup_iff {xs : List PV} {v : V} : VR K ρ H (.tup xs) v ↔ ∃ a vs, v = .ref a ∧ SqT K H a vs ∧ VRs K ρ H xs vs := by rw [VR]
theorem VR.ref_iff {n : Nat} {v : V} : VR K ρ H (.ref n) v ↔ ∃ a, v = .ref a ∧ ρ[n]? = some a := by rw [VR]
theorem VRs.nil_iff {vs : List V} : VRs K ρ H [] vs ↔ vs = [] := by rw [VRs]
theorem VRs.cons_iff {x : PV} {xs : List PV} {vs : List V} : VRs K ρ H (x :: xs) vs ↔ ∃ v r, vs = v :: r ∧ VR K ρ H x v ∧ VRs K ρ H xs r := by rw [VRs]
theorem VRs.length : ∀ {xs : List PV} {vs : List V}, VRs K ρ H xs vs → vs.length = xs.length
  | [], _, h => by rw [VRs.nil_iff] at h; rw [h]; rfl
  | x :: xs, vs, h => by
    rw [VRs.cons_iff] at h
    obtain ⟨v, r, rfl, _, h2⟩ := h
    rw [List.length_cons, List.length_cons, VRs.length h2]
theorem VRs.get : ∀ {xs : List PV} {vs : List V} {i : Nat} {x : PV}, VRs K ρ H xs vs → xs[i]? = some x → ∃ v, vs[i]? = some v ∧ VR K ρ H x v
  | [], _, _, _, _, e => by simp at e
  | x :: xs, vs, 0, y, h, e => by
    rw [VRs.cons_iff] at h
    obtain ⟨v, r, rfl, h1, h2⟩ := h
    simp at e
    subst e
    exact ⟨v, rfl, h1⟩
  | x :: xs, vs, i + 1, y, h, e => by
    rw [VRs.cons_iff] at h
    obtain ⟨v, r, rfl, h1, h2⟩ := h
    obtain ⟨w, e1, e2⟩ := VRs.get (i := i) h2 (by simpa using e)
    exact ⟨w, by simpa using e1, e2⟩
theorem VRs.append : ∀ {xs ys : List PV} {vs ws : List V}, VRs K ρ H xs vs → VRs K ρ H ys ws → VRs K ρ H (xs ++ ys) (vs ++ ws)
  | [], ys, vs, ws, h, g => by rw [VRs.nil_iff] at h; rw [h]; exact g
  | x :: xs, ys, vs, ws, h, g => by
    rw [VRs.cons_iff] at h
    obtain ⟨v, r, rfl, h1, h2⟩ := h
    exact VRs.cons_iff.mpr ⟨v, r ++ ws, rfl, h1, VRs.append h2 g⟩
theorem VRs.set : ∀ {xs : List PV} {vs : List V} {x : PV} {v : V} (i : Nat), VRs K ρ H xs vs → VR K ρ H x v → VRs K ρ H (xs.set i x) (vs.set i v)
  | [], _, _, _, _, h, _ => by rw [VRs.nil_iff] at h; rw [h]; exact VRs.nil_iff.mpr rfl
  | x :: xs, vs, y, w, 0, h, g => by
    rw [VRs.cons_iff] at h
    obtain ⟨v, r, rfl, h1, h2⟩ := h
    exact VRs.cons_iff.mpr ⟨w, r, rfl, g, h2⟩
  | x :: xs, vs, y, w, i + 1, h, g => by
    rw [VRs.cons_iff] at h
    obtain ⟨v, r, rfl, h1, h2⟩ := h
    exact VRs.cons_iff.mpr ⟨v, r.set i w, rfl, h1, VRs.set i h2 g⟩
theorem VRs.take : ∀ {xs : List PV} {vs : List V} (n : Nat), VRs K ρ H xs vs → VRs K ρ H (xs.take n) (vs.take n)
  | _, _, 0, h => VRs.nil_iff.mpr rfl
  | [], _, n + 1, h => by rw [VRs.nil_iff] at h; rw [h]; exact VRs.nil_iff.mpr rfl
  | x :: xs, vs, n + 1, h => by
    rw [VRs.cons_iff] at h
    obtain ⟨v, r, rfl, h1, h2⟩ := h
    exact VRs.cons_iff.mpr ⟨v, r.take n, rfl, h1, VRs.take n h2⟩
theorem VRs.drop : ∀ {xs : List PV} {vs : List V} (n : Nat), VRs K ρ H xs vs → VRs K ρ H (xs.drop n) (vs.drop n)
  | _, _, 0, h => h
  | [], _, n + 1, h => by rw [VRs.nil_iff] at h; rw [h]; exact VRs.nil_iff.mpr rfl
  | x :: xs, vs, n + 1, h => by
    rw [VRs.cons_iff] at h
    obtain ⟨v, r, rfl, h1, h2⟩ := h
    exact VRs.drop n h2
theorem VRs.ints : ∀ {ns : List Int}, VRs K ρ H (ns.map .int) (ns.map V.int)
  | [] => VRs.nil_iff.mpr rfl
  | n :: ns => VRs.cons_iff.mpr ⟨_, _, rfl, VR.int_iff.mpr rfl, VRs.ints⟩

/-! ### the heap's steps -/
theorem sqt_upd {a b : Addr} {vs : List V} {o : HO} (h : SqT K H a vs) (hb : ∀ xs, H b ≠ some (.tup xs)) (hf : ∀ u xs, H b ≠ some (.frz u (.tup xs))) : SqT K (upd H b o) a vs := by
  rcases h with h | h
  · refine .inl ?_
    rcases h with h | ⟨u, h⟩
    · exact .inl (by rw [upd_ne (fun e => hb vs (by rw [← e]; exact h))]; exact h)
    · exact .inr ⟨u, by rw [upd_ne (fun e => hf u vs (by rw [← e]; exact h))]; exact h⟩
  · exact .inr h
theorem sql_upd {a b : Addr} {vs : List V} {o : HO} (h : SqL K H a vs) (hn : a ≠ b) : SqL K (upd H b o) a vs := by
  rcases h with h | h
  · refine .inl ?_
    rcases h with h | ⟨u, h⟩
    · exact .inl (by rw [upd_ne hn]; exact h)
    · exact .inr ⟨u, by rw [upd_ne hn]; exact h⟩
  · exact .inr h
theorem sql_new {a b : Addr} {vs : List V} {o : HO} (h : SqL K H a vs) (hb : H b = none) : SqL K (upd H b o) a vs := by
  rcases h with h | h
  · refine .inl ?_
    rcases h with h | ⟨u, h⟩
    · exact .inl (by rw [upd_ne (ne_of_none h hb)]; exact h)
    · exact .inr ⟨u, by rw [upd_ne (ne_of_none h hb)]; exact h⟩
  · exact .inr h
theorem up_new {b : Addr} {o : HO} (hb : H b = none) : Up K ρ H ρ (upd H b o) :=
  ⟨fun a vs h => sqt_upd h (fun xs e => by rw [hb] at e; cases e) (fun u xs e => by rw [hb] at e; cases e), fun _ _ h => h⟩
theorem CR.new {b : Addr} {o : HO} {c : Cell} {a : Addr} (hb : H b = none) (h : CR K ρ H c a) : CR K ρ (upd H b o) c a := by
  cases c with
  | lst xs =>
    obtain ⟨vs, h1, h2⟩ := h
    exact ⟨vs, by rw [upd_ne (ne_of_none h1 hb)]; exact h1, h2.up (up_new hb)⟩
  | rol xs =>
    obtain ⟨vs, h1, h2⟩ := h
    refine ⟨vs, ?_, h2.up (up_new hb)⟩
    rcases h1 with ⟨o', h1⟩ | h1
    · exact .inl ⟨o', by rw [upd_ne (ne_of_none h1 hb)]; exact h1⟩
    · exact .inr h1
  | dk kvs =>
    obtain ⟨vs, h1, h2⟩ := h
    exact ⟨vs, by rw [upd_ne (ne_of_none h1 hb)]; exact h1, h2.up (up_new hb)⟩
/-- a tuple is made -/
theorem SR.new {st : Store} {b : Addr} {o : HO} (hb : H b = none) (S : SR K ρ H st) : SR K ρ (upd H b o) st :=
  ⟨S.len, S.nd, S.nk, fun n c a h1 h2 => (S.cel n c a h1 h2).new hb⟩
theorem VR.mk_tup {b : Addr} {xs : List PV} {vs : List V} (hb : H b = none) (h : VRs K ρ H xs vs) : VR K ρ (upd H b (.tup vs)) (.tup xs) (.ref b) :=
  VR.tup_iff.mpr ⟨b, vs, rfl, .inl (.inl upd_same), h.up (up_new hb)⟩
theorem up_app {b : Addr} {o : HO} (hb : H b = none) : Up K ρ H (ρ ++ [b]) (upd H b o) :=
  ⟨(up_new (ρ := ρ) hb).t, fun n a h => by rw [List.getElem?_append_left (List.getElem?_eq_some_iff.mp h).1]; exact h⟩
theorem CR.up_ρ {c : Cell} {a : Addr} (u : Up K ρ H ρ' H) (h : CR K ρ H c a) : CR K ρ' H c a := by
  cases c with
  | lst xs => obtain ⟨vs, h1, h2⟩ := h; exact ⟨vs, h1, h2.up u⟩
  | rol xs => obtain ⟨vs, h1, h2⟩ := h; exact ⟨vs, h1, h2.up u⟩
  | dk kvs => obtain ⟨vs, h1, h2⟩ := h; exact ⟨vs, h1, h2.up u⟩
theorem SR.get {st : Store} {n : Nat} {c : Cell} (S : SR K ρ H st) (h : st[n]? = some c) : ∃ a, ρ[n]? = some a ∧ CR K ρ H c a := by
  have h1 : n < ρ.length := by rw [S.len]; exact (List.getElem?_eq_some_iff.mp h).1
  exact ⟨ρ[n], List.getElem?_eq_getElem h1, S.cel n c _ h (List.getElem?_eq_getElem h1)⟩
theorem SR.getL {st : Store} {n : Nat} {xs : List PV} (S : SR K ρ H st) (h : st[n]? = some (.lst xs)) : ∃ a vs, ρ[n]? = some a ∧ H a = some (.lst vs) ∧ VRs K ρ H xs vs := by
  obtain ⟨a, h1, vs, h2, h3⟩ := S.get h
  exact ⟨a, vs, h1, h2, h3⟩
theorem app_get {α : Type} {l : List α} {c x : α} {n : Nat} (h : (l ++ [c])[n]? = some x) : (n < l.length ∧ l[n]? = some x) ∨ (n = l.length ∧ x = c) := by
  by_cases hn : n < l.length
  · rw [List.getElem?_append_left hn] at h
    exact .inl ⟨hn, h⟩
  · have e' : n = l.length := by
      have := (List.getElem?_eq_some_iff.mp h).1
      rw [List.length_append] at this
      simp at this
      omega
    subst e'
    simp at h
    exact .inr ⟨rfl, h.symm⟩
theorem SR.at_app {st : Store} {b a : Addr} {c x : Cell} {n : Nat} (S : SR K ρ H st) (h : (st ++ [c])[n]? = some x) (e : (ρ ++ [b])[n]? = some a) : (n < st.length ∧ st[n]? = some x ∧ ρ[n]? = some a) ∨ (n = st.length ∧ x = c ∧ a = b) := by
  rcases app_get h with ⟨h1, h2⟩ | ⟨h1, h2⟩
  · exact .inl ⟨h1, h2, by rw [List.getElem?_append_left (by rw [S.len]; exact h1)] at e; exact e⟩
  · subst h1
    rw [← S.len] at e
    simp at e
    exact .inr ⟨rfl, h2, e.symm⟩
theorem SR.pushC {st : Store} {b : Addr} {c : Cell} {o : HO} (hb : H b = none) (S : SR K ρ H st) (h : CR K (ρ ++ [b]) (upd H b o) c b) : SR K (ρ ++ [b]) (upd H b o) (st ++ [c]) := by
  have fresh : ∀ {n : Nat} {a : Addr} {x : Cell}, st[n]? = some x → ρ[n]? = some a → (∀ ys, x ≠ .rol ys) → a ≠ b := by
    intro n a x h1 h2 nr z
    have q := S.cel n x a h1 h2
    cases x with
    | lst ys => obtain ⟨vs, q, _⟩ := q; rw [z, hb] at q; cases q
    | rol ys => exact nr ys rfl
    | dk ys => obtain ⟨vs, q, _⟩ := q; rw [z, hb] at q; cases q
  refine ⟨by rw [List.length_append, List.length_append, S.len]; rfl, ?_, ?_, fun n x a h1 h2 => ?_⟩
  · intro n m a xs' ys' h1 h2 e1 e2
    rcases S.at_app h1 e1 with ⟨_, p1, p2⟩ | ⟨p0, p1, p2⟩ <;> rcases S.at_app h2 e2 with ⟨_, q1, q2⟩ | ⟨q0, q1, q2⟩
    · exact S.nd n m a _ _ p1 q1 p2 q2
    · exact absurd q2 (fresh p1 p2 (fun _ z => by cases z))
    · exact absurd p2 (fresh q1 q2 (fun _ z => by cases z))
    · rw [p0, q0]
  · intro n m a xs' ys' h1 h2 e1 e2
    rcases S.at_app h1 e1 with ⟨_, p1, p2⟩ | ⟨p0, p1, p2⟩ <;> rcases S.at_app h2 e2 with ⟨_, q1, q2⟩ | ⟨q0, q1, q2⟩
    · exact S.nk n m a _ _ p1 q1 p2 q2
    · exact absurd q2 (fresh p1 p2 (fun _ z => by cases z))
    · exact absurd p2 (fresh q1 q2 (fun _ z => by cases z))
    · rw [p0, q0]
  · rcases S.at_app h1 h2 with ⟨_, p1, p2⟩ | ⟨p0, p1, p2⟩
    · exact CR.up_ρ ⟨fun _ _ h => h, (up_app (K := K) (o := o) hb).r⟩ ((S.cel n x a p1 p2).new hb)
    · rw [p1, p2]; exact h
/-- a list is made -/
theorem SR.push {st : Store} {b : Addr} {xs : List PV} {vs : List V} (hb : H b = none) (S : SR K ρ H st) (h : VRs K ρ H xs vs) : SR K (ρ ++ [b]) (upd H b (.lst vs)) (st ++ [.lst xs]) := S.pushC hb ⟨vs, upd_same, h.up (up_app hb)⟩
/-- a dict is made -/
theorem SR.pushK {st : Store} {b : Addr} {kvs : List (Key × PV)} {vs : List V} (hb : H b = none) (S : SR K ρ H st) (h : VRs K ρ H (kvs.map (·.2)) vs) : SR K (ρ ++ [b]) (upd H b (.dK ((kvs.map (·.1)).zip vs))) (st ++ [.dk kvs]) := S.pushC hb ⟨vs, upd_same, h.up (up_app hb)⟩
theorem up_write {b : Addr} {ys zs : List V} (hb : H b = some (.lst ys)) : Up K ρ H ρ (upd H b (.lst zs)) :=
  ⟨fun a vs h => sqt_upd h (fun xs e => by rw [hb] at e; cases e) (fun u xs e => by rw [hb] at e; cases e), fun _ _ h => h⟩
theorem set_get {α : Type} {l : List α} {m n : Nat} {c x : α} (h : (l.set m c)[n]? = some x) : (n = m ∧ x = c) ∨ (n ≠ m ∧ l[n]? = some x) := by
  by_cases hn : n = m
  · subst hn
    have hs : n < l.length := by have := (List.getElem?_eq_some_iff.mp h).1; rw [List.length_set] at this; exact this
    rw [List.getElem?_set_self hs] at h
    exact .inl ⟨rfl, (Option.some.inj h).symm⟩
  · rw [List.getElem?_set_ne (Ne.symm hn)] at h
    exact .inr ⟨hn, h⟩
/-- a list is written -/
theorem SR.write {st : Store} {m : Nat} {b : Addr} {xs : List PV} {ys vs : List V} {zs : List PV} (S : SR K ρ H st) (hz : st[m]? = some (.lst zs)) (hm : ρ[m]? = some b) (hb : H b = some (.lst ys)) (h : VRs K ρ H xs vs) : SR K ρ (upd H b (.lst vs)) (st.set m (.lst xs)) := by
  refine ⟨by rw [List.length_set]; exact S.len, fun n k a x y h1 h2 e1 e2 => ?_, fun n k a x y h1 h2 e1 e2 => ?_, fun n c a h1 h2 => ?_⟩
  · have old : ∀ (n : Nat) xs', (st.set m (.lst xs))[n]? = some (.lst xs') → ∃ ys', st[n]? = some (.lst ys') := by
      intro n xs' h
      rcases set_get h with ⟨rfl, _⟩ | ⟨_, h⟩
      · exact ⟨zs, hz⟩
      · exact ⟨xs', h⟩
    obtain ⟨_, p1⟩ := old n x h1
    obtain ⟨_, p2⟩ := old k y h2
    exact S.nd n k a _ _ p1 p2 e1 e2
  · rcases set_get h1 with ⟨_, z⟩ | ⟨_, p1⟩
    · cases z
    · rcases set_get h2 with ⟨_, z⟩ | ⟨_, p2⟩
      · cases z
      · exact S.nk n k a _ _ p1 p2 e1 e2
  · rcases set_get h1 with ⟨rfl, rfl⟩ | ⟨hn, h1⟩
    · rw [hm] at h2; cases h2
      exact ⟨vs, upd_same, h.up (up_write hb)⟩
    · have q := S.cel n c a h1 h2
      cases c with
      | lst xs =>
        have hab : a ≠ b := fun e => hn (S.nd n m a _ _ h1 hz h2 (by rw [e]; exact hm))
        obtain ⟨vs, q1, q2⟩ := q
        exact ⟨vs, by rw [upd_ne hab]; exact q1, q2.up (up_write hb)⟩
      | rol xs =>
        obtain ⟨vs, q1, q2⟩ := q
        refine ⟨vs, ?_, q2.up (up_write hb)⟩
        rcases q1 with ⟨o', q1⟩ | q1
        · exact .inl ⟨o', by rw [upd_ne (ne_of q1 hb (fun z => by cases z))]; exact q1⟩
        · exact .inr q1
      | dk kvs =>
        obtain ⟨vs, q1, q2⟩ := q
        exact ⟨vs, by rw [upd_ne (ne_of q1 hb (fun z => by cases z))]; exact q1, q2.up (up_write hb)⟩
theorem up_writeK {b : Addr} {ys zs : List (Key × V)} (hb : H b = some (.dK ys)) : Up K ρ H ρ (upd H b (.dK zs)) :=
  ⟨fun a vs h => sqt_upd h (fun xs e => by rw [hb] at e; cases e) (fun u xs e => by rw [hb] at e; cases e), fun _ _ h => h⟩
/-- a dict is written -/
theorem SR.writeK {st : Store} {m : Nat} {b : Addr} {kvs : List (Key × PV)} {ys : List (Key × V)} {vs : List V} {zs : List (Key × PV)} (S : SR K ρ H st) (hz : st[m]? = some (.dk zs)) (hm : ρ[m]? = some b) (hb : H b = some (.dK ys)) (h : VRs K ρ H (kvs.map (·.2)) vs) : SR K ρ (upd H b (.dK ((kvs.map (·.1)).zip vs))) (st.set m (.dk kvs)) := by
  refine ⟨by rw [List.length_set]; exact S.len, fun n k a x y h1 h2 e1 e2 => ?_, fun n k a x y h1 h2 e1 e2 => ?_, fun n c a h1 h2 => ?_⟩
  · rcases set_get h1 with ⟨_, z⟩ | ⟨_, p1⟩
    · cases z
    · rcases set_get h2 with ⟨_, z⟩ | ⟨_, p2⟩
      · cases z
      · exact S.nd n k a _ _ p1 p2 e1 e2
  · have old : ∀ (n : Nat) xs', (st.set m (.dk kvs))[n]? = some (.dk xs') → ∃ ys', st[n]? = some (.dk ys') := by
      intro n xs' h
      rcases set_get h with ⟨rfl, _⟩ | ⟨_, h⟩
      · exact ⟨zs, hz⟩
      · exact ⟨xs', h⟩
    obtain ⟨_, p1⟩ := old n x h1
    obtain ⟨_, p2⟩ := old k y h2
    exact S.nk n k a _ _ p1 p2 e1 e2
  · rcases set_get h1 with ⟨rfl, rfl⟩ | ⟨hn, h1⟩
    · rw [hm] at h2; cases h2
      exact ⟨vs, upd_same, h.up (up_writeK hb)⟩
    · have q := S.cel n c a h1 h2
      cases c with
      | lst xs =>
        obtain ⟨vs, q1, q2⟩ := q
        exact ⟨vs, by rw [upd_ne (ne_of q1 hb (fun z => by cases z))]; exact q1, q2.up (up_writeK hb)⟩
      | rol xs =>
        obtain ⟨vs, q1, q2⟩ := q
        refine ⟨vs, ?_, q2.up (up_writeK hb)⟩
        rcases q1 with ⟨o', q1⟩ | q1
        · exact .inl ⟨o', by rw [upd_ne (ne_of q1 hb (fun z => by cases z))]; exact q1⟩
        · exact .inr q1
      | dk ks =>
        have hab : a ≠ b := fun e => hn (S.nk n m a _ _ h1 hz h2 (by rw [e]; exact hm))
        obtain ⟨vs, q1, q2⟩ := q
        exact ⟨vs, by rw [upd_ne hab]; exact q1, q2.up (up_writeK hb)⟩
theorem SR.getK {st : Store} {n : Nat} {kvs : List (Key × PV)} (S : SR K ρ H st) (h : st[n]? = some (.dk kvs)) : ∃ a vs, ρ[n]? = some a ∧ H a = some (.dK ((kvs.map (·.1)).zip vs)) ∧ VRs K ρ H (kvs.map (·.2)) vs := by
  obtain ⟨a, h1, vs, h2, h3⟩ := S.get h
  exact ⟨a, vs, h1, h2, h3⟩
end
end Sm

namespace Sm
open PySem PySem.Spec PyProof.Rows L2

inductive Res (α : Type) where
  | ok (a : α) (st : Store) | exc (c : Nat) (fs : List (Str × PV)) (st : Store) | no
namespace Res
def bind {α β : Type} : Res α → (α → Store → Res β) → Res β
  | .ok a st, f => f a st
  | .exc c fs st, _ => .exc c fs st
  | .no, _ => .no
end Res
/-- slots: none stands for anything -/
abbrev Slots := List (Option PV)
abbrev ME := Slots → Store → Res PV
abbrev MT := Slots → Store → Res Bool
abbrev MA := Slots → Store → Res (List PV)

/-- what is fixed: the written part, the exceptions' classes, what is wanted of what is raised -/
structure Wc where
  K : PySem.W.Frag
  cl : Nat → Addr
  W : Value → Option Addr → L2.St → Hp → Prop
def SlR (K : PySem.W.Frag) (ρ : List Addr) (H : Hp) (σh : Slots) (σ : L2.St) : Prop :=
  σh.length = σ.length ∧ ∀ (i : Nat) (x : PV), σh[i]? = some (some x) → ∃ v, σ[i]? = some (some v) ∧ VR K ρ H x v
/-- what is wanted behind -/
def Post {α : Type} (C : Wc) (ρ : List Addr) (H : Hp) (σ : L2.St) (B : List Addr → Hp → α → Prop) : Res α → Prop
  | .ok r st => ∀ ρ' H', Up C.K ρ H ρ' H' → SR C.K ρ' H' st → B ρ' H' r
  | .exc c fs st => ∀ ρ' H' d vs, Up C.K ρ H ρ' H' → SR C.K ρ' H' st → VRs C.K ρ' H' (fs.map (·.2)) vs → H' d = some (.xd ((fs.map (·.1)).zip vs)) → C.W (.ref (C.cl c)) (some d) σ H'
  | .no => False
section
variable {α β : Type} {C : Wc} {ρ ρ' ρ'' : List Addr} {H H' : Hp} {σ : L2.St} {st : Store} {K : PySem.W.Frag}
theorem Post.up {B : List Addr → Hp → α → Prop} {m : Res α} (u : Up C.K ρ H ρ' H') (h : Post C ρ H σ B m) : Post C ρ' H' σ B m := by
  cases m with
  | ok r st => exact fun a b c d => h a b (u.trans c) d
  | exc c fs st => exact fun a b d vs q => h a b d vs (u.trans q)
  | no => exact h
theorem Post.imp {B B' : List Addr → Hp → α → Prop} {m : Res α} (h : Post C ρ H σ B m) (f : ∀ ρ' H' r st, m = .ok r st → Up C.K ρ H ρ' H' → SR C.K ρ' H' st → B ρ' H' r → B' ρ' H' r) : Post C ρ H σ B' m := by
  cases m with
  | ok r st => exact fun a b c d => f a b r st rfl c d (h a b c d)
  | exc c fs st => exact h
  | no => exact h
theorem Post.bind {B : List Addr → Hp → β → Prop} {m : Res α} {f : α → Store → Res β} (h : Post C ρ H σ B (m.bind f)) :
    Post C ρ H σ (fun ρ' H' a => ∃ st, SR C.K ρ' H' st ∧ Post C ρ' H' σ B (f a st)) m := by
  cases m with
  | ok r st => exact fun a b c d => ⟨st, d, Post.up c h⟩
  | exc c fs st => exact h
  | no => exact h
theorem SlR.up {σh : Slots} (u : Up K ρ H ρ' H') (h : SlR K ρ H σh σ) : SlR K ρ' H' σh σ := ⟨h.1, fun i x e => by
  obtain ⟨v, e1, e2⟩ := h.2 i x e
  exact ⟨v, e1, e2.up u⟩⟩
theorem SlR.set {σh : Slots} {x : PV} {v : V} (i : Nat) (h : SlR K ρ H σh σ) (r : VR K ρ H x v) : SlR K ρ H (σh.set i (some x)) (σ.set i (some v)) := ⟨by rw [List.length_set, List.length_set]; exact h.1, fun j y e => by
  by_cases hj : j = i
  · subst hj
    have hl : j < σh.length := by have := (List.getElem?_eq_some_iff.mp e).1; rw [List.length_set] at this; exact this
    rw [List.getElem?_set_self hl] at e
    cases e
    exact ⟨v, by rw [List.getElem?_set_self (by rw [← h.1]; exact hl)], r⟩
  · rw [List.getElem?_set_ne (Ne.symm hj)] at e
    obtain ⟨w, e1, e2⟩ := h.2 j y e
    exact ⟨w, by rw [List.getElem?_set_ne (Ne.symm hj)]; exact e1, e2⟩⟩
end
/-- an expression's reading -/
def tE (C : Wc) (m : ME) : TE := fun σ H Q => ∃ ρ st σh, SR C.K ρ H st ∧ SlR C.K ρ H σh σ ∧ Post C ρ H σ (fun ρ' H' r => ∀ v, VR C.K ρ' H' r v → Q v H') (m σh st)
def tT (C : Wc) (m : MT) : TT := fun σ H Q => ∃ ρ st σh, SR C.K ρ H st ∧ SlR C.K ρ H σh σ ∧ Post C ρ H σ (fun _ H' r => Q r H') (m σh st)
def tA (C : Wc) (m : MA) : TA := fun σ H Q => ∃ ρ st σh, SR C.K ρ H st ∧ SlR C.K ρ H σh σ ∧ Post C ρ H σ (fun ρ' H' r => ∀ vs, VRs C.K ρ' H' r vs → Q vs H') (m σh st)

section
variable {X : Cx} {C : Wc}
theorem _root_.L2.PE.weak {e : Expr} {t t' : TE} (h : PE X e t) (w : ∀ σ H Q, t' σ H Q → t σ H Q) : PE X e t' := ⟨fun pins s σ H Q I q => h.run pins s σ H Q I (w σ H Q q)⟩
theorem _root_.L2.PT.weak {e : Expr} {t t' : TT} (h : PT X e t) (w : ∀ σ H Q, t' σ H Q → t σ H Q) : PT X e t' := ⟨fun pins s σ H Q I q => h.run pins s σ H Q I (w σ H Q q)⟩
theorem _root_.L2.PW.weak {e : Expr} {t t' : TT} (h : PW X e t) (w : ∀ σ H Q, t' σ H Q → t σ H Q) : PW X e t' := ⟨fun wh pins s σ H Q I q => h.run wh pins s σ H Q I (w σ H Q q)⟩
theorem _root_.L2.PA.weak {e : List Expr} {t t' : TA} (h : PA X e t) (w : ∀ σ H Q, t' σ H Q → t σ H Q) : PA X e t' := ⟨fun pos pins s σ H Q I q => h.run pos pins s σ H Q I (w σ H Q q)⟩

/-! ### names, constants -/
def mVar (i : Nat) : ME := fun σ st => match σ[i]? with
  | some (some x) => .ok x st
  | _ => .no
def mC (x : PV) : ME := fun _ st => .ok x st
theorem e_var (i : Nat) {x : Str} {pos : Pos} (hN : X.N[i]? = some x := by rfl) (hv : Vis X.env.scope x := by first | exact Or.inl rfl | exact Or.inr (Or.inl rfl) | exact Or.inr (Or.inr rfl)) (hd : (x == ("__debug__" : Str)) = false := by decide)
    (hcd : (x == ("__classdict__" : Str)) = false := by decide) : PE X (.Name x pos) (tE C (mVar i)) := (pe_var hN hv hd hcd).weak fun σ H Q ⟨ρ, st, σh, S, R, p⟩ => by
  unfold mVar at p
  cases e : σh[i]? with
  | none => rw [e] at p; exact p.elim
  | some o =>
    cases o with
    | none => rw [e] at p; exact p.elim
    | some x =>
      rw [e] at p
      obtain ⟨v, h1, h2⟩ := R.2 i x e
      exact ⟨v, h1, p ρ H Up.refl S v h2⟩
theorem e_c {e : Expr} {x : PV} {v : V} (h : PE X e (tC v)) (r : ∀ ρ H, VR C.K ρ H x v) : PE X e (tE C (mC x)) := h.weak fun σ H Q ⟨ρ, st, σh, S, R, p⟩ => p ρ H Up.refl S v (r ρ H)
theorem e_int {i j pos} : PE X (.Constant (.int i) j pos) (tE C (mC (.int i))) := e_c pe_int fun _ _ => VR.int_iff.mpr rfl
theorem e_bl {b j pos} : PE X (.Constant (.bool b) j pos) (tE C (mC (.bl b))) := e_c pe_bl fun _ _ => VR.bl_iff.mpr rfl
theorem e_non {j pos} : PE X (.Constant .none j pos) (tE C (mC .non)) := e_c pe_non fun _ _ => VR.non_iff.mpr rfl
theorem e_str {x j pos} : PE X (.Constant (.str x) j pos) (tE C (mC (.str x))) := e_c pe_str fun _ _ => VR.str_iff.mpr rfl

/-! ### operations on two values -/
abbrev M2 := PV → PV → Store → Res PV
def mOp (f : M2) (a b : ME) : ME := fun σ st => (a σ st).bind fun x s1 => (b σ s1).bind fun y s2 => f x y s2
/-- W is not asked: an operation raises nothing -/
def rS (K : PySem.W.Frag) (f : M2) : R2 := fun x y H Q => ∃ ρ st xh yh, SR K ρ H st ∧ VR K ρ H xh x ∧ VR K ρ H yh y ∧ ∃ r st', f xh yh st = .ok r st' ∧ ∀ ρ' H' v, Up K ρ H ρ' H' → SR K ρ' H' st' → VR K ρ' H' r v → Q v H'
def Calm2 (f : M2) : Prop := ∀ x y st c fs st', f x y st ≠ .exc c fs st'
theorem op_run {f : M2} (hf : Calm2 f) {a b : ME} {σ : L2.St} {H : Hp} {Q : VK} (h : tE C (mOp f a b) σ H Q) : tOp (rS C.K f) (tE C a) (tE C b) σ H Q := by
  obtain ⟨ρ, st, σh, S, R, p⟩ := h
  refine ⟨ρ, st, σh, S, R, (Post.bind p).imp fun ρ1 H1 x s1 _ u1 S1 ⟨s1', S1', p1⟩ v hv => ?_⟩
  refine ⟨ρ1, s1', σh, S1', R.up u1, (Post.bind p1).imp fun ρ2 H2 y s2 _ u2 S2 ⟨s2', S2', p2⟩ w hw => ?_⟩
  refine ⟨ρ2, s2', x, y, S2', hv.up u2, hw, ?_⟩
  cases e : f x y s2' with
  | ok r st' =>
    rw [e] at p2
    exact ⟨r, st', rfl, fun ρ' H' v u S' r' => p2 ρ' H' u S' v r'⟩
  | exc c fs st' => exact absurd e (hf x y s2' c fs st')
  | no => rw [e] at p2; exact p2.elim
theorem e_op {op : Operator} {f : M2} {a b : Expr} {ma mb : ME} {pos : Pos} (hf : Calm2 f) (ho : OpR X (binaryOp op) (rS C.K f)) (ha : PE X a (tE C ma)) (hb : PE X b (tE C mb)) : PE X (.BinOp a op b pos) (tE C (mOp f ma mb)) :=
  (pe_op ho ha hb).weak fun _ _ _ h => op_run hf h
theorem e_cmp {op : CmpOp} {f : M2} {a b : Expr} {ma mb : ME} {pos : Pos} (hf : Calm2 f) (ho : OpR X (compareOp op) (rS C.K f)) (ha : PE X a (tE C ma)) (hb : PE X b (tE C mb)) (hm : behindInMarks op b = false) : PE X (.Compare a [op] [b] pos) (tE C (mOp f ma mb)) :=
  (pe_cmpR ho ha hb hm).weak fun _ _ _ h => op_run hf h
def mTest (a : ME) : MT := fun σ st => (a σ st).bind fun x s1 => match x with
  | .bl b => .ok b s1
  | _ => .no
theorem test_run {a : ME} {σ : L2.St} {H : Hp} {Q : Bool → Hp → Prop} {t : TE} (ht : ∀ σ H Q, tE C a σ H Q → t σ H Q) (h : tT C (mTest a) σ H Q) : tTest t σ H Q := by
  obtain ⟨ρ, st, σh, S, R, p⟩ := h
  refine ht _ _ _ ⟨ρ, st, σh, S, R, (Post.bind p).imp fun ρ1 H1 x s1 _ u1 S1 ⟨s1', S1', p1⟩ v hv => ?_⟩
  cases x with
  | bl b =>
    rw [VR.bl_iff] at hv
    exact ⟨b, hv, p1 ρ1 H1 Up.refl S1'⟩
  | _ => exact p1.elim
theorem t_cmp {op : CmpOp} {f : M2} {a b : Expr} {ma mb : ME} {pos : Pos} (hf : Calm2 f) (ho : OpR X (compareOp op) (rS C.K f)) (ha : PE X a (tE C ma)) (hb : PE X b (tE C mb)) (hm : behindInMarks op b = false) : PT X (.Compare a [op] [b] pos) (tT C (mTest (mOp f ma mb))) :=
  (pt_cmpR ho ha hb hm).weak fun _ _ _ h => test_run (fun _ _ _ q => op_run hf q) h
/-- a < b < c -/
def mChain (f g : M2) (a b c : ME) : ME := fun σ st => (a σ st).bind fun x s1 => (b σ s1).bind fun y s2 => (f x y s2).bind fun z s3 => match z with
  | .bl true => (c σ s3).bind fun w s4 => g y w s4
  | .bl false => .ok (.bl false) s3
  | _ => .no
theorem chain_run {f g : M2} (hf : Calm2 f) (hg : Calm2 g) {a b c : ME} {σ : L2.St} {H : Hp} {Q : VK} (h : tE C (mChain f g a b c) σ H Q) : tChain (rS C.K f) (rS C.K g) (tE C a) (tE C b) (tE C c) σ H Q := by
  obtain ⟨ρ, st, σh, S, R, p⟩ := h
  refine ⟨ρ, st, σh, S, R, (Post.bind p).imp fun ρ1 H1 x s1 _ u1 S1 ⟨s1', S1', p1⟩ v hv => ?_⟩
  refine ⟨ρ1, s1', σh, S1', R.up u1, (Post.bind p1).imp fun ρ2 H2 y s2 _ u2 S2 ⟨s2', S2', p2⟩ w hw => ?_⟩
  refine ⟨ρ2, s2', x, y, S2', hv.up u2, hw, ?_⟩
  cases e : f x y s2' with
  | exc c fs st' => exact absurd e (hf x y s2' c fs st')
  | no => rw [e] at p2; exact p2.elim
  | ok r st' =>
    rw [e] at p2
    refine ⟨r, st', rfl, fun ρ3 H3 z u3 S3 r3 => ?_⟩
    have p3 := Post.up u3 p2
    cases r with
    | bl b =>
      rw [VR.bl_iff] at r3
      refine ⟨b, r3, ?_⟩
      cases b with
      | false => exact iteF (p3 ρ3 H3 Up.refl S3 _ (VR.bl_iff.mpr rfl))
      | true =>
        refine iteT ?_
        have p3' : Post C ρ3 H3 σ (fun ρ' H' r => ∀ v, VR C.K ρ' H' r v → Q v H') ((c σh st').bind fun w s4 => g y w s4) := p3
        refine ⟨ρ3, st', σh, S3, R.up (u1.trans (u2.trans u3)), (Post.bind p3').imp fun ρ4 H4 w' s4 _ u4 S4 ⟨s4', S4', p4⟩ v' hv' => ?_⟩
        refine ⟨ρ4, s4', y, w', S4', hw.up (u3.trans u4), hv', ?_⟩
        cases e : g y w' s4' with
        | ok r st' => rw [e] at p4; exact ⟨r, st', rfl, fun ρ' H' v u S' r' => p4 ρ' H' u S' v r'⟩
        | exc c fs st' => exact absurd e (hg y w' s4' c fs st')
        | no => rw [e] at p4; exact p4.elim
    | _ => exact p3.elim
theorem e_chain {op op' : CmpOp} {f g : M2} {a b c : Expr} {ma mb mc : ME} {pos : Pos} (hf : Calm2 f) (hg : Calm2 g) (ho : OpR X (compareOp op) (rS C.K f)) (ho' : OpR X (compareOp op') (rS C.K g)) (ha : PE X a (tE C ma)) (hb : PE X b (tE C mb)) (hc : PE X c (tE C mc)) (hm : lastMarks [op, op'] [b, c] = false := by rfl) :
    PE X (.Compare a [op, op'] [b, c] pos) (tE C (mChain f g ma mb mc)) := (pe_chain ho ho' ha hb hc hm).weak fun _ _ _ h => chain_run hf hg h
theorem t_chain {op op' : CmpOp} {f g : M2} {a b c : Expr} {ma mb mc : ME} {pos : Pos} (hf : Calm2 f) (hg : Calm2 g) (ho : OpR X (compareOp op) (rS C.K f)) (ho' : OpR X (compareOp op') (rS C.K g)) (ha : PE X a (tE C ma)) (hb : PE X b (tE C mb)) (hc : PE X c (tE C mc)) (hm : lastMarks [op, op'] [b, c] = false := by rfl) :
    PT X (.Compare a [op, op'] [b, c] pos) (tT C (mTest (mChain f g ma mb mc))) := (pt_chain ho ho' ha hb hc hm).weak fun _ _ _ h => test_run (fun _ _ _ q => chain_run hf hg q) h

/-! ### and, or, not, if -/
def mAndT (a b : MT) : MT := fun σ st => (a σ st).bind fun c s1 => if c = true then b σ s1 else .ok false s1
def mOrT (a b : MT) : MT := fun σ st => (a σ st).bind fun c s1 => if c = true then .ok true s1 else b σ s1
def mNotT (a : MT) : MT := fun σ st => (a σ st).bind fun c s1 => .ok (!c) s1
theorem and_run {a b : MT} {σ : L2.St} {H : Hp} {Q : Bool → Hp → Prop} (h : tT C (mAndT a b) σ H Q) : tAnd (tT C a) (tT C b) σ H Q := by
  obtain ⟨ρ, st, σh, S, R, p⟩ := h
  refine ⟨ρ, st, σh, S, R, (Post.bind p).imp fun ρ1 H1 c s1 _ u1 S1 ⟨s1', S1', p1⟩ => ?_⟩
  cases c with
  | true => exact iteT ⟨ρ1, s1', σh, S1', R.up u1, p1⟩
  | false => exact iteF (p1 ρ1 H1 Up.refl S1')
theorem or_run {a b : MT} {σ : L2.St} {H : Hp} {Q : Bool → Hp → Prop} (h : tT C (mOrT a b) σ H Q) : tOr (tT C a) (tT C b) σ H Q := by
  obtain ⟨ρ, st, σh, S, R, p⟩ := h
  refine ⟨ρ, st, σh, S, R, (Post.bind p).imp fun ρ1 H1 c s1 _ u1 S1 ⟨s1', S1', p1⟩ => ?_⟩
  cases c with
  | false => exact iteF ⟨ρ1, s1', σh, S1', R.up u1, p1⟩
  | true => exact iteT (p1 ρ1 H1 Up.refl S1')
section
variable {a b c : Expr} {rest : List Expr} {ma mb mc : MT} {pos : Pos}
theorem w_and1 (ha : PT X a (tT C ma)) : PW X (.BoolOp .And [a] pos) (tT C ma) := pw_and1 ha
theorem w_or1 (ha : PT X a (tT C ma)) : PW X (.BoolOp .Or [a] pos) (tT C ma) := pw_or1 ha
theorem w_and (ha : PT X a (tT C ma)) (hb : PW X (.BoolOp .And (b :: rest) pos) (tT C mb)) : PW X (.BoolOp .And (a :: b :: rest) pos) (tT C (mAndT ma mb)) := (pw_and ha hb).weak fun _ _ _ h => and_run h
theorem w_or (ha : PT X a (tT C ma)) (hb : PW X (.BoolOp .Or (b :: rest) pos) (tT C mb)) : PW X (.BoolOp .Or (a :: b :: rest) pos) (tT C (mOrT ma mb)) := (pw_or ha hb).weak fun _ _ _ h => or_run h
theorem t_w (h : PW X a (tT C ma)) : PT X a (tT C ma) := h.pt
theorem t_not (ha : PT X a (tT C ma)) : PT X (.UnaryOp .Not a pos) (tT C (mNotT ma)) := (pt_not ha).weak fun σ H Q ⟨ρ, st, σh, S, R, p⟩ =>
  ⟨ρ, st, σh, S, R, (Post.bind p).imp fun ρ1 H1 c s1 _ u1 S1 ⟨s1', S1', p1⟩ => p1 ρ1 H1 Up.refl S1'⟩
end
/-- as values -/
def mAndV (a b : ME) : ME := fun σ st => (a σ st).bind fun x s1 => match x with
  | .bl c => if c = true then b σ s1 else .ok (.bl false) s1
  | _ => .no
def mOrV (a b : ME) : ME := fun σ st => (a σ st).bind fun x s1 => match x with
  | .bl c => if c = true then .ok (.bl true) s1 else b σ s1
  | _ => .no
def mNotV (a : ME) : ME := fun σ st => (a σ st).bind fun x s1 => match x with
  | .bl c => .ok (.bl (!c)) s1
  | _ => .no
def mIf (t : MT) (a b : ME) : ME := fun σ st => (t σ st).bind fun c s1 => if c = true then a σ s1 else b σ s1
section
variable {a b c : Expr} {rest : List Expr} {ma mb mc : ME} {mt : MT} {pos : Pos}
theorem e_one {op} (h : PE X a (tE C ma)) : PE X (.BoolOp op [a] pos) (tE C ma) := pe_one h
theorem e_and (ha : PE X a (tE C ma)) (hb : PE X (.BoolOp .And (b :: rest) pos) (tE C mb)) : PE X (.BoolOp .And (a :: b :: rest) pos) (tE C (mAndV ma mb)) := (pe_and ha hb).weak fun σ H Q ⟨ρ, st, σh, S, R, p⟩ =>
  ⟨ρ, st, σh, S, R, (Post.bind p).imp fun ρ1 H1 x s1 _ u1 S1 ⟨s1', S1', p1⟩ v hv => by
    cases x with
    | bl c =>
      rw [VR.bl_iff] at hv
      refine ⟨c, hv, ?_⟩
      cases c with
      | true => exact iteT ⟨ρ1, s1', σh, S1', R.up u1, p1⟩
      | false => exact iteF (p1 ρ1 H1 Up.refl S1' _ (VR.bl_iff.mpr rfl))
    | _ => exact p1.elim⟩
theorem e_or (ha : PE X a (tE C ma)) (hb : PE X (.BoolOp .Or (b :: rest) pos) (tE C mb)) : PE X (.BoolOp .Or (a :: b :: rest) pos) (tE C (mOrV ma mb)) := (pe_or ha hb).weak fun σ H Q ⟨ρ, st, σh, S, R, p⟩ =>
  ⟨ρ, st, σh, S, R, (Post.bind p).imp fun ρ1 H1 x s1 _ u1 S1 ⟨s1', S1', p1⟩ v hv => by
    cases x with
    | bl c =>
      rw [VR.bl_iff] at hv
      refine ⟨c, hv, ?_⟩
      cases c with
      | false => exact iteF ⟨ρ1, s1', σh, S1', R.up u1, p1⟩
      | true => exact iteT (p1 ρ1 H1 Up.refl S1' _ (VR.bl_iff.mpr rfl))
    | _ => exact p1.elim⟩
theorem e_not (ha : PE X a (tE C ma)) : PE X (.UnaryOp .Not a pos) (tE C (mNotV ma)) := (pe_not ha).weak fun σ H Q ⟨ρ, st, σh, S, R, p⟩ =>
  ⟨ρ, st, σh, S, R, (Post.bind p).imp fun ρ1 H1 x s1 _ u1 S1 ⟨s1', S1', p1⟩ v hv => by
    cases x with
    | bl c =>
      rw [VR.bl_iff] at hv
      exact ⟨c, hv, p1 ρ1 H1 Up.refl S1' _ (VR.bl_iff.mpr rfl)⟩
    | _ => exact p1.elim⟩
theorem e_if (hc : PT X c (tT C mt)) (ha : PE X a (tE C ma)) (hb : PE X b (tE C mb)) : PE X (.IfExp c a b pos) (tE C (mIf mt ma mb)) := (pe_ifExp hc ha hb).weak fun σ H Q ⟨ρ, st, σh, S, R, p⟩ =>
  ⟨ρ, st, σh, S, R, (Post.bind p).imp fun ρ1 H1 c s1 _ u1 S1 ⟨s1', S1', p1⟩ => by
    cases c with
    | true => exact iteT ⟨ρ1, s1', σh, S1', R.up u1, p1⟩
    | false => exact iteF ⟨ρ1, s1', σh, S1', R.up u1, p1⟩⟩
/-! ### a value's truth -/
def getL (st : Store) (n : Nat) : Option (List PV) := match st[n]? with
  | some (.lst xs) => some xs
  | some (.rol xs) => some xs
  | some (.dk _) => none
  | none => none
def truF (x : PV) (st : Store) : Option Bool := match x with
  | .non => some false
  | .bl b => some b
  | .int i => some (i != 0)
  | .str x => if x.length ≤ sizeLine then some ((x.length : Int) != 0) else none
  | .tup xs => some (!xs.isEmpty)
  | .ref n => (getL st n).map fun xs => !xs.isEmpty
def mTru (a : ME) : MT := fun σ st => (a σ st).bind fun x s1 => match truF x s1 with
  | some b => .ok b s1
  | none => .no
end
theorem getL_sql {K : PySem.W.Frag} {ρ : List Addr} {H : Hp} {st : Store} {n : Nat} {xs : List PV} (S : SR K ρ H st) (h : getL st n = some xs) : ∃ a vs, ρ[n]? = some a ∧ SqL K H a vs ∧ VRs K ρ H xs vs := by
  unfold getL at h
  cases e : st[n]? with
  | none => rw [e] at h; cases h
  | some c =>
    rw [e] at h
    obtain ⟨a, h1, h2⟩ := S.get e
    cases c with
    | lst ys =>
      cases h
      obtain ⟨vs, q, r⟩ := h2
      exact ⟨a, vs, h1, .inl (.inl q), r⟩
    | rol ys =>
      cases h
      obtain ⟨vs, q, r⟩ := h2
      exact ⟨a, vs, h1, q.sq, r⟩
    | dk ys => cases h
theorem VRs.empty {K : PySem.W.Frag} {ρ : List Addr} {H : Hp} {xs : List PV} {vs : List V} (h : VRs K ρ H xs vs) : vs.isEmpty = xs.isEmpty := by
  have e := h.length
  cases xs <;> cases vs <;> simp_all
theorem tru_of {ρ : List Addr} {H : Hp} {st : Store} {x : PV} {v : V} {b : Bool} (S : SR C.K ρ H st) (r : VR C.K ρ H x v) (h : truF x st = some b) : TruV C.K v H b := by
  unfold truF at h
  cases x with
  | non => rw [VR.non_iff] at r; subst r; cases h; rfl
  | bl c => rw [VR.bl_iff] at r; subst r; cases h; rfl
  | int i => rw [VR.int_iff] at r; subst r; cases h; rfl
  | str x =>
    rw [VR.str_iff] at r; subst r
    dsimp only at h
    split at h
    · cases h; exact ⟨by assumption, rfl⟩
    · cases h
  | tup xs =>
    rw [VR.tup_iff] at r
    obtain ⟨a, vs, rfl, q, r⟩ := r
    cases h
    exact .inr (.inl ⟨vs, q, by rw [r.empty]⟩)
  | ref n =>
    rw [VR.ref_iff] at r
    obtain ⟨a, rfl, q⟩ := r
    dsimp only at h
    cases e : getL st n with
    | none => rw [e] at h; cases h
    | some xs =>
      rw [e] at h
      cases h
      obtain ⟨a', vs, h1, h2, h3⟩ := getL_sql S e
      rw [q] at h1; cases h1
      exact .inl ⟨vs, h2, by rw [h3.empty]⟩
theorem t_tru {a : Expr} {ma : ME} (hK : C.K = X.K) (h : PE X a (tE C ma)) (he : ∀ whole, isTrue a X.env whole = (do let v ← whole; standAt a.pos; holding [v] (truthy v)) := by intro _; rfl) : PT X a (tT C (mTru ma)) :=
  (pt_truth h he).weak fun σ H Q ⟨ρ, st, σh, S, R, p⟩ => ⟨ρ, st, σh, S, R, (Post.bind p).imp fun ρ1 H1 x s1 _ u1 S1 ⟨s1', S1', p1⟩ v hv => by
    cases e : truF x s1' with
    | none => rw [e] at p1; exact p1.elim
    | some b =>
      rw [e] at p1
      exact ⟨b, hK ▸ tru_of S1' hv e, p1 ρ1 H1 Up.refl S1'⟩⟩

/-! ### displays, arguments -/
def mNil : MA := fun _ st => .ok [] st
def mCons (a : ME) (r : MA) : MA := fun σ st => (a σ st).bind fun x s1 => (r σ s1).bind fun xs s2 => .ok (x :: xs) s2
theorem a_nil : PA X [] (tA C mNil) := pa_nil.weak fun σ H Q ⟨ρ, st, σh, S, R, p⟩ => p ρ H Up.refl S [] (VRs.nil_iff.mpr rfl)
theorem a_cons {e : Expr} {es : List Expr} {m : ME} {r : MA} (h : PE X e (tE C m)) (hr : PA X es (tA C r)) (hs : starEach (e :: es) X.env = (false, eval e X.env) :: starEach es X.env := by rfl) : PA X (e :: es) (tA C (mCons m r)) :=
  (pa_cons h hr hs).weak fun σ H Q ⟨ρ, st, σh, S, R, p⟩ => ⟨ρ, st, σh, S, R, (Post.bind p).imp fun ρ1 H1 x s1 _ u1 S1 ⟨s1', S1', p1⟩ v hv =>
    ⟨ρ1, s1', σh, S1', R.up u1, (Post.bind p1).imp fun ρ2 H2 xs s2 _ u2 S2 ⟨s2', S2', p2⟩ vs hvs => p2 ρ2 H2 Up.refl S2' _ (VRs.cons_iff.mpr ⟨v, vs, rfl, hv.up u2, hvs⟩)⟩⟩
def mTup (a : MA) : ME := fun σ st => (a σ st).bind fun xs s1 => if xs.length ≤ sizeLine then .ok (.tup xs) s1 else .no
def mLst (a : MA) : ME := fun σ st => (a σ st).bind fun xs s1 => if xs.length ≤ sizeLine then .ok (.ref s1.length) (s1 ++ [.lst xs]) else .no
theorem VR.mk_ref {K : PySem.W.Frag} {ρ : List Addr} {H : Hp} {st : Store} {p : Addr} (S : SR K ρ H st) {H' : Hp} : VR K (ρ ++ [p]) H' (.ref st.length) (.ref p) :=
  VR.ref_iff.mpr ⟨p, rfl, by rw [List.getElem?_append_right (by rw [S.len]; exact Nat.le_refl _), S.len]; simp⟩
theorem e_tup {es : List Expr} {m : MA} {x1 : Nat} {pos : Pos} (h : PA X es (tA C m)) : PE X (.Tuple es x1 pos) (tE C (mTup m)) :=
  (pe_tup h).weak fun σ H Q ⟨ρ, st, σh, S, R, p⟩ => ⟨ρ, st, σh, S, R, (Post.bind p).imp fun ρ1 H1 xs s1 _ u1 S1 ⟨s1', S1', p1⟩ vs hv => by
    split at p1
    · refine ⟨by rw [hv.length]; assumption, fun q hq => p1 ρ1 _ (up_new hq) (S1'.new hq) _ (VR.mk_tup hq hv)⟩
    · exact p1.elim⟩
theorem e_lst {es : List Expr} {m : MA} {pos : Pos} (h : PA X es (tA C m)) : PE X (.List es pos) (tE C (mLst m)) :=
  (pe_lst h).weak fun σ H Q ⟨ρ, st, σh, S, R, p⟩ => ⟨ρ, st, σh, S, R, (Post.bind p).imp fun ρ1 H1 xs s1 _ u1 S1 ⟨s1', S1', p1⟩ vs hv => by
    split at p1
    · refine ⟨by rw [hv.length]; assumption, fun q hq => p1 _ _ (up_app hq) (S1'.push hq hv) _ (VR.mk_ref S1')⟩
    · exact p1.elim⟩
end
end Sm

namespace Sm
open PySem PySem.Spec PyProof.Rows L2

/-- a list that may be written -/
def getM (st : Store) (n : Nat) : Option (List PV) := match st[n]? with
  | some (.lst xs) => some xs
  | _ => none
theorem getM_at {K : PySem.W.Frag} {ρ : List Addr} {H : Hp} {st : Store} {n : Nat} {xs : List PV} (S : SR K ρ H st) (h : getM st n = some xs) : st[n]? = some (.lst xs) ∧ ∃ a vs, ρ[n]? = some a ∧ H a = some (.lst vs) ∧ VRs K ρ H xs vs := by
  unfold getM at h
  split at h
  · rename_i e
    cases h
    exact ⟨e, S.getL e⟩
  · cases h
def newL (xs : List PV) (st : Store) : Res PV := if xs.length ≤ sizeLine then .ok (.ref st.length) (st ++ [.lst xs]) else .no
section
variable {X : Cx} {K : PySem.W.Frag}
theorem SR.newL {ρ : List Addr} {H : Hp} {st st' : Store} {xs : List PV} {vs : List V} {r : PV} {Q : VK} (S : SR K ρ H st) (hv : VRs K ρ H xs vs) (e : newL xs st = .ok r st') (k : ∀ ρ' H' v, Up K ρ H ρ' H' → SR K ρ' H' st' → VR K ρ' H' r v → Q v H') :
    vs.length ≤ sizeLine ∧ ∀ p, H p = none → Q (.ref p) (upd H p (.lst vs)) := by
  unfold Sm.newL at e
  split at e
  · cases e
    exact ⟨by rw [hv.length]; assumption, fun p hp => k _ _ _ (up_app hp) (S.push hp hv) (VR.mk_ref S)⟩
  · cases e

/-! ### + - * // % ** -/
def addF : M2 := fun x y st => match x, y with
  | .int i, .int j => .ok (.int (i + j)) st
  | .int i, .bl k => .ok (.int (i + b2i k)) st
  | .str a, .str b => if a.length + b.length ≤ sizeLine then .ok (.str (a ++ b)) st else .no
  | .tup xs, .tup ys => if xs.length + ys.length ≤ sizeLine then .ok (.tup (xs ++ ys)) st else .no
  | .ref m, .ref n => match getM st m, getM st n with
    | some xs, some ys => newL (xs ++ ys) st
    | _, _ => .no
  | _, _ => .no
theorem calm_add : Calm2 addF := fun x y st c fs st' e => by
  unfold addF at e
  split at e <;> (try split at e) <;> (try (unfold newL at e; split at e)) <;> cases e
theorem op_addS (hK : X.K = K) : OpR X (binaryOp .Add) (rS K addF) := by
  subst hK
  intro pins s σ H x y v u Q I rx ry ⟨ρ, st, xh, yh, S, hx, hy, r, st', e, k⟩
  unfold addF at e
  split at e
  · cases e
    rw [VR.int_iff] at hx hy; subst hx hy
    exact op_add pins s σ H _ _ v u Q I rx ry ⟨_, _, rfl, rfl, k ρ H _ Up.refl S (VR.int_iff.mpr rfl)⟩
  · cases e
    rw [VR.int_iff] at hx; rw [VR.bl_iff] at hy; subst hx hy
    exact op_add_ib pins s σ H _ _ v u Q I rx ry ⟨_, _, rfl, rfl, k ρ H _ Up.refl S (VR.int_iff.mpr rfl)⟩
  · rw [VR.str_iff] at hx hy; subst hx hy
    split at e
    · cases e
      exact op_add_str pins s σ H _ _ v u Q I rx ry ⟨_, _, rfl, rfl, by assumption, k ρ H _ Up.refl S (VR.str_iff.mpr rfl)⟩
    · cases e
  · rename_i xs ys
    rw [VR.tup_iff] at hx hy
    obtain ⟨a, vs, rfl, h1, h2⟩ := hx
    obtain ⟨b, ws, rfl, g1, g2⟩ := hy
    split at e
    · cases e
      refine op_catA pins s σ H _ _ v u Q I rx ry ⟨a, b, vs, ws, rfl, rfl, h1, g1, by rw [h2.length, g2.length]; assumption, fun z => ?_, fun _ z => ?_, fun _ _ p hp => ?_⟩
      · subst z
        cases xs with
        | nil => exact k ρ H _ Up.refl S (VR.tup_iff.mpr ⟨b, ws, rfl, g1, g2⟩)
        | cons _ _ => have := h2.length; cases this
      · subst z
        cases ys with
        | nil => exact k ρ H _ Up.refl S (VR.tup_iff.mpr ⟨a, vs, rfl, h1, by rw [List.append_nil]; exact h2⟩)
        | cons _ _ => have := g2.length; cases this
      · exact k ρ _ _ (up_new hp) (S.new hp) (VR.mk_tup hp (h2.append g2))
    · cases e
  · rename_i m n
    split at e
    · rename_i xs ys em en
      obtain ⟨_, a, vs, a1, a2, a3⟩ := getM_at S em
      obtain ⟨_, b, ws, b1, b2, b3⟩ := getM_at S en
      rw [VR.ref_iff] at hx hy
      obtain ⟨a', rfl, q1⟩ := hx
      obtain ⟨b', rfl, q2⟩ := hy
      rw [a1] at q1; cases q1
      rw [b1] at q2; cases q2
      obtain ⟨l1, l2⟩ := S.newL (a3.append b3) e k
      exact op_cat pins s σ H _ _ v u Q I rx ry ⟨a, b, vs, ws, rfl, rfl, a2, b2, by rw [← List.length_append]; exact l1, l2⟩
    · cases e
  · cases e
def subF : M2 := fun x y st => match x, y with
  | .int i, .int j => .ok (.int (i - j)) st
  | _, _ => .no
theorem calm_sub : Calm2 subF := fun x y st c fs st' e => by unfold subF at e; split at e <;> cases e
theorem op_subS : OpR X (binaryOp .Sub) (rS K subF) := by
  intro pins s σ H x y v u Q I rx ry ⟨ρ, st, xh, yh, S, hx, hy, r, st', e, k⟩
  unfold subF at e
  split at e
  · cases e
    rw [VR.int_iff] at hx hy; subst hx hy
    exact op_sub pins s σ H _ _ v u Q I rx ry ⟨_, _, rfl, rfl, k ρ H _ Up.refl S (VR.int_iff.mpr rfl)⟩
  · cases e
instance {i j : Int} : Decidable (CMul i j) := by unfold CMul; infer_instance
instance {i j : Int} : Decidable (CDivN i j) := by unfold CDivN; infer_instance
instance {i j : Int} : Decidable (CDivW i j) := by unfold CDivW; infer_instance
def mulF : M2 := fun x y st => match x, y with
  | .int i, .int j => if CMul i j then .ok (.int (i * j)) st else .no
  | _, _ => .no
theorem calm_mul : Calm2 mulF := fun x y st c fs st' e => by unfold mulF at e; split at e <;> (try split at e) <;> cases e
theorem op_mulS : OpR X (binaryOp .Mult) (rS K mulF) := by
  intro pins s σ H x y v u Q I rx ry ⟨ρ, st, xh, yh, S, hx, hy, r, st', e, k⟩
  unfold mulF at e
  split at e
  · split at e
    · cases e
      rw [VR.int_iff] at hx hy; subst hx hy
      exact op_mul pins s σ H _ _ v u Q I rx ry ⟨_, _, rfl, rfl, by assumption, k ρ H _ Up.refl S (VR.int_iff.mpr rfl)⟩
    · cases e
  · cases e
def fdivF : M2 := fun x y st => match x, y with
  | .int i, .int j => if CDivN i j ∨ CDivW i j then .ok (.int (i.fdiv j)) st else .no
  | _, _ => .no
theorem calm_fdiv : Calm2 fdivF := fun x y st c fs st' e => by unfold fdivF at e; split at e <;> (try split at e) <;> cases e
theorem op_fdivS : OpR X (binaryOp .FloorDiv) (rS K fdivF) := by
  intro pins s σ H x y v u Q I rx ry ⟨ρ, st, xh, yh, S, hx, hy, r, st', e, k⟩
  unfold fdivF at e
  split at e
  · split at e
    · cases e
      rw [VR.int_iff] at hx hy; subst hx hy
      rename_i i j hc
      rcases hc with hc | hc
      · exact op_fdivN pins s σ H _ _ v u Q I rx ry ⟨_, _, rfl, rfl, hc, k ρ H _ Up.refl S (VR.int_iff.mpr rfl)⟩
      · exact op_fdivW pins s σ H _ _ v u Q I rx ry ⟨_, _, rfl, rfl, hc, by show Q (V.int (i / j)) H; rw [← Int.fdiv_eq_ediv_of_nonneg i (by have := hc.1; omega)]; exact k ρ H _ Up.refl S (VR.int_iff.mpr rfl)⟩
    · cases e
  · cases e
def modF : M2 := fun x y st => match x, y with
  | .int i, .int j => if j ≠ 0 then .ok (.int (i.fmod j)) st else .no
  | _, _ => .no
theorem calm_mod : Calm2 modF := fun x y st c fs st' e => by unfold modF at e; split at e <;> (try split at e) <;> cases e
theorem op_modS : OpR X (binaryOp .Mod) (rS K modF) := by
  intro pins s σ H x y v u Q I rx ry ⟨ρ, st, xh, yh, S, hx, hy, r, st', e, k⟩
  unfold modF at e
  split at e
  · split at e
    · cases e
      rw [VR.int_iff] at hx hy; subst hx hy
      exact op_modN pins s σ H _ _ v u Q I rx ry ⟨_, _, rfl, rfl, by assumption, k ρ H _ Up.refl S (VR.int_iff.mpr rfl)⟩
    · cases e
  · cases e
/-- the powers' room, with any base -/
def CPowW (i j : Int) : Prop := 0 ≤ j ∧ (i.natAbs.log2 + 1 : Int) * j ≤ 134217728
theorem pow_wide {prog : Program} {w : World} {A : Around} {E : Value → Shared → Prop} {s : Shared} {i j : Int} {t u : Tok} {Q : Value → Shared → Prop} (h : CPowW i j) (q : Q (.int (i ^ j.toNat) s.toks) { s with toks := s.toks + 1 }) :
    wpAny (model prog w) A (binaryOp .Pow (.int i t) (.int j u)) Q E s := by
  obtain ⟨h0, h1⟩ := h
  by_cases c0 : j = 0
  · subst c0
    have e0 : i ^ (0 : Int).toNat = 1 := Int.pow_zero i
    rw [e0] at q
    exact PySem.AutoIntOps.pow_0 (by decide) rfl q
  · by_cases c1 : (i == 0 || i == 1) = true
    · have ei : i ^ j.toNat = i := by
        have hj : 0 < j.toNat := by omega
        rw [Bool.or_eq_true, beq_iff_eq, beq_iff_eq] at c1
        rcases c1 with rfl | rfl
        · exact Int.zero_pow (by omega)
        · exact Int.one_pow ..
      rw [ei] at q
      exact PySem.AutoIntOps.pow_1 h0 (by simpa using c0) c1 q
    · by_cases c2 : (i == -1) = true
      · rw [beq_iff_eq] at c2
        subst c2
        have ei : (-1 : Int) ^ j.toNat = if (j % 2 == 0) = true then 1 else -1 := by
          obtain ⟨n, rfl⟩ : ∃ n : Nat, j = (n : Int) := ⟨j.toNat, by omega⟩
          clear c0 h1 h0 c1 q
          rw [Int.toNat_natCast]
          induction n with
          | zero => rfl
          | succ n ih =>
            rw [Int.pow_succ, ih]
            by_cases hp : ((n : Int) % 2 == 0) = true
            · rw [if_pos hp, if_neg (by simp at hp ⊢; omega)]; rfl
            · rw [if_neg hp, if_pos (by simp at hp ⊢; omega)]; rfl
        rw [ei] at q
        exact PySem.AutoIntOps.pow_2 h0 (by simpa using c0) c1 rfl q
      · refine PySem.AutoIntOps.pow_4 h0 (by simpa using c0) c1 c2 ?_ q
        intro z
        unfold Builtin.Int.intTooBig at z
        have z3 := of_decide_eq_true z
        have e : bitsLine = 134217728 := by decide
        rw [e] at z3
        have b : (Builtin.Int.intBits i : Int) ≤ (i.natAbs.log2 + 1 : Int) := by
          unfold Builtin.Int.intBits
          split <;> omega
        have := Int.mul_le_mul_of_nonneg_right b h0
        omega
def powOk (i j : Int) : Bool := decide (0 ≤ j) && Nat.ble ((i.natAbs.log2 + 1) * j.toNat) 134217728
theorem powOk_w {i j : Int} (h : powOk i j = true) : CPowW i j := by
  unfold powOk at h
  rw [Bool.and_eq_true, decide_eq_true_eq] at h
  have h2 := Nat.le_of_ble_eq_true h.2
  obtain ⟨k, rfl⟩ : ∃ k : Nat, j = (k : Int) := ⟨j.toNat, by omega⟩
  rw [Int.toNat_natCast] at h2
  refine ⟨h.1, ?_⟩
  have : ((i.natAbs.log2 : Int) + 1) * (k : Int) = (((i.natAbs.log2 + 1) * k : Nat) : Int) := by simp
  omega
def powF : M2 := fun x y st => match x, y with
  | .int i, .int j => if powOk i j = true then .ok (.int (i ^ j.toNat)) st else .no
  | _, _ => .no
theorem calm_pow : Calm2 powF := fun x y st c fs st' e => by unfold powF at e; split at e <;> (try split at e) <;> cases e
theorem op_powS : OpR X (binaryOp .Pow) (rS K powF) := by
  intro pins s σ H x y v u Q I rx ry ⟨ρ, st, xh, yh, S, hx, hy, r, st', e, k⟩
  unfold powF at e
  split at e
  · split at e
    · cases e
      rw [VR.int_iff] at hx hy; subst hx hy
      obtain ⟨t, rfl⟩ := rx
      obtain ⟨t', rfl⟩ := ry
      exact pow_wide (powOk_w (by assumption)) ⟨.int _, H, I.tok _, ⟨_, rfl⟩, k ρ H _ Up.refl S (VR.int_iff.mpr rfl)⟩
    · cases e
  · cases e
def negF (x : PV) (st : Store) : Res PV := match x with
  | .int i => .ok (.int (-i)) st
  | _ => .no
def mUn (f : PV → Store → Res PV) (a : ME) : ME := fun σ st => (a σ st).bind f
theorem e_neg {C : Wc} {a : Expr} {ma : ME} {pos : Pos} (ha : PE X a (tE C ma)) : PE X (.UnaryOp .USub a pos) (tE C (mUn negF ma)) :=
  (pe_un un_neg ha).weak fun σ H Q ⟨ρ, st, σh, S, R, p⟩ => ⟨ρ, st, σh, S, R, (Post.bind p).imp fun ρ1 H1 x s1 _ u1 S1 ⟨s1', S1', p1⟩ v hv => by
    cases x with
    | int i =>
      rw [VR.int_iff] at hv
      exact ⟨i, hv, p1 ρ1 H1 Up.refl S1' _ (VR.int_iff.mpr rfl)⟩
    | _ => exact p1.elim⟩
/-! ### < <= > >= -/
def ordF (g : Int → Int → Bool) : M2 := fun x y st => match x, y with
  | .int i, .int j => .ok (.bl (g i j)) st
  | _, _ => .no
theorem calm_ord {g : Int → Int → Bool} : Calm2 (ordF g) := fun x y st c fs st' e => by unfold ordF at e; split at e <;> cases e
theorem op_ord {op : CmpOp} {g : Int → Int → Bool} (h : OpR X (compareOp op) (rI0 fun i j => .bl (g i j))) : OpR X (compareOp op) (rS K (ordF g)) := by
  intro pins s σ H x y v u Q I rx ry ⟨ρ, st, xh, yh, S, hx, hy, r, st', e, k⟩
  unfold ordF at e
  split at e
  · cases e
    rw [VR.int_iff] at hx hy; subst hx hy
    exact h pins s σ H _ _ v u Q I rx ry ⟨_, _, rfl, rfl, k ρ H _ Up.refl S (VR.bl_iff.mpr rfl)⟩
  · cases e
abbrev ltF : M2 := ordF fun i j => decide (i < j)
abbrev leF : M2 := ordF fun i j => decide (i ≤ j)
abbrev gtF : M2 := ordF fun i j => decide (j < i)
abbrev geF : M2 := ordF fun i j => decide (j ≤ i)
theorem op_ltS : OpR X (compareOp .Lt) (rS K ltF) := op_ord op_lt
theorem op_leS : OpR X (compareOp .LtE) (rS K leF) := op_ord op_le
theorem op_gtS : OpR X (compareOp .Gt) (rS K gtF) := op_ord op_gt
theorem op_geS : OpR X (compareOp .GtE) (rS K geF) := op_ord op_ge

/-! ### data at any depth -/
mutual
def toDw (f : Nat → Option PyData) : PV → Option PyData
  | .non => some .none
  | .bl b => some (.bool b)
  | .int i => some (.int i)
  | .str x => some (.str x)
  | .tup xs => (toDsw f xs).map .tuple
  | .ref n => f n
def toDsw (f : Nat → Option PyData) : List PV → Option (List PyData)
  | [] => some []
  | x :: xs => (toDw f x).bind fun d => (toDsw f xs).map fun ds => d :: ds
end
def refD : Nat → Store → Nat → Option PyData
  | 0, _, _ => none
  | n + 1, st, k => (getL st k).bind fun xs => (toDsw (refD n st) xs).map .list
def toD (st : Store) (x : PV) : Option PyData := toDw (refD 4 st) x
def DpF (K : PySem.W.Frag) (ρ : List Addr) (H : Hp) (f : Nat → Option PyData) : Prop := ∀ n d, f n = some d → ∃ a, ρ[n]? = some a ∧ Dp K H (.ref a) d
mutual
theorem dp_of {ρ : List Addr} {H : Hp} {f : Nat → Option PyData} (hf : DpF K ρ H f) : ∀ {x : PV} {v : V} {d : PyData}, VR K ρ H x v → toDw f x = some d → Dp K H v d
  | .non, _, _, r, h => by rw [toDw] at h; cases h; rw [VR.non_iff] at r; subst r; exact .non
  | .bl b, _, _, r, h => by rw [toDw] at h; cases h; rw [VR.bl_iff] at r; subst r; exact .bl b
  | .int i, _, _, r, h => by rw [toDw] at h; cases h; rw [VR.int_iff] at r; subst r; exact .int i
  | .str x, _, _, r, h => by rw [toDw] at h; cases h; rw [VR.str_iff] at r; subst r; exact .str x
  | .tup xs, _, _, r, h => by
    rw [toDw] at h
    rw [VR.tup_iff] at r
    obtain ⟨a, vs, rfl, h1, h2⟩ := r
    cases e : toDsw f xs with
    | none => rw [e] at h; cases h
    | some ds => rw [e] at h; cases h; exact .tup h1 (dps_of hf h2 e)
  | .ref n, _, _, r, h => by
    rw [toDw] at h
    rw [VR.ref_iff] at r
    obtain ⟨a, rfl, h1⟩ := r
    obtain ⟨b, h2, h3⟩ := hf n _ h
    rw [h1] at h2; cases h2
    exact h3
theorem dps_of {ρ : List Addr} {H : Hp} {f : Nat → Option PyData} (hf : DpF K ρ H f) : ∀ {xs : List PV} {vs : List V} {ds : List PyData}, VRs K ρ H xs vs → toDsw f xs = some ds → DpAll K H vs ds
  | [], _, _, r, h => by rw [toDsw] at h; cases h; rw [VRs.nil_iff] at r; subst r; exact .nil
  | x :: xs, _, _, r, h => by
    rw [toDsw] at h
    rw [VRs.cons_iff] at r
    obtain ⟨v, vs, rfl, h1, h2⟩ := r
    cases e : toDw f x with
    | none => rw [e] at h; cases h
    | some d =>
      rw [e] at h
      cases e2 : toDsw f xs with
      | none => rw [e2] at h; cases h
      | some ds => rw [e2] at h; cases h; exact .cons (dp_of hf h1 e) (dps_of hf h2 e2)
end
theorem refD_ok {ρ : List Addr} {H : Hp} {st : Store} (S : SR K ρ H st) : ∀ n, DpF K ρ H (refD n st)
  | 0, _, _, h => by cases h
  | n + 1, k, d, h => by
    unfold refD at h
    cases e : getL st k with
    | none => rw [e] at h; cases h
    | some xs =>
      rw [e] at h
      obtain ⟨a, vs, h1, h2, h3⟩ := getL_sql S e
      cases e2 : toDsw (refD n st) xs with
      | none => rw [Option.bind_some, e2] at h; cases h
      | some ds => rw [Option.bind_some, e2] at h; cases h; exact ⟨a, h1, .lst h2 (dps_of (refD_ok S n) h3 e2)⟩
theorem toD_ok {ρ : List Addr} {H : Hp} {st : Store} {x : PV} {v : V} {d : PyData} (S : SR K ρ H st) (r : VR K ρ H x v) (h : toD st x = some d) : Dp K H v d := dp_of (refD_ok S 4) r h
def eqDF (neg : Bool) (x y : PV) (st : Store) : Res PV := match toD st x, toD st y with
  | some d, some e => if SeqAt.shaped d = true ∧ SeqAt.shaped e = true then .ok (.bl (if neg then !PyData.eqv d e else PyData.eqv d e)) st else .no
  | _, _ => .no
/-- == , != -/
def eqF (neg : Bool) : M2 := fun x y st => match x, y with
  | .int i, .int j => .ok (.bl (if neg then !decide (i = j) else decide (i = j))) st
  | .str i, .str j => .ok (.bl (if neg then !decide (i = j) else decide (i = j))) st
  | .bl i, .bl j => .ok (.bl (if neg then !decide (i = j) else decide (i = j))) st
  | x, y => eqDF neg x y st
theorem calm_eqD {neg x y st c fs st'} : eqDF neg x y st ≠ .exc c fs st' := fun e => by
  unfold eqDF at e
  split at e <;> (try split at e) <;> cases e
theorem calm_eq {neg : Bool} : Calm2 (eqF neg) := fun x y st c fs st' e => by
  unfold eqF at e
  split at e <;> first | cases e | exact calm_eqD e
theorem V.int_dec {i j : Int} : decide (V.int i = V.int j) = decide (i = j) := by
  by_cases h : i = j
  · subst h; simp
  · simp [h]
theorem V.str_dec {i j : Str} : decide (V.str i = V.str j) = decide (i = j) := by
  by_cases h : i = j
  · subst h; simp
  · simp [h]
theorem V.bl_dec {i j : Bool} : decide (V.bl i = V.bl j) = decide (i = j) := by
  cases i <;> cases j <;> rfl
theorem op_eqS (hK : X.K = K) (hu : X.A.units + 64 < cLine) : OpR X (compareOp .Eq) (rS K (eqF false)) := by
  subst hK
  intro pins s σ H x y v u Q I rx ry ⟨ρ, st, xh, yh, S, hx, hy, r, st', e, k⟩
  unfold eqF at e
  split at e
  · cases e
    rw [VR.int_iff] at hx hy; subst hx hy
    exact op_eq pins s σ H _ _ v u Q I rx ry ⟨rfl, by rw [V.int_dec]; exact k ρ H _ Up.refl S (VR.bl_iff.mpr rfl)⟩
  · cases e
    rw [VR.str_iff] at hx hy; subst hx hy
    exact op_eq pins s σ H _ _ v u Q I rx ry ⟨rfl, by rw [V.str_dec]; exact k ρ H _ Up.refl S (VR.bl_iff.mpr rfl)⟩
  · cases e
    rw [VR.bl_iff] at hx hy; subst hx hy
    exact op_eq pins s σ H _ _ v u Q I rx ry ⟨rfl, by rw [V.bl_dec]; exact k ρ H _ Up.refl S (VR.bl_iff.mpr rfl)⟩
  · unfold eqDF at e
    split at e
    · rename_i d d' e1 e2
      split at e
      · rename_i hs
        cases e
        exact op_eqD hu pins s σ H _ _ v u Q I rx ry ⟨d, d', toD_ok S hx e1, toD_ok S hy e2, hs.1, hs.2, k ρ H _ Up.refl S (VR.bl_iff.mpr rfl)⟩
      · cases e
    · cases e
theorem op_neS (hK : X.K = K) (hu : X.A.units + 64 < cLine) : OpR X (compareOp .NotEq) (rS K (eqF true)) := by
  subst hK
  intro pins s σ H x y v u Q I rx ry ⟨ρ, st, xh, yh, S, hx, hy, r, st', e, k⟩
  unfold eqF at e
  split at e
  · cases e
    rw [VR.int_iff] at hx hy; subst hx hy
    exact op_ne pins s σ H _ _ v u Q I rx ry ⟨rfl, by rw [V.int_dec]; exact k ρ H _ Up.refl S (VR.bl_iff.mpr rfl)⟩
  · cases e
    rw [VR.str_iff] at hx hy; subst hx hy
    exact op_ne pins s σ H _ _ v u Q I rx ry ⟨rfl, by rw [V.str_dec]; exact k ρ H _ Up.refl S (VR.bl_iff.mpr rfl)⟩
  · cases e
    rw [VR.bl_iff] at hx hy; subst hx hy
    exact op_ne pins s σ H _ _ v u Q I rx ry ⟨rfl, by rw [V.bl_dec]; exact k ρ H _ Up.refl S (VR.bl_iff.mpr rfl)⟩
  · unfold eqDF at e
    split at e
    · rename_i d d' e1 e2
      split at e
      · rename_i hs
        cases e
        exact op_neD hu pins s σ H _ _ v u Q I rx ry ⟨d, d', toD_ok S hx e1, toD_ok S hy e2, hs.1, hs.2, k ρ H _ Up.refl S (VR.bl_iff.mpr rfl)⟩
      · cases e
    · cases e
/-! ### in -/
def flatP : PV → Bool
  | .non | .bl _ | .int _ | .str _ => true
  | _ => false
def eqP : PV → PV → Bool
  | .non, .non => true
  | .bl a, .bl b => a == b
  | .bl a, .int b => (if a then 1 else 0) == b
  | .int a, .bl b => a == (if b then 1 else 0)
  | .int a, .int b => a == b
  | .str a, .str b => a == b
  | _, _ => false
theorem VR.flat {ρ : List Addr} {H : Hp} {x : PV} {v : V} (r : VR K ρ H x v) (h : flatP x = true) : flatV v = true := by
  cases x with
  | non => rw [VR.non_iff] at r; subst r; rfl
  | bl b => rw [VR.bl_iff] at r; subst r; rfl
  | int i => rw [VR.int_iff] at r; subst r; rfl
  | str x => rw [VR.str_iff] at r; subst r; rfl
  | _ => cases h
theorem VR.eqP {ρ : List Addr} {H : Hp} {x y : PV} {v w : V} (r : VR K ρ H x v) (q : VR K ρ H y w) (h : flatP x = true) (g : flatP y = true) : eqV v w = eqP x y := by
  cases x <;> first | (cases h; done) | (cases y <;> first | (cases g; done) | (simp only [VR.non_iff, VR.bl_iff, VR.int_iff, VR.str_iff] at r q; subst r q; rfl))
theorem VRs.flat {ρ : List Addr} {H : Hp} : ∀ {xs : List PV} {vs : List V}, VRs K ρ H xs vs → xs.all flatP = true → vs.all flatV = true
  | [], _, r, _ => by rw [VRs.nil_iff] at r; subst r; rfl
  | x :: xs, _, r, h => by
    rw [VRs.cons_iff] at r
    obtain ⟨v, vs, rfl, h1, h2⟩ := r
    rw [List.all_cons, Bool.and_eq_true] at h ⊢
    exact ⟨h1.flat h.1, VRs.flat h2 h.2⟩
theorem VRs.inV {ρ : List Addr} {H : Hp} {x : PV} {v : V} (r : VR K ρ H x v) (h : flatP x = true) : ∀ {xs : List PV} {vs : List V}, VRs K ρ H xs vs → xs.all flatP = true → L2.inV v vs = xs.any fun y => Sm.eqP y x
  | [], _, r, _ => by rw [VRs.nil_iff] at r; subst r; rfl
  | x :: xs, _, q, g => by
    rw [VRs.cons_iff] at q
    obtain ⟨v, vs, rfl, h1, h2⟩ := q
    rw [List.all_cons, Bool.and_eq_true] at g
    have ih := VRs.inV r h h2 g.2
    unfold L2.inV at ih ⊢
    rw [List.any_cons, List.any_cons, ih, h1.eqP r g.1 h]
def inF (neg : Bool) : M2 := fun x y st => match y with
  | .tup ys => if flatP x = true ∧ ys.all flatP = true then .ok (.bl (if neg then !(ys.any fun y => eqP y x) else ys.any fun y => eqP y x)) st else .no
  | .ref n => match toD st x, toD st (.ref n) with
    | some d, some (.list ds) => if SeqAt.shaped d = true ∧ SeqAt.shaped (.list ds) = true then .ok (.bl (if neg then !(ds.any fun z => PyData.eqv z d) else ds.any fun z => PyData.eqv z d)) st else .no
    | _, _ => .no
  | .str z => match x with
    | .str y => .ok (.bl (if neg then !(!(Builtin.Str.occurrences z y 0 z.length 1).isEmpty) else (!(Builtin.Str.occurrences z y 0 z.length 1).isEmpty))) st
    | _ => .no
  | _ => .no
theorem calm_in {neg : Bool} : Calm2 (inF neg) := fun x y st c fs st' e => by
  unfold inF at e
  split at e <;> (try split at e) <;> (try split at e) <;> cases e
theorem op_inS (hK : X.K = K) (hu : X.A.units + 65 < cLine) : OpR X (compareOp .In) (rS K (inF false)) := by
  subst hK
  intro pins s σ H x y v u Q I rx ry ⟨ρ, st, xh, yh, S, hx, hy, r, st', e, k⟩
  unfold inF at e
  split at e
  · rw [VR.tup_iff] at hy
    obtain ⟨a, vs, rfl, h1, h2⟩ := hy
    split at e
    · rename_i hs
      cases e
      exact op_in_seq pins s σ H _ _ v u Q I rx ry ⟨a, vs, rfl, .inr h1, hx.flat hs.1, h2.flat hs.2, by rw [VRs.inV hx hs.1 h2 hs.2]; exact k ρ H _ Up.refl S (VR.bl_iff.mpr rfl)⟩
    · cases e
  · split at e
    · rename_i d ds e1 e2
      split at e
      · rename_i hs
        cases e
        exact op_inD hu pins s σ H _ _ v u Q I rx ry ⟨d, ds, toD_ok S hx e1, toD_ok S hy e2, hs.1, hs.2, k ρ H _ Up.refl S (VR.bl_iff.mpr rfl)⟩
      · cases e
    · cases e
  · split at e
    · cases e
      rw [VR.str_iff] at hx hy; subst hx hy
      exact op_in_str pins s σ H _ _ v u Q I rx ry ⟨_, _, rfl, rfl, k ρ H _ Up.refl S (VR.bl_iff.mpr rfl)⟩
    · cases e
  · cases e
theorem op_notInS (hK : X.K = K) (hu : X.A.units + 65 < cLine) : OpR X (compareOp .NotIn) (rS K (inF true)) := by
  subst hK
  intro pins s σ H x y v u Q I rx ry ⟨ρ, st, xh, yh, S, hx, hy, r, st', e, k⟩
  unfold inF at e
  split at e
  · rw [VR.tup_iff] at hy
    obtain ⟨a, vs, rfl, h1, h2⟩ := hy
    split at e
    · rename_i hs
      cases e
      exact op_notIn_seq pins s σ H _ _ v u Q I rx ry ⟨a, vs, rfl, .inr h1, hx.flat hs.1, h2.flat hs.2, by rw [VRs.inV hx hs.1 h2 hs.2]; exact k ρ H _ Up.refl S (VR.bl_iff.mpr rfl)⟩
    · cases e
  · split at e
    · rename_i d ds e1 e2
      split at e
      · rename_i hs
        cases e
        exact op_notInD hu pins s σ H _ _ v u Q I rx ry ⟨d, ds, toD_ok S hx e1, toD_ok S hy e2, hs.1, hs.2, k ρ H _ Up.refl S (VR.bl_iff.mpr rfl)⟩
      · cases e
    · cases e
  · split at e
    · cases e
      rw [VR.str_iff] at hx hy; subst hx hy
      exact op_notin_str pins s σ H _ _ v u Q I rx ry ⟨_, _, rfl, rfl, k ρ H _ Up.refl S (VR.bl_iff.mpr rfl)⟩
    · cases e
  · cases e
end
end Sm

namespace Sm
open PySem PySem.Spec PyProof.Rows L2

/-- how a statement ends -/
inductive Fl where
  | nx (σ : Slots) (st : Store) | rt (x : PV) (st : Store) | bk (σ : Slots) (st : Store) | ct (σ : Slots) (st : Store)
  | exc (c : Nat) (fs : List (Str × PV)) (σ : Slots) (st : Store) | no
abbrev MS := Slots → Store → Fl
def Res.fl {α : Type} (σ : Slots) : Res α → (α → Store → Fl) → Fl
  | .ok a st, f => f a st
  | .exc c fs st, _ => .exc c fs σ st
  | .no, _ => .no
def PostS (C : Wc) (ρ : List Addr) (H : Hp) (D : Ends) : Fl → Prop
  | .nx σh st => ∀ ρ' H' τ, Up C.K ρ H ρ' H' → SR C.K ρ' H' st → SlR C.K ρ' H' σh τ → D.nx τ H'
  | .bk σh st => ∀ ρ' H' τ, Up C.K ρ H ρ' H' → SR C.K ρ' H' st → SlR C.K ρ' H' σh τ → D.bk τ H'
  | .ct σh st => ∀ ρ' H' τ, Up C.K ρ H ρ' H' → SR C.K ρ' H' st → SlR C.K ρ' H' σh τ → D.ct τ H'
  | .rt x st => ∀ ρ' H' v, Up C.K ρ H ρ' H' → SR C.K ρ' H' st → VR C.K ρ' H' x v → D.rt v H'
  | .exc c fs σh st => ∀ ρ' H' τ d vs, Up C.K ρ H ρ' H' → SR C.K ρ' H' st → SlR C.K ρ' H' σh τ → VRs C.K ρ' H' (fs.map (·.2)) vs → H' d = some (.xd ((fs.map (·.1)).zip vs)) → C.W (.ref (C.cl c)) (some d) τ H'
  | .no => False
def tS (C : Wc) (m : MS) : TS := fun D σ H => ∃ ρ st σh, SR C.K ρ H st ∧ SlR C.K ρ H σh σ ∧ PostS C ρ H D (m σh st)
section
variable {α : Type} {C : Wc} {ρ ρ' : List Addr} {H H' : Hp} {σ : L2.St} {D : Ends} {σh : Slots}
theorem PostS.up {m : Fl} (u : Up C.K ρ H ρ' H') (h : PostS C ρ H D m) : PostS C ρ' H' D m := by
  cases m with
  | nx _ _ => exact fun a b c d => h a b c (u.trans d)
  | bk _ _ => exact fun a b c d => h a b c (u.trans d)
  | ct _ _ => exact fun a b c d => h a b c (u.trans d)
  | rt _ _ => exact fun a b c d => h a b c (u.trans d)
  | exc _ _ _ _ => exact fun a b c d e q => h a b c d e (u.trans q)
  | no => exact h
/-- an expression ahead -/
theorem PostS.fl {m : Res α} {f : α → Store → Fl} (R : SlR C.K ρ H σh σ) (h : PostS C ρ H D (m.fl σh f)) : Post C ρ H σ (fun ρ' H' a => ∃ st, SR C.K ρ' H' st ∧ PostS C ρ' H' D (f a st)) m := by
  cases m with
  | ok r st => exact fun a b c d => ⟨st, d, PostS.up c h⟩
  | exc c fs st => exact fun a b d vs u S r e => h a b σ d vs u S (R.up u) r e
  | no => exact h
end
section
variable {X : Cx} {C : Wc}
theorem _root_.L2.PS.weak {e : Stmt} {t t' : TS} (h : PS X e t) (w : ∀ D σ H, t' D σ H → t D σ H) : PS X e t' := ⟨fun pins s σ H D I q => h.run pins s σ H D I (w D σ H q)⟩
theorem _root_.L2.PSs.weak {e : List Stmt} {t t' : TS} (h : PSs X e t) (w : ∀ D σ H, t' D σ H → t D σ H) : PSs X e t' := ⟨fun pins s σ H D I q => h.run pins s σ H D I (w D σ H q)⟩
theorem _root_.L2.PG.weak {e : Expr} {t t' : TG} (h : PG X e t) (w : ∀ v σ H Q, t' v σ H Q → t v σ H Q) : PG X e t' := ⟨fun pins s σ H v u Q I r q => h.run pins s σ H v u Q I r (w v σ H Q q)⟩
theorem _root_.L2.PGs.weak {e : List Expr} {t t' : TGs} (h : PGs X e t) (w : ∀ v σ H Q, t' v σ H Q → t v σ H Q) : PGs X e t' := ⟨fun pins s σ H v u Q I r q => h.run pins s σ H v u Q I r (w v σ H Q q)⟩
theorem _root_.L2.PI.weak {tg e : Expr} {t t' : TI} (h : PI X tg e t) (w : ∀ σ H R, t' σ H R → t σ H R) : PI X tg e t' := ⟨fun pins s σ H R I q => h.run pins s σ H R I (w σ H R q)⟩

/-! ### blocks -/
def mNext : MS := fun σ st => .nx σ st
def mSeq (a b : MS) : MS := fun σ st => match a σ st with
  | .nx σ' st' => b σ' st'
  | x => x
theorem ss_nil : PSs X [] (tS C mNext) := pss_nil.weak fun D σ H ⟨ρ, st, σh, S, R, p⟩ => p ρ H σ Up.refl S R
theorem ss_one {s : Stmt} {m : MS} (h : PS X s (tS C m)) : PSs X [s] (tS C m) := pss_one h
theorem ss_cons {s : Stmt} {rest : List Stmt} {a b : MS} (h : PS X s (tS C a)) (hr : PSs X rest (tS C b)) : PSs X (s :: rest) (tS C (mSeq a b)) :=
  (pss_cons h hr).weak fun D σ H ⟨ρ, st, σh, S, R, p⟩ => ⟨ρ, st, σh, S, R, by
    unfold mSeq at p
    cases e : a σh st with
    | nx σ' st' => rw [e] at p; exact fun ρ' H' τ u S' R' => ⟨ρ', st', σ', S', R', PostS.up u p⟩
    | rt x st' => rw [e] at p; exact p
    | bk _ _ => rw [e] at p; exact p
    | ct _ _ => rw [e] at p; exact p
    | exc _ _ _ _ => rw [e] at p; exact p
    | no => rw [e] at p; exact p⟩
def mBreak : MS := fun σ st => .bk σ st
def mCont : MS := fun σ st => .ct σ st
theorem s_break {pos} : PS X (.Break pos) (tS C mBreak) := ps_break.weak fun D σ H ⟨ρ, st, σh, S, R, p⟩ => p ρ H σ Up.refl S R
theorem s_cont {pos} : PS X (.Continue pos) (tS C mCont) := ps_continue.weak fun D σ H ⟨ρ, st, σh, S, R, p⟩ => p ρ H σ Up.refl S R
theorem s_pass {pos} : PS X (.Pass pos) (tS C mNext) := ps_pass.weak fun D σ H ⟨ρ, st, σh, S, R, p⟩ => p ρ H σ Up.refl S R
def mRet (a : ME) : MS := fun σ st => (a σ st).fl σ fun x s1 => .rt x s1
theorem s_ret {e : Expr} {m : ME} {pos : Pos} (h : PE X e (tE C m)) : PS X (.Return (some e) pos) (tS C (mRet m)) :=
  (ps_ret h).weak fun D σ H ⟨ρ, st, σh, S, R, p⟩ => ⟨ρ, st, σh, S, R, (PostS.fl R p).imp fun ρ1 H1 x s1 _ u1 S1 ⟨s1', S1', p1⟩ v hv => p1 ρ1 H1 v Up.refl S1' hv⟩
def mRetN : MS := fun _ st => .rt .non st
theorem s_retN {pos} : PS X (.Return none pos) (tS C mRetN) := ps_retN.weak fun D σ H ⟨ρ, st, σh, S, R, p⟩ => p ρ H _ Up.refl S (VR.non_iff.mpr rfl)
def mDrop (a : ME) : MS := fun σ st => (a σ st).fl σ fun _ s1 => .nx σ s1
theorem s_expr {e : Expr} {m : ME} {pos : Pos} (h : PE X e (tE C m)) (hs : swapsWith e none pos.line X.env = pure false := by rfl) : PS X (.Expr e pos) (tS C (mDrop m)) :=
  (ps_expr h hs).weak fun D σ H ⟨ρ, st, σh, S, R, p⟩ => ⟨ρ, st, σh, S, R, (PostS.fl R p).imp fun ρ1 H1 x s1 _ u1 S1 ⟨s1', S1', p1⟩ v hv => p1 ρ1 H1 σ Up.refl S1' (R.up u1)⟩
def mIfS (t : MT) (a b : MS) : MS := fun σ st => (t σ st).fl σ fun c s1 => if c = true then a σ s1 else b σ s1
theorem s_if {c : Expr} {p q : List Stmt} {t : MT} {a b : MS} {pos : Pos} (hc : PT X c (tT C t)) (ha : PSs X p (tS C a)) (hb : PSs X q (tS C b)) : PS X (.If c p q pos) (tS C (mIfS t a b)) :=
  (ps_if hc ha hb).weak fun D σ H ⟨ρ, st, σh, S, R, p⟩ => ⟨ρ, st, σh, S, R, (PostS.fl R p).imp fun ρ1 H1 c s1 _ u1 S1 ⟨s1', S1', p1⟩ => by
    cases c with
    | true => exact iteT ⟨ρ1, s1', σh, S1', R.up u1, p1⟩
    | false => exact iteF ⟨ρ1, s1', σh, S1', R.up u1, p1⟩⟩

/-! ### targets -/
abbrev MG := PV → Slots → Store → Option (Slots × Store)
abbrev MGs := List PV → Slots → Store → Option (Slots × Store)
def PostG (C : Wc) (vs : List Nat) (ρ : List Addr) (H : Hp) (σ : L2.St) (Q : L2.St → Hp → Prop) : Option (Slots × Store) → Prop
  | some (σ', st') => ∀ ρ' H' τ, Up C.K ρ H ρ' H' → SR C.K ρ' H' st' → SlR C.K ρ' H' σ' τ → wipe τ vs = wipe σ vs → Q τ H'
  | none => False
def tG (C : Wc) (vs : List Nat) (g : MG) : TG := fun v σ H Q => ∃ ρ st σh x, SR C.K ρ H st ∧ SlR C.K ρ H σh σ ∧ VR C.K ρ H x v ∧ PostG C vs ρ H σ Q (g x σh st)
def tGs (C : Wc) (vs : List Nat) (g : MGs) : TGs := fun v σ H Q => ∃ ρ st σh x, SR C.K ρ H st ∧ SlR C.K ρ H σh σ ∧ VRs C.K ρ H x v ∧ PostG C vs ρ H σ Q (g x σh st)
theorem wipe_set {vs : List Nat} {σ : L2.St} {i : Nat} {o : Option V} (h : i ∈ vs) : wipe (σ.set i o) vs = wipe σ vs := by
  induction vs with
  | nil => cases h
  | cons j vs ih =>
    unfold wipe
    by_cases hj : i = j
    · subst hj
      by_cases hi : i ∈ vs
      · rw [ih hi]
      · have key : ∀ ws : List Nat, (wipe (σ.set i o) ws).set i none = (wipe σ ws).set i none := by
          intro ws
          induction ws with
          | nil => unfold wipe; rw [List.set_set]
          | cons w ws ih2 =>
            unfold wipe
            by_cases hw : w = i
            · subst hw; rw [List.set_set, List.set_set]; exact ih2
            · rw [List.set_comm _ _ hw, List.set_comm _ _ hw, ih2]
        exact key vs
    · have hi : i ∈ vs := by
        rcases List.mem_cons.mp h with e | e
        · exact absurd e hj
        · exact e
      rw [ih hi]
def gNm (i : Nat) : MG := fun x σ st => some (σ.set i (some x), st)
theorem g_name {i : Nat} {x : Str} {pos : Pos} {vs : List Nat} (hN : X.N.Nodup) (hi : X.N[i]? = some x) (hv : i ∈ vs) (hx : Loc X.env.scope x := by first | exact Or.inl rfl | exact Or.inr rfl) (hf : X.fn x = true ∨ X.env.scope.names.lookup x = some .local := by first | exact .inl rfl | exact .inr rfl) :
    PG X (.Name x pos) (tG C vs (gNm i)) := (pg_name hN hi hx hf).weak fun v σ H Q ⟨ρ, st, σh, x, S, R, r, p⟩ => p ρ H _ Up.refl S (R.set i r) (wipe_set hv)
def gNil : MGs := fun xs σ st => match xs with
  | [] => some (σ, st)
  | _ => none
def gCons (g : MG) (r : MGs) : MGs := fun xs σ st => match xs with
  | x :: ys => (g x σ st).bind fun (σ', st') => r ys σ' st'
  | [] => none
theorem gs_nil {vs : List Nat} : PGs X [] (tGs C vs gNil) := pgs_nil.weak fun v σ H Q ⟨ρ, st, σh, x, S, R, r, p⟩ => by
  cases x with
  | nil => rw [VRs.nil_iff] at r; exact ⟨r, p ρ H σ Up.refl S R rfl⟩
  | cons _ _ => exact p.elim
theorem gs_cons {e : Expr} {es : List Expr} {g : MG} {r : MGs} {vs : List Nat} (h : PG X e (tG C vs g)) (hr : PGs X es (tGs C vs r)) (ha : (assignEach (e :: es) X.env).map (·.2) = assign e X.env :: (assignEach es X.env).map (·.2) := by rfl) : PGs X (e :: es) (tGs C vs (gCons g r)) :=
  (pgs_cons h hr ha).weak fun v σ H Q ⟨ρ, st, σh, x, S, R, q, p⟩ => by
    cases x with
    | nil => exact p.elim
    | cons y ys =>
      rw [VRs.cons_iff] at q
      obtain ⟨w, ws, rfl, q1, q2⟩ := q
      refine ⟨w, ws, rfl, ρ, st, σh, y, S, R, q1, ?_⟩
      unfold gCons at p
      dsimp only at p
      cases e : g y σh st with
      | none => rw [e] at p; exact p.elim
      | some z =>
        rw [e] at p
        obtain ⟨σ', st'⟩ := z
        refine fun ρ' H' τ u S' R' hw => ⟨ρ', st', σ', ys, S', R', q2.up u, ?_⟩
        cases e2 : r ys σ' st' with
        | none => rw [Option.bind_some, e2] at p; exact p.elim
        | some z2 => rw [Option.bind_some, e2] at p; exact fun ρ2 H2 τ2 u2 S2 R2 hw2 => p ρ2 H2 τ2 (u.trans u2) S2 R2 (hw2.trans hw)
def gTp (n : Nat) (g : MGs) : MG := fun x σ st => match x with
  | .tup xs => if xs.length = n then g xs σ st else none
  | _ => none
theorem g_tup {es : List Expr} {k n : Nat} {pos : Pos} {g : MGs} {vs : List Nat} (hK : X.K = C.K) (hc : X.calm = true) (h : PGs X es (tGs C vs g)) (hn : (assignEach es X.env).length = n := by rfl) (hst : (assignEach es X.env).findIdx? (·.1) = none := by rfl) : PG X (.Tuple es k pos) (tG C vs (gTp n g)) :=
  (pg_tup hc h hn hst).weak fun v σ H Q ⟨ρ, st, σh, x, S, R, q, p⟩ => by
    unfold gTp at p
    split at p
    · rw [VR.tup_iff] at q
      obtain ⟨a, ws, rfl, q1, q2⟩ := q
      split at p
      · exact ⟨a, ws, rfl, hK ▸ q1, by rw [q2.length]; assumption, ρ, st, σh, _, S, R, q2, p⟩
      · exact p.elim
    · exact p.elim
/-- xs[i] = v -/
def gIx (o i : ME) : MG := fun x σ st => match o σ st with
  | .ok (.ref n) s1 => match i σ s1 with
    | .ok (.int k) s2 => match getM s2 n with
      | some xs => match ixN xs.length k with
        | some j => some (σ, s2.set n (.lst (xs.set j x)))
        | none => none
      | none => none
    | _ => none
  | _ => none
theorem g_ix {o i : Expr} {mo mi : ME} {pos : Pos} {vs : List Nat} (ho : PE X o (tE C mo)) (hi : PE X i (tE C mi))
    (ha : ∀ v, assign (.Subscript o i pos) X.env v = (do let ov ← holding [v] (eval o X.env); let iv ← holding [v, ov] (eval i X.env); standAt pos; holding [v, ov, iv] (setItem ov iv v); release [v, ov, iv] []) := by intro _; rfl) : PG X (.Subscript o i pos) (tG C vs (gIx mo mi)) :=
  (pg_sub ho hi set_list ha).weak fun v σ H Q ⟨ρ, st, σh, x, S, R, q, p⟩ => by
    unfold gIx at p
    split at p
    · rename_i n s1 e1
      split at p
      · rename_i k s2 e2
        split at p
        · rename_i xs e3
          split at p
          · rename_i j e4
            refine ⟨ρ, st, σh, S, R, ?_⟩
            rw [e1]
            intro ρ1 H1 u1 S1 w hw
            refine ⟨ρ1, s1, σh, S1, R.up u1, ?_⟩
            rw [e2]
            intro ρ2 H2 u2 S2 z hz
            rw [VR.ref_iff] at hw
            obtain ⟨a, rfl, hw⟩ := hw
            rw [VR.int_iff] at hz
            subst hz
            obtain ⟨b0, b, ws, b1, b2, b3⟩ := getM_at S2 e3
            rw [u2.r n a hw] at b1; cases b1
            refine ⟨a, ws, k, j, rfl, rfl, b2, by rw [b3.length]; exact e4, ?_⟩
            exact p ρ2 _ σ (u1.trans (u2.trans (up_write b2))) (S2.write b0 (u2.r n a hw) b2 (VRs.set j b3 (q.up (u1.trans u2)))) ((R.up (u1.trans u2)).up (up_write b2)) rfl
          · exact p.elim
        · exact p.elim
      · exact p.elim
    · exact p.elim
def mAsg (a : ME) (g : MG) : MS := fun σ st => (a σ st).fl σ fun x s1 => match g x σ s1 with
  | some (σ', s2) => .nx σ' s2
  | none => .no
theorem s_asg {tg e : Expr} {m : ME} {g : MG} {vs : List Nat} {pos : Pos} (he : PE X e (tE C m)) (hg : PG X tg (tG C vs g)) (hs : swapsWithSole [tg] e pos.line X.env = pure false := by rfl) (hw : swappedStores [tg] e X.env = pure none := by rfl)
    (h1 : (assignEach [tg] X.env).map (·.2) = [assign tg X.env] := by rfl) : PS X (.Assign [tg] e pos) (tS C (mAsg m g)) :=
  (ps_asg he hg hs hw h1).weak fun D σ H ⟨ρ, st, σh, S, R, p⟩ => ⟨ρ, st, σh, S, R, (PostS.fl R p).imp fun ρ1 H1 x s1 _ u1 S1 ⟨s1', S1', p1⟩ v hv => by
    refine ⟨ρ1, s1', σh, x, S1', R.up u1, hv, ?_⟩
    cases e : g x σh s1' with
    | none => rw [e] at p1; exact p1.elim
    | some z =>
      rw [e] at p1
      exact fun ρ' H' τ u S' R' _ => p1 ρ' H' τ u S' R'⟩
/-- a, b = c, d -/
def mPar (i j : Nat) (a : MA) : MS := fun σ st => (a σ st).fl σ fun xs s1 => match xs with
  | [x, y] => .nx ((σ.set i (some x)).set j (some y)) s1
  | _ => .no
theorem s_par {i j : Nat} {x y : Str} {a b : Expr} {m : MA} {px py pt pos : Pos} {kt k2 pt2} (hc : X.calm = true) (hN : X.N.Nodup) (hi : X.N[i]? = some x) (hj : X.N[j]? = some y) (hij : i ≠ j) (hx : X.env.scope.names.lookup x = some .local) (hy : X.env.scope.names.lookup y = some .local)
    (ha : PA X [a, b] (tA C m)) (hw : swappedStores [.Tuple [.Name x px, .Name y py] kt pt] (.Tuple [a, b] k2 pt2) X.env = pure (some [x, y])) (hs : swapsWithSole [.Tuple [.Name x px, .Name y py] kt pt] (.Tuple [a, b] k2 pt2) pos.line X.env = pure false := by rfl) :
    PS X (.Assign [.Tuple [.Name x px, .Name y py] kt pt] (.Tuple [a, b] k2 pt2) pos) (tS C (mPar i j m)) :=
  (ps_par hc hN hi hj hij hx hy ha hw hs).weak fun D σ H ⟨ρ, st, σh, S, R, p⟩ => ⟨ρ, st, σh, S, R, (PostS.fl R p).imp fun ρ1 H1 xs s1 _ u1 S1 ⟨s1', S1', p1⟩ vs hv => by
    split at p1
    · rw [VRs.cons_iff] at hv
      obtain ⟨v, r, rfl, h1, hv⟩ := hv
      rw [VRs.cons_iff] at hv
      obtain ⟨w, r, rfl, h2, hv⟩ := hv
      rw [VRs.nil_iff] at hv
      subst hv
      exact ⟨v, w, rfl, p1 ρ1 H1 _ Up.refl S1' (((R.up u1).set i h1).set j h2)⟩
    · exact p1.elim⟩
def mPar3 (i j l : Nat) (a : MA) : MS := fun σ st => (a σ st).fl σ fun xs s1 => match xs with
  | [x, y, z] => .nx (((σ.set i (some x)).set j (some y)).set l (some z)) s1
  | _ => .no
theorem s_par3 {i j l : Nat} {x y z : Str} {a b c : Expr} {m : MA} {px py pz pt pos : Pos} {kt k2 pt2} (hc : X.calm = true) (hN : X.N.Nodup) (hi : X.N[i]? = some x) (hj : X.N[j]? = some y) (hl : X.N[l]? = some z) (hij : i ≠ j) (hil : i ≠ l) (hjl : j ≠ l)
    (hx : X.env.scope.names.lookup x = some .local) (hy : X.env.scope.names.lookup y = some .local) (hz : X.env.scope.names.lookup z = some .local) (ha : PA X [a, b, c] (tA C m))
    (hw : swappedStores [.Tuple [.Name x px, .Name y py, .Name z pz] kt pt] (.Tuple [a, b, c] k2 pt2) X.env = pure (some [x, y, z]))
    (hs : swapsWithSole [.Tuple [.Name x px, .Name y py, .Name z pz] kt pt] (.Tuple [a, b, c] k2 pt2) pos.line X.env = pure false := by rfl) :
    PS X (.Assign [.Tuple [.Name x px, .Name y py, .Name z pz] kt pt] (.Tuple [a, b, c] k2 pt2) pos) (tS C (mPar3 i j l m)) :=
  (ps_par3 hc hN hi hj hl hij hil hjl hx hy hz ha hw hs).weak fun D σ H ⟨ρ, st, σh, S, R, p⟩ => ⟨ρ, st, σh, S, R, (PostS.fl R p).imp fun ρ1 H1 xs s1 _ u1 S1 ⟨s1', S1', p1⟩ vs hv => by
    split at p1
    · rw [VRs.cons_iff] at hv
      obtain ⟨v, r, rfl, h1, hv⟩ := hv
      rw [VRs.cons_iff] at hv
      obtain ⟨w, r, rfl, h2, hv⟩ := hv
      rw [VRs.cons_iff] at hv
      obtain ⟨u, r, rfl, h3, hv⟩ := hv
      rw [VRs.nil_iff] at hv
      subst hv
      exact ⟨v, w, u, rfl, p1 ρ1 H1 _ Up.refl S1' ((((R.up u1).set i h1).set j h2).set l h3)⟩
    · exact p1.elim⟩
/-- x += e of ints -/
def mAug (i : Nat) (f : Int → Int → Int) (a : ME) : MS := fun σ st => match σ[i]? with
  | some (some (.int n)) => (a σ st).fl σ fun y s1 => match y with
    | .int k => .nx (σ.set i (some (.int (f n k)))) s1
    | _ => .no
  | _ => .no
theorem s_aug {i : Nat} {x : Str} {op : Operator} {f : Int → Int → Int} {e : Expr} {m : ME} {pos pos' : Pos} (hN : X.N.Nodup) (hi : X.N[i]? = some x) (he : PE X e (tE C m)) (ho : PIp X op (ipI f)) (hx : Loc X.env.scope x := by first | exact Or.inl rfl | exact Or.inr rfl) (hf : X.fn x = true ∨ X.env.scope.names.lookup x = some .local := by first | exact .inl rfl | exact .inr rfl) :
    PS X (.AugAssign (.Name x pos') op e pos) (tS C (mAug i f m)) := (ps_aug hN hi hx he ho hf).weak fun D σ H ⟨ρ, st, σh, S, R, p⟩ => by
  unfold mAug at p
  split at p
  · rename_i n en
    obtain ⟨v, e1, e2⟩ := R.2 i _ en
    rw [VR.int_iff] at e2
    subst e2
    refine ⟨_, e1, ρ, st, σh, S, R, (PostS.fl R p).imp fun ρ1 H1 y s1 _ u1 S1 ⟨s1', S1', p1⟩ w hw => ?_⟩
    cases y with
    | int k =>
      rw [VR.int_iff] at hw
      subst hw
      exact ⟨n, k, rfl, rfl, p1 ρ1 H1 _ Up.refl S1' ((R.up u1).set i (VR.int_iff.mpr rfl))⟩
    | _ => exact p1.elim
  · exact p.elim
end
end Sm

namespace Sm
open PySem PySem.Spec PyProof.Rows L2

/-! ### the same, by looking -/
mutual
def same : PV → PV → Bool
  | .non, .non => true
  | .bl a, .bl b => a == b
  | .int a, .int b => decide (a = b)
  | .str a, .str b => decide (a = b)
  | .tup xs, .tup ys => sames xs ys
  | .ref a, .ref b => a == b
  | _, _ => false
def sames : List PV → List PV → Bool
  | [], [] => true
  | x :: xs, y :: ys => same x y && sames xs ys
  | _, _ => false
end
mutual
theorem same_eq : ∀ {x y : PV}, same x y = true → x = y
  | .non, y, h => by cases y <;> simp [same] at h ⊢
  | .bl a, y, h => by cases y <;> simp [same] at h ⊢; exact h
  | .int a, y, h => by cases y <;> simp [same] at h ⊢; exact h
  | .str a, y, h => by cases y <;> simp [same] at h ⊢; exact h
  | .tup a, y, h => by cases y <;> simp [same] at h ⊢; exact sames_eq h
  | .ref a, y, h => by cases y <;> simp [same] at h ⊢; exact h
theorem sames_eq : ∀ {xs ys : List PV}, sames xs ys = true → xs = ys
  | [], ys, h => by cases ys <;> simp [sames] at h ⊢
  | x :: xs, ys, h => by
    cases ys with
    | nil => simp [sames] at h
    | cons y ys =>
      rw [sames, Bool.and_eq_true] at h
      rw [same_eq h.1, sames_eq h.2]
end
mutual
theorem same_refl : ∀ x : PV, same x x = true
  | .non => by simp [same]
  | .bl a => by simp [same]
  | .int a => by simp [same]
  | .str a => by simp [same]
  | .tup a => by rw [same]; exact sames_refl a
  | .ref a => by simp [same]
theorem sames_refl : ∀ x : List PV, sames x x = true
  | [] => by simp [sames]
  | x :: xs => by rw [sames, same_refl x, sames_refl xs]; rfl
end
/-- a walked list stands as it was -/
def stays (w : Option Nat) (xs : List PV) (st : Store) : Bool := match w with
  | none => true
  | some n => match getL st n with
    | some ys => sames ys xs
    | none => false
theorem stays_none {xs : List PV} {st : Store} : stays none xs st = true := rfl
theorem stays_some {n : Nat} {xs : List PV} {st : Store} (h : getL st n = some xs) : stays (some n) xs st = true := by
  show (match getL st n with | some ys => sames ys xs | none => false) = true
  rw [h]
  exact sames_refl xs
theorem stays_get {n : Nat} {xs : List PV} {st : Store} (h : stays (some n) xs st = true) : getL st n = some xs := by
  unfold stays at h
  dsimp only at h
  split at h
  · rename_i ys e
    rw [e, sames_eq h]
  · cases h

/-! ### what is walked -/
abbrev MI := Slots → Store → Res (Option Nat × List PV)
structure JS (K : PySem.W.Frag) (ρ0 : List Addr) (H0 : Hp) (J : It) (w : Option Nat) (xs : List PV) : Prop where
  go : ∀ (i : Nat) (x : PV) ρ H st, Up K ρ0 H0 ρ H → SR K ρ H st → stays w xs st = true → xs[i]? = some x → J.go i H ∧ ∀ v H', J.yld i H v H' → ∃ ρ', Up K ρ H ρ' H' ∧ SR K ρ' H' st ∧ VR K ρ' H' x v
  stop : ∀ (i : Nat) ρ H st, Up K ρ0 H0 ρ H → SR K ρ H st → stays w xs st = true → xs.length ≤ i → J.stop i H
def tI (C : Wc) (m : MI) : TI := fun σ H R => ∃ ρ st σh, SR C.K ρ H st ∧ SlR C.K ρ H σh σ ∧ Post C ρ H σ (fun ρ' H' wx => ∀ J, JS C.K ρ' H' J wx.1 wx.2 → R J H') (m σh st)
section
variable {X : Cx} {C : Wc}
def mItL (a : ME) : MI := fun σ st => (a σ st).bind fun x s1 => match x with
  | .ref n => match getL s1 n with
    | some xs => .ok (some n, xs) s1
    | none => .no
  | _ => .no
def mItT (a : ME) : MI := fun σ st => (a σ st).bind fun x s1 => match x with
  | .tup xs => .ok (none, xs) s1
  | _ => .no
theorem js_list {K : PySem.W.Frag} {ρ : List Addr} {H : Hp} {n : Nat} {a : Addr} {xs : List PV} (ha : ρ[n]? = some a) : JS K ρ H (Itl K a) (some n) xs where
  go := fun i x ρ1 H1 st u S hs hx => by
    obtain ⟨b, vs, h1, h2, h3⟩ := getL_sql S (stays_get hs)
    rw [u.r n a ha] at h1; cases h1
    obtain ⟨v, e1, e2⟩ := h3.get hx
    exact ⟨⟨vs, v, h2, e1⟩, fun w H' ⟨e, f⟩ => by
      subst e
      have := f vs h2
      rw [e1] at this; cases this
      exact ⟨ρ1, Up.refl, S, e2⟩⟩
  stop := fun i ρ1 H1 st u S hs hx => by
    obtain ⟨b, vs, h1, h2, h3⟩ := getL_sql S (stays_get hs)
    rw [u.r n a ha] at h1; cases h1
    exact ⟨vs, h2, by rw [h3.length]; exact hx⟩
theorem js_tup {K : PySem.W.Frag} {ρ : List Addr} {H : Hp} {a : Addr} {xs : List PV} {vs : List V} (h2 : SqT K H a vs) (h3 : VRs K ρ H xs vs) : JS K ρ H (Itt K a) none xs where
  go := fun i x ρ1 H1 st u S hs hx => by
    obtain ⟨v, e1, e2⟩ := (h3.up u).get hx
    exact ⟨⟨vs, v, u.t a vs h2, e1⟩, fun w H' ⟨e, f⟩ => by
      subst e
      have := f vs (u.t a vs h2)
      rw [e1] at this; cases this
      exact ⟨ρ1, Up.refl, S, e2⟩⟩
  stop := fun i ρ1 H1 st u S hs hx => ⟨vs, u.t a vs h2, by rw [h3.length]; exact hx⟩
def rangeP (lo : Int) (n : Nat) : List PV := (List.range n).map fun i => .int (lo + (i : Nat))
theorem js_range {K : PySem.W.Frag} {ρ : List Addr} {H : Hp} {lo : Int} {n : Nat} : JS K ρ H (Itr lo n) none (rangeP lo n) where
  go := fun i x ρ1 H1 st u S hs hx => by
    unfold rangeP at hx
    rw [List.getElem?_map] at hx
    by_cases hi : i < n
    · rw [List.getElem?_range hi] at hx
      cases hx
      exact ⟨hi, fun w H' ⟨e, f⟩ => by
        subst e f
        exact ⟨ρ1, Up.refl, S, VR.int_iff.mpr rfl⟩⟩
    · rw [List.getElem?_eq_none (by rw [List.length_range]; omega)] at hx
      cases hx
  stop := fun i ρ1 H1 st u S hs hx => by
    unfold rangeP at hx
    rw [List.length_map, List.length_range] at hx
    exact hx
theorem i_list {tg l : Expr} {m : ME} (hK : X.K = C.K) (h : PE X l (tE C m)) : PI X tg l (tI C (mItL m)) := (pi_list h).weak fun σ H R ⟨ρ, st, σh, S, Rl, p⟩ =>
  ⟨ρ, st, σh, S, Rl, (Post.bind p).imp fun ρ1 H1 x s1 _ u1 S1 ⟨s1', S1', p1⟩ v hv => by
    split at p1
    · rename_i n
      split at p1
      · rename_i xs e
        rw [VR.ref_iff] at hv
        obtain ⟨a, rfl, ha⟩ := hv
        obtain ⟨b, vs, h1, h2, h3⟩ := getL_sql S1' e
        rw [ha] at h1; cases h1
        exact ⟨a, rfl, ⟨vs, hK ▸ h2⟩, p1 ρ1 H1 Up.refl S1' _ (by rw [hK]; exact js_list ha)⟩
      · exact p1.elim
    · exact p1.elim⟩
theorem i_tup {tg l : Expr} {m : ME} (hK : X.K = C.K) (h : PE X l (tE C m)) : PI X tg l (tI C (mItT m)) := (pi_tup h).weak fun σ H R ⟨ρ, st, σh, S, Rl, p⟩ =>
  ⟨ρ, st, σh, S, Rl, (Post.bind p).imp fun ρ1 H1 x s1 _ u1 S1 ⟨s1', S1', p1⟩ v hv => by
    split at p1
    · rw [VR.tup_iff] at hv
      obtain ⟨a, vs, rfl, h2, h3⟩ := hv
      exact ⟨a, rfl, ⟨vs, hK ▸ h2⟩, p1 ρ1 H1 Up.refl S1' _ (by rw [hK]; exact js_tup h2 h3)⟩
    · exact p1.elim⟩
def mItR1 (a : MA) : MI := fun σ st => (a σ st).bind fun xs s1 => match xs with
  | [.int j] => if -(2 ^ 62) ≤ j ∧ j < 2 ^ 62 then .ok (none, rangeP 0 j.toNat) s1 else .no
  | _ => .no
def mItR2 (a : MA) : MI := fun σ st => (a σ st).bind fun xs s1 => match xs with
  | [.int i, .int j] => if -(2 ^ 62) ≤ i ∧ i < 2 ^ 62 ∧ -(2 ^ 62) ≤ j ∧ j < 2 ^ 62 then .ok (none, rangeP i (j - i).toNat) s1 else .no
  | _ => .no
theorem i_range1 {tg a : Expr} {m : MA} {p pos : Pos} (hm : X.mg "range" = none) (h : PA X [a] (tA C m)) (hg : Gl X "range" := by rfl) (hs : starEach [a] X.env = [(false, eval a X.env)] := by rfl) : PI X tg (.Call (.Name "range" p) [a] [] pos) (tI C (mItR1 m)) := (pi_range1 hg hm h hs).weak fun σ H R ⟨ρ, st, σh, S, Rl, p⟩ =>
  ⟨ρ, st, σh, S, Rl, (Post.bind p).imp fun ρ1 H1 x s1 _ u1 S1 ⟨s1', S1', p1⟩ vs hv => by
    split at p1
    · split at p1
      · rename_i hj
        rw [VRs.cons_iff] at hv
        obtain ⟨v, r, rfl, h1, hv⟩ := hv
        rw [VRs.nil_iff] at hv
        rw [VR.int_iff] at h1
        subst hv h1
        exact ⟨_, rfl, hj.1, hj.2, p1 ρ1 H1 Up.refl S1' _ js_range⟩
      · exact p1.elim
    · exact p1.elim⟩
theorem i_range2 {tg a b : Expr} {m : MA} {p pos : Pos} (hm : X.mg "range" = none) (h : PA X [a, b] (tA C m)) (hg : Gl X "range" := by rfl) (hs : starEach [a, b] X.env = [(false, eval a X.env), (false, eval b X.env)] := by rfl) (hs2 : starEach [b] X.env = [(false, eval b X.env)] := by rfl) : PI X tg (.Call (.Name "range" p) [a, b] [] pos) (tI C (mItR2 m)) := (pi_range2 hg hm h hs hs2).weak fun σ H R ⟨ρ, st, σh, S, Rl, p⟩ =>
  ⟨ρ, st, σh, S, Rl, (Post.bind p).imp fun ρ1 H1 x s1 _ u1 S1 ⟨s1', S1', p1⟩ vs hv => by
    split at p1
    · split at p1
      · rename_i hj
        rw [VRs.cons_iff] at hv
        obtain ⟨v, r, rfl, h1, hv⟩ := hv
        rw [VRs.cons_iff] at hv
        obtain ⟨w, r, rfl, h2, hv⟩ := hv
        rw [VRs.nil_iff] at hv
        rw [VR.int_iff] at h1 h2
        subst hv h1 h2
        exact ⟨_, _, rfl, hj, p1 ρ1 H1 Up.refl S1' _ js_range⟩
      · exact p1.elim
    · exact p1.elim⟩

/-! ### for -/
def loopF (g : MG) (b : MS) (w : Option Nat) (all : List PV) : List PV → MS
  | [], σ, st => if stays w all st = true then .nx σ st else .no
  | x :: r, σ, st => if stays w all st = true then match g x σ st with
      | some (σ1, s1) => match b σ1 s1 with
        | .nx σ2 s2 => loopF g b w all r σ2 s2
        | .ct σ2 s2 => loopF g b w all r σ2 s2
        | .bk σ2 s2 => .nx σ2 s2
        | .rt y s2 => .rt y s2
        | .exc c fs σ2 s2 => .exc c fs σ2 s2
        | .no => .no
      | none => .no
    else .no
def mFor (mi : MI) (g : MG) (b : MS) : MS := fun σ st => (mi σ st).fl σ fun wx s1 => loopF g b wx.1 wx.2 wx.2 σ s1
theorem s_for {tg iter : Expr} {body : List Stmt} {mi : MI} {g : MG} {b : MS} {vs : List Nat} {pos : Pos} (hp : PassesOwn (model X.prog X.w) X.A X.env X.xe) (hc : X.calm = true) (hi : PI X tg iter (tI C mi)) (hg : PG X tg (tG C vs g)) (hb : PSs X body (tS C b))
    (hs : ∀ x, foldedSetIterable iter X.env x = pure x := by intro _; rfl) : PS X (.For tg iter body [] pos) (tS C (mFor mi g b)) :=
  (ps_for hp hc hi hg hb hs).weak fun D σ H ⟨ρ, st, σh, S, R, p⟩ => ⟨ρ, st, σh, S, R, (PostS.fl R p).imp fun ρ0 H0 wx s1 _ u0 S0 ⟨st0, S0', p0⟩ J hJ => by
    obtain ⟨w, all⟩ := wx
    dsimp only at p0 hJ
    refine ⟨fun i m σ H => m = all.length - i ∧ i ≤ all.length ∧ ∃ ρ st σh, Up C.K ρ0 H0 ρ H ∧ SR C.K ρ H st ∧ SlR C.K ρ H σh σ ∧ PostS C ρ H D (loopF g b w all (all.drop i) σh st),
      ⟨all.length, rfl, Nat.zero_le _, ρ0, st0, σh, Up.refl, S0', R.up u0, p0⟩, ?_⟩
    rintro i m σ1 H1 ⟨rfl, hi, ρ1, st1, σh1, u1, S1, R1, p1⟩
    by_cases hlt : i < all.length
    · have hx : all[i]? = some all[i] := List.getElem?_eq_getElem hlt
      rw [List.drop_eq_getElem_cons hlt] at p1
      unfold loopF at p1
      split at p1
      · rename_i hst
        obtain ⟨g1, g2⟩ := hJ.go i _ ρ1 H1 st1 u1 S1 hst hx
        refine .inr ⟨g1, fun σ' H' => i + 1 ≤ all.length ∧ ∃ ρ st σh, Up C.K ρ0 H0 ρ H' ∧ SR C.K ρ H' st ∧ SlR C.K ρ H' σh σ' ∧ PostS C ρ H' D (loopF g b w all (all.drop (i + 1)) σh st),
          fun σ' H' h => ⟨all.length - (i + 1), by omega, rfl, h.1, h.2⟩, fun v H' hy => ?_⟩
        obtain ⟨ρ2, u2, S2, r2⟩ := g2 v H' hy
        refine ⟨ρ2, st1, σh1, all[i], S2, R1.up u2, r2, ?_⟩
        cases e : g all[i] σh1 st1 with
        | none => rw [e] at p1; exact p1.elim
        | some z =>
          obtain ⟨σ2, s2⟩ := z
          rw [e] at p1
          refine fun ρ3 H3 τ u3 S3 R3 _ => ⟨ρ3, s2, σ2, S3, R3, ?_⟩
          have uu := (u1.trans u2).trans u3
          dsimp only at p1
          cases e2 : b σ2 s2 with
          | nx σ4 s4 =>
            rw [e2] at p1
            exact fun ρ4 H4 τ4 u4 S4 R4 => ⟨hlt, ρ4, s4, σ4, uu.trans u4, S4, R4, PostS.up ((u2.trans u3).trans u4) p1⟩
          | ct σ4 s4 =>
            rw [e2] at p1
            exact fun ρ4 H4 τ4 u4 S4 R4 => ⟨hlt, ρ4, s4, σ4, uu.trans u4, S4, R4, PostS.up ((u2.trans u3).trans u4) p1⟩
          | bk σ4 s4 => rw [e2] at p1; exact PostS.up (u2.trans u3) (m := .nx σ4 s4) p1
          | rt y s4 => rw [e2] at p1; exact PostS.up (u2.trans u3) (m := .rt y s4) p1
          | exc c fs σ4 s4 => rw [e2] at p1; exact PostS.up (u2.trans u3) (m := .exc c fs σ4 s4) p1
          | no => rw [e2] at p1; exact p1.elim
      · exact p1.elim
    · have e : all.drop i = [] := List.drop_eq_nil_of_le (by omega)
      rw [e] at p1
      unfold loopF at p1
      split at p1
      · rename_i hst
        exact .inl ⟨hJ.stop i ρ1 H1 st1 u1 S1 hst (by omega), p1 ρ1 H1 σ1 Up.refl S1 R1⟩
      · exact p1.elim⟩

/-! ### while -/
def whileF (t : MT) (b : MS) : Nat → MS
  | 0, _, _ => .no
  | n + 1, σ, st => (t σ st).fl σ fun c s1 => if c = true then match b σ s1 with
      | .nx σ2 s2 => whileF t b n σ2 s2
      | .ct σ2 s2 => whileF t b n σ2 s2
      | .bk σ2 s2 => .nx σ2 s2
      | .rt y s2 => .rt y s2
      | .exc c fs σ2 s2 => .exc c fs σ2 s2
      | .no => .no
    else .nx σ s1
theorem s_while (n : Nat) {c : Expr} {body : List Stmt} {t : MT} {b : MS} {pos : Pos} (hp : PassesOwn (model X.prog X.w) X.A X.env X.xe) (hc : PT X c (tT C t)) (hb : PSs X body (tS C b)) : PS X (.While c body [] pos) (tS C (whileF t b n)) :=
  (ps_while hp hc hb).weak fun D σ H ⟨ρ, st, σh, S, R, p⟩ => by
    refine ⟨fun m σ H => ∃ ρ st σh, SR C.K ρ H st ∧ SlR C.K ρ H σh σ ∧ PostS C ρ H D (whileF t b m σh st), ⟨n, ρ, st, σh, S, R, p⟩, ?_⟩
    rintro m σ1 H1 ⟨ρ1, st1, σh1, S1, R1, p1⟩
    cases m with
    | zero => exact p1.elim
    | succ m =>
      unfold whileF at p1
      refine ⟨ρ1, st1, σh1, S1, R1, (PostS.fl R1 p1).imp fun ρ2 H2 c s2 _ u2 S2 ⟨s2', S2', p2⟩ => ?_⟩
      cases c with
      | false => exact iteF (p2 ρ2 H2 σ1 Up.refl S2' (R1.up u2))
      | true =>
        refine iteT ?_
        rw [if_pos rfl] at p2
        refine ⟨fun σ' H' => ∃ ρ st σh, SR C.K ρ H' st ∧ SlR C.K ρ H' σh σ' ∧ PostS C ρ H' D (whileF t b m σh st), fun σ' H' h => ⟨m, Nat.lt_succ_self m, h⟩, ρ2, s2', σh1, S2', R1.up u2, ?_⟩
        cases e2 : b σh1 s2' with
        | nx σ4 s4 => rw [e2] at p2; exact fun ρ4 H4 τ4 u4 S4 R4 => ⟨ρ4, s4, σ4, S4, R4, PostS.up u4 p2⟩
        | ct σ4 s4 => rw [e2] at p2; exact fun ρ4 H4 τ4 u4 S4 R4 => ⟨ρ4, s4, σ4, S4, R4, PostS.up u4 p2⟩
        | bk σ4 s4 => rw [e2] at p2; exact p2
        | rt y s4 => rw [e2] at p2; exact p2
        | exc c fs σ4 s4 => rw [e2] at p2; exact p2
        | no => rw [e2] at p2; exact p2.elim

/-! ### comprehensions -/
def wipeS (σ : Slots) : List Nat → Slots
  | [] => σ
  | v :: vs => (wipeS σ vs).set v none
theorem SlR.wipe {ρ : List Addr} {H : Hp} {σh : Slots} {σ : L2.St} (R : SlR C.K ρ H σh σ) : ∀ vs : List Nat, SlR C.K ρ H (wipeS σh vs) (L2.wipe σ vs)
  | [] => R
  | v :: vs => by
    obtain ⟨l, h⟩ := SlR.wipe R vs
    unfold wipeS L2.wipe
    refine ⟨by rw [List.length_set, List.length_set]; exact l, fun i x e => ?_⟩
    by_cases hi : v = i
    · subst hi
      by_cases hv : v < (wipeS σh vs).length
      · rw [List.getElem?_set_self hv] at e; cases e
      · rw [List.getElem?_eq_none (by simpa using hv)] at e; cases e
    · rw [List.getElem?_set_ne hi] at e ⊢
      exact h i x e
def Res.bindN {α β : Type} : Res α → (α → Store → Res β) → Res β
  | .ok a st, f => f a st
  | _, _ => .no
def lcF (g : MG) (t : MT) (m : ME) (w : Option Nat) (all : List PV) (σ : Slots) (d : Nat) : List PV → Store → Res PV
  | [], st => if stays w all st = true then .ok (.ref d) st else .no
  | x :: r, st => if stays w all st = true then match g x σ st with
      | some (σ1, s1) => (t σ1 s1).bindN fun c s2 => if c = true then (m σ1 s2).bindN fun y s3 => match getM s3 d with
          | some acc => if acc.length < sizeLine then lcF g t m w all σ d r (s3.set d (.lst (acc ++ [y]))) else .no
          | none => .no
        else lcF g t m w all σ d r s2
      | none => .no
    else .no
def mLc (mi : MI) (g : MG) (t : MT) (m : ME) (vs : List Nat) : ME := fun σ st => (mi σ st).bind fun wx s1 => lcF g t m wx.1 wx.2 (wipeS σ vs) s1.length wx.2 (s1 ++ [.lst []])
def mYes : MT := fun _ st => .ok true st
/-- inside a comprehension nothing is raised -/
abbrev Wc.in (C : Wc) : Wc := ⟨C.K, C.cl, fun _ _ _ _ => False⟩
theorem tYes_of {σ : L2.St} {H : Hp} {Q : Bool → Hp → Prop} (h : tT C.in mYes σ H Q) : tYes σ H Q := by
  obtain ⟨ρ, st, σh, S, R, p⟩ := h
  exact p ρ H Up.refl S
theorem lc_run {mi : MI} {g : MG} {t : MT} {m : ME} {vs : List Nat} {tt : TT} {σ : L2.St} {H : Hp} {Q : VK} (ht : ∀ σ H Q, tT C.in t σ H Q → tt σ H Q) (h : tE C (mLc mi g t m vs) σ H Q) :
    tLc (tI C mi) (tG C.in vs g) tt (tE C.in m) vs σ H Q := by
  obtain ⟨ρ, st, σh, S, R, p⟩ := h
  refine ⟨ρ, st, σh, S, R, (Post.bind p).imp fun ρ0 H0 wx s1 _ u0 S0 ⟨st0, S0', p0⟩ J hJ D hD => ?_⟩
  obtain ⟨w, all⟩ := wx
  dsimp only at p0 hJ
  have P0 := Post.up (up_app (K := C.K) (ρ := ρ0) (o := .lst []) hD) p0
  have T0 : SR C.K (ρ0 ++ [D]) (upd H0 D (.lst [])) (st0 ++ [.lst []]) := S0'.push hD (VRs.nil_iff.mpr rfl)
  have hd0 : (ρ0 ++ [D])[st0.length]? = some D := by rw [List.getElem?_append_right (by rw [S0'.len]; exact Nat.le_refl _), S0'.len]; simp
  refine ⟨fun i m' H => m' = all.length - i ∧ i ≤ all.length ∧ ∃ ρ st, Up C.K ρ0 H0 ρ H ∧ ρ[st0.length]? = some D ∧ SR C.K ρ H st ∧ Post C ρ H σ (fun ρ' H' r => ∀ v, VR C.K ρ' H' r v → Q v H') (lcF g t m w all (wipeS σh vs) st0.length (all.drop i) st),
    ⟨all.length, rfl, Nat.zero_le _, _, _, up_app hD, hd0, T0, P0⟩, ?_⟩
  rintro i m' H1 ⟨rfl, hi, ρ1, st1, u1, hd1, S1, p1⟩
  by_cases hlt : i < all.length
  · have hx : all[i]? = some all[i] := List.getElem?_eq_getElem hlt
    rw [List.drop_eq_getElem_cons hlt] at p1
    unfold lcF at p1
    split at p1
    · rename_i hst
      obtain ⟨g1, g2⟩ := hJ.go i _ ρ1 H1 st1 u1 S1 hst hx
      refine .inr ⟨g1, fun H' => i + 1 ≤ all.length ∧ ∃ ρ st, Up C.K ρ0 H0 ρ H' ∧ ρ[st0.length]? = some D ∧ SR C.K ρ H' st ∧ Post C ρ H' σ (fun ρ' H' r => ∀ v, VR C.K ρ' H' r v → Q v H') (lcF g t m w all (wipeS σh vs) st0.length (all.drop (i + 1)) st),
        fun H' h => ⟨all.length - (i + 1), by omega, rfl, h.1, h.2⟩, fun v H' hy => ?_⟩
      obtain ⟨ρ2, u2, S2, r2⟩ := g2 v H' hy
      refine ⟨ρ2, st1, wipeS σh vs, all[i], S2, (R.up (u0.trans (u1.trans u2))).wipe vs, r2, ?_⟩
      cases e : g all[i] (wipeS σh vs) st1 with
      | none => rw [e] at p1; exact p1.elim
      | some z =>
        obtain ⟨σ2, s2⟩ := z
        rw [e] at p1
        dsimp only at p1
        refine fun ρ3 H3 τ u3 S3 R3 hw => ⟨hw.trans (wipe_wipe σ vs), ht _ _ _ ⟨ρ3, s2, σ2, S3, R3, ?_⟩⟩
        cases e2 : t σ2 s2 with
        | no => rw [e2] at p1; exact p1.elim
        | exc c fs s3 => rw [e2] at p1; exact p1.elim
        | ok c s3 =>
          rw [e2] at p1
          dsimp only [Res.bindN] at p1
          intro ρ4 H4 u4 S4
          have uu := ((u1.trans u2).trans u3).trans u4
          cases c with
          | false => exact iteF ⟨hlt, ρ4, s3, uu, u4.r _ _ (u3.r _ _ (u2.r _ _ hd1)), S4, Post.up ((u2.trans u3).trans u4) p1⟩
          | true =>
            refine iteT ?_
            rw [if_pos rfl] at p1
            refine ⟨ρ4, s3, σ2, S4, R3.up u4, ?_⟩
            cases e3 : m σ2 s3 with
            | no => rw [e3] at p1; exact p1.elim
            | exc c fs s4 => rw [e3] at p1; exact p1.elim
            | ok y s4 =>
              rw [e3] at p1
              dsimp only at p1
              split at p1
              · rename_i acc ea
                split at p1
                · rename_i hz
                  intro ρ5 H5 u5 S5 w5 hv5
                  obtain ⟨b0, b, vs', b1, b2, b3⟩ := getM_at S5 ea
                  have hd5 : ρ5[st0.length]? = some D := u5.r _ _ (u4.r _ _ (u3.r _ _ (u2.r _ _ hd1)))
                  rw [hd5] at b1; cases b1
                  exact ⟨vs', b2, by rw [b3.length]; exact hz, hlt, ρ5, _, (uu.trans u5).trans (up_write b2), hd5, S5.write b0 hd5 b2 (b3.append (VRs.cons_iff.mpr ⟨w5, [], rfl, hv5, VRs.nil_iff.mpr rfl⟩)),
                    Post.up ((((u2.trans u3).trans u4).trans u5).trans (up_write b2)) p1⟩
                · exact p1.elim
              · exact p1.elim
    · exact p1.elim
  · have e : all.drop i = [] := List.drop_eq_nil_of_le (by omega)
    rw [e] at p1
    unfold lcF at p1
    split at p1
    · rename_i hst
      refine .inl ⟨hJ.stop i ρ1 H1 st1 u1 S1 hst (by omega), p1 ρ1 H1 Up.refl S1 _ (VR.ref_iff.mpr ⟨D, rfl, hd1⟩)⟩
    · exact p1.elim
where
  wipe_wipe (σ : L2.St) (vs : List Nat) : L2.wipe (L2.wipe σ vs) vs = L2.wipe σ vs := by
    have key : ∀ us : List Nat, (∀ i ∈ us, i ∈ vs) → L2.wipe (L2.wipe σ us) vs = L2.wipe σ vs := by
      intro us
      induction us with
      | nil => intro _; rfl
      | cons u us ih =>
        intro h
        show L2.wipe ((L2.wipe σ us).set u none) vs = _
        rw [wipe_set (h u (by simp)), ih fun i hi => h i (List.mem_cons_of_mem _ hi)]
    exact key vs fun i hi => hi
end
end Sm

namespace Sm
open PySem PySem.Spec PyProof.Rows L2
section
variable {X : Cx} {C : Wc}
theorem e_lc {elt tg iter : Expr} {ifs : List Expr} {scope : Scope} {own : List (Str × Nat)} {pos : Pos} {mi : MI} {g : MG} {t : MT} {tt : TT} {m : ME} (ht' : ∀ σ H Q, tT C.in t σ H Q → tt σ H Q) (hc : X.calm = true) (hN : X.N.Nodup) (hi : PI X tg iter (tI C mi)) (ok : BlkOk X.N X.env.scope scope own)
    (hg : ∀ (s : Shared) (H : Hp) (D : Addr) (cl : List (Str × Addr)) (fp : List Addr), PG (X.blk s H scope (compEnvC scope cl D X.env) fp) tg (tG C.in (own.map (·.2)) g))
    (ht : ∀ (s : Shared) (H : Hp) (D : Addr) (cl : List (Str × Addr)) (fp : List Addr), PTs (X.blk s H scope (compEnvC scope cl D X.env) fp) ifs tt)
    (he : ∀ (s : Shared) (H : Hp) (D : Addr) (cl : List (Str × Addr)) (fp : List Addr), PE (X.blk s H scope (compEnvC scope cl D X.env) fp) elt (tE C.in m)) (hs : ∀ x, foldedSetIterable iter X.env x = pure x := by intro _; rfl) :
    PE X (.ListComp elt [⟨tg, iter, ifs, 0⟩] scope pos) (tE C (mLc mi g t m (own.map (·.2)))) := (pe_lc hc hN hi ok hg ht he hs).weak fun σ H Q h => lc_run ht' h
theorem s_setLc {i : Nat} {y : Str} {py : Pos} {elt tg iter : Expr} {ifs : List Expr} {scope : Scope} {own : List (Str × Nat)} {pos spos : Pos} {mi : MI} {g : MG} {t : MT} {tt : TT} {m : ME} (ht' : ∀ σ H Q, tT C.in t σ H Q → tt σ H Q) (hc : X.calm = true) (hN : X.N.Nodup) (hy : X.N[i]? = some y) (hyl : X.env.scope.names.lookup y = some .local)
    (hsw : swapsWith (.ListComp elt [⟨tg, iter, ifs, 0⟩] scope pos) (some (.Name y py)) spos.line X.env = pure true) (hi : PI X tg iter (tI C mi)) (ok : BlkOk X.N X.env.scope scope own)
    (hg : ∀ (s : Shared) (H : Hp) (D : Addr) (cl : List (Str × Addr)) (fp : List Addr), PG (X.blk s H scope (compEnvC scope cl D X.env) fp) tg (tG C.in (own.map (·.2)) g))
    (ht : ∀ (s : Shared) (H : Hp) (D : Addr) (cl : List (Str × Addr)) (fp : List Addr), PTs (X.blk s H scope (compEnvC scope cl D X.env) fp) ifs tt)
    (he : ∀ (s : Shared) (H : Hp) (D : Addr) (cl : List (Str × Addr)) (fp : List Addr), PE (X.blk s H scope (compEnvC scope cl D X.env) fp) elt (tE C.in m)) (hs : ∀ x, foldedSetIterable iter X.env x = pure x := by intro _; rfl) :
    PS X (.Assign [.Name y py] (.ListComp elt [⟨tg, iter, ifs, 0⟩] scope pos) spos) (tS C (mAsg (mLc mi g t m (own.map (·.2))) (gNm i))) :=
  (ps_setLc hc hN hy hyl hsw hi ok hg ht he hs).weak fun D σ H ⟨ρ, st, σh, S, R, p⟩ => lc_run ht' ⟨ρ, st, σh, S, R, (PostS.fl R p).imp fun ρ1 H1 x s1 _ u1 S1 ⟨s1', S1', p1⟩ v hv => p1 ρ1 H1 _ Up.refl S1' ((R.up u1).set i hv)⟩

/-! ### two fors -/
def innerF (g : MG) (t : MT) (m : ME) (w : Option Nat) (all : List PV) (σ : Slots) (d : Nat) : List PV → Store → Option Store
  | [], st => if stays w all st = true then some st else none
  | x :: r, st => if stays w all st = true then match g x σ st with
      | some (σ1, s1) => match t σ1 s1 with
        | .ok c s2 => if c = true then match m σ1 s2 with
            | .ok y s3 => match getM s3 d with
              | some acc => if acc.length < sizeLine then innerF g t m w all σ d r (s3.set d (.lst (acc ++ [y]))) else none
              | none => none
            | _ => none
          else innerF g t m w all σ d r s2
        | _ => none
      | none => none
    else none
def lc2F (g : MG) (t : MT) (mi1 : MI) (g1 : MG) (t1 : MT) (m : ME) (w : Option Nat) (all : List PV) (σ : Slots) (vs1 : List Nat) (d : Nat) : List PV → Store → Res PV
  | [], st => if stays w all st = true then .ok (.ref d) st else .no
  | x :: r, st => if stays w all st = true then match g x σ st with
      | some (σ1, s1) => match t σ1 s1 with
        | .ok c s2 => if c = true then match mi1 σ1 s2 with
            | .ok wx s3 => match innerF g1 t1 m wx.1 wx.2 (wipeS σ1 vs1) d wx.2 s3 with
              | some s4 => lc2F g t mi1 g1 t1 m w all σ vs1 d r s4
              | none => .no
            | _ => .no
          else lc2F g t mi1 g1 t1 m w all σ vs1 d r s2
        | _ => .no
      | none => .no
    else .no
def mLc2 (mi : MI) (g : MG) (t : MT) (mi1 : MI) (g1 : MG) (t1 : MT) (m : ME) (vs vs1 : List Nat) : ME := fun σ st => (mi σ st).bind fun wx s1 => lc2F g t mi1 g1 t1 m wx.1 wx.2 (wipeS σ vs) vs1 s1.length wx.2 (s1 ++ [.lst []])
theorem wipe_wipe2 (σ : L2.St) (vs : List Nat) : L2.wipe (L2.wipe σ vs) vs = L2.wipe σ vs := by
  have key : ∀ us : List Nat, (∀ i ∈ us, i ∈ vs) → L2.wipe (L2.wipe σ us) vs = L2.wipe σ vs := by
    intro us
    induction us with
    | nil => intro _; rfl
    | cons u us ih =>
      intro h
      show L2.wipe ((L2.wipe σ us).set u none) vs = _
      rw [wipe_set (h u (by simp)), ih fun i hi => h i (List.mem_cons_of_mem _ hi)]
  exact key vs fun i hi => hi
theorem lc2_run {mi mi1 : MI} {g g1 : MG} {t t1 : MT} {m : ME} {vs vs1 : List Nat} {tt tt1 : TT} {σ : L2.St} {H : Hp} {Q : VK} (ht : ∀ σ H Q, tT C.in t σ H Q → tt σ H Q) (ht1 : ∀ σ H Q, tT C.in t1 σ H Q → tt1 σ H Q) (h : tE C (mLc2 mi g t mi1 g1 t1 m vs vs1) σ H Q) :
    tLc2 (tI C mi) (tG C.in vs g) tt (tI C.in mi1) (tG C.in vs1 g1) tt1 (tE C.in m) vs vs1 σ H Q := by
  obtain ⟨ρ, st, σh, S, R, p⟩ := h
  refine ⟨ρ, st, σh, S, R, (Post.bind p).imp fun ρ0 H0 wx s1 _ u0 S0 ⟨st0, S0', p0⟩ J hJ D hD => ?_⟩
  obtain ⟨w, all⟩ := wx
  dsimp only at p0 hJ
  have P0 := Post.up (up_app (K := C.K) (ρ := ρ0) (o := .lst []) hD) p0
  have T0 : SR C.K (ρ0 ++ [D]) (upd H0 D (.lst [])) (st0 ++ [.lst []]) := S0'.push hD (VRs.nil_iff.mpr rfl)
  have hd0 : (ρ0 ++ [D])[st0.length]? = some D := by rw [List.getElem?_append_right (by rw [S0'.len]; exact Nat.le_refl _), S0'.len]; simp
  refine ⟨fun i m' H => m' = all.length - i ∧ i ≤ all.length ∧ ∃ ρ st, Up C.K ρ0 H0 ρ H ∧ ρ[st0.length]? = some D ∧ SR C.K ρ H st ∧ Post C ρ H σ (fun ρ' H' r => ∀ v, VR C.K ρ' H' r v → Q v H') (lc2F g t mi1 g1 t1 m w all (wipeS σh vs) vs1 st0.length (all.drop i) st),
    ⟨all.length, rfl, Nat.zero_le _, _, _, up_app hD, hd0, T0, P0⟩, ?_⟩
  rintro i m' H1 ⟨rfl, hi, ρ1, st1, u1, hd1, S1, p1⟩
  by_cases hlt : i < all.length
  · have hx : all[i]? = some all[i] := List.getElem?_eq_getElem hlt
    rw [List.drop_eq_getElem_cons hlt] at p1
    unfold lc2F at p1
    split at p1
    · rename_i hst
      obtain ⟨g1', g2⟩ := hJ.go i _ ρ1 H1 st1 u1 S1 hst hx
      refine .inr ⟨g1', fun H' => i + 1 ≤ all.length ∧ ∃ ρ st, Up C.K ρ0 H0 ρ H' ∧ ρ[st0.length]? = some D ∧ SR C.K ρ H' st ∧ Post C ρ H' σ (fun ρ' H' r => ∀ v, VR C.K ρ' H' r v → Q v H') (lc2F g t mi1 g1 t1 m w all (wipeS σh vs) vs1 st0.length (all.drop (i + 1)) st),
        fun H' h => ⟨all.length - (i + 1), by omega, rfl, h.1, h.2⟩, fun v H' hy => ?_⟩
      obtain ⟨ρ2, u2, S2, r2⟩ := g2 v H' hy
      refine ⟨ρ2, st1, wipeS σh vs, all[i], S2, (R.up (u0.trans (u1.trans u2))).wipe vs, r2, ?_⟩
      cases e : g all[i] (wipeS σh vs) st1 with
      | none => rw [e] at p1; exact p1.elim
      | some z =>
        obtain ⟨σ2, s2⟩ := z
        rw [e] at p1
        dsimp only at p1
        refine fun ρ3 H3 τ u3 S3 R3 hw => ⟨hw.trans (wipe_wipe2 σ vs), ht _ _ _ ⟨ρ3, s2, σ2, S3, R3, ?_⟩⟩
        cases e2 : t σ2 s2 with
        | no => rw [e2] at p1; exact p1.elim
        | exc c fs s3 => rw [e2] at p1; exact p1.elim
        | ok c s3 =>
          rw [e2] at p1
          dsimp only at p1
          intro ρ4 H4 u4 S4
          have uu := ((u1.trans u2).trans u3).trans u4
          cases c with
          | false => exact iteF ⟨hlt, ρ4, s3, uu, u4.r _ _ (u3.r _ _ (u2.r _ _ hd1)), S4, Post.up ((u2.trans u3).trans u4) p1⟩
          | true =>
            refine iteT ?_
            rw [if_pos rfl] at p1
            refine ⟨ρ4, s3, σ2, S4, R3.up u4, ?_⟩
            cases e3 : mi1 σ2 s3 with
            | no => rw [e3] at p1; exact p1.elim
            | exc c fs s4 => rw [e3] at p1; exact p1.elim
            | ok wx1 s4 =>
              obtain ⟨w1, all1⟩ := wx1
              rw [e3] at p1
              dsimp only at p1
              intro ρ5 H5 u5 S5 J1 hJ1
              have uu5 := uu.trans u5
              have hd5 : ρ5[st0.length]? = some D := u5.r _ _ (u4.r _ _ (u3.r _ _ (u2.r _ _ hd1)))
              cases e4 : innerF g1 t1 m w1 all1 (wipeS σ2 vs1) st0.length all1 s4 with
              | none => rw [e4] at p1; exact p1.elim
              | some sE =>
                rw [e4] at p1
                dsimp only at p1
                have p5 := Post.up (((u2.trans u3).trans u4).trans u5) p1
                refine ⟨fun j k H => k = all1.length - j ∧ j ≤ all1.length ∧ ∃ ρ st, Up C.K ρ5 H5 ρ H ∧ SR C.K ρ H st ∧ innerF g1 t1 m w1 all1 (wipeS σ2 vs1) st0.length (all1.drop j) st = some sE,
                  ⟨all1.length, rfl, Nat.zero_le _, ρ5, s4, Up.refl, S5, e4⟩, ?_⟩
                rintro j k H6 ⟨rfl, hj, ρ6, st6, u6, S6, q6⟩
                by_cases hlt1 : j < all1.length
                · have hx1 : all1[j]? = some all1[j] := List.getElem?_eq_getElem hlt1
                  rw [List.drop_eq_getElem_cons hlt1] at q6
                  unfold innerF at q6
                  split at q6
                  · rename_i hst1
                    obtain ⟨k1, k2⟩ := hJ1.go j _ ρ6 H6 st6 u6 S6 hst1 hx1
                    refine .inr ⟨k1, fun H' => j + 1 ≤ all1.length ∧ ∃ ρ st, Up C.K ρ5 H5 ρ H' ∧ SR C.K ρ H' st ∧ innerF g1 t1 m w1 all1 (wipeS σ2 vs1) st0.length (all1.drop (j + 1)) st = some sE,
                      fun H' h => ⟨all1.length - (j + 1), by omega, rfl, h.1, h.2⟩, fun v1 H7 hy1 => ?_⟩
                    obtain ⟨ρ7, u7, S7, r7⟩ := k2 v1 H7 hy1
                    refine ⟨ρ7, st6, wipeS σ2 vs1, all1[j], S7, (R3.up (u4.trans (u5.trans (u6.trans u7)))).wipe vs1, r7, ?_⟩
                    cases e5 : g1 all1[j] (wipeS σ2 vs1) st6 with
                    | none => rw [e5] at q6; cases q6
                    | some z =>
                      obtain ⟨σ8, s8⟩ := z
                      rw [e5] at q6
                      dsimp only at q6
                      refine fun ρ8 H8 τ8 u8 S8 R8 hw8 => ⟨hw8.trans (wipe_wipe2 τ vs1), ht1 _ _ _ ⟨ρ8, s8, σ8, S8, R8, ?_⟩⟩
                      cases e6 : t1 σ8 s8 with
                      | no => rw [e6] at q6; cases q6
                      | exc c fs s3 => rw [e6] at q6; cases q6
                      | ok c s9 =>
                        rw [e6] at q6
                        dsimp only at q6
                        intro ρ9 H9 u9 S9
                        have uu9 := ((u6.trans u7).trans u8).trans u9
                        cases c with
                        | false => exact iteF ⟨hlt1, ρ9, s9, uu9, S9, q6⟩
                        | true =>
                          refine iteT ?_
                          rw [if_pos rfl] at q6
                          refine ⟨ρ9, s9, σ8, S9, R8.up u9, ?_⟩
                          cases e7 : m σ8 s9 with
                          | no => rw [e7] at q6; cases q6
                          | exc c fs s4 => rw [e7] at q6; cases q6
                          | ok y s10 =>
                            rw [e7] at q6
                            dsimp only at q6
                            split at q6
                            · rename_i acc ea
                              split at q6
                              · rename_i hz
                                intro ρ10 H10 u10 S10 w10 hv10
                                obtain ⟨b0, b, vs', b1, b2, b3⟩ := getM_at S10 ea
                                have hd10 : ρ10[st0.length]? = some D := (uu9.trans u10).r _ _ hd5
                                rw [hd10] at b1; cases b1
                                exact ⟨vs', b2, by rw [b3.length]; exact hz, hlt1, ρ10, _, (uu9.trans u10).trans (up_write b2), S10.write b0 hd10 b2 (b3.append (VRs.cons_iff.mpr ⟨w10, [], rfl, hv10, VRs.nil_iff.mpr rfl⟩)), q6⟩
                              · cases q6
                            · cases q6
                  · cases q6
                · have e : all1.drop j = [] := List.drop_eq_nil_of_le (by omega)
                  rw [e] at q6
                  unfold innerF at q6
                  split at q6
                  · rename_i hst1
                    cases q6
                    exact .inl ⟨hJ1.stop j ρ6 H6 _ u6 S6 hst1 (by show all1.length ≤ j; omega), hlt, ρ6, _, uu5.trans u6, u6.r _ _ hd5, S6, Post.up u6 p5⟩
                  · cases q6
    · exact p1.elim
  · have e : all.drop i = [] := List.drop_eq_nil_of_le (by omega)
    rw [e] at p1
    unfold lc2F at p1
    split at p1
    · rename_i hst
      refine .inl ⟨hJ.stop i ρ1 H1 st1 u1 S1 hst (by omega), p1 ρ1 H1 Up.refl S1 _ (VR.ref_iff.mpr ⟨D, rfl, hd1⟩)⟩
    · exact p1.elim
theorem e_lc2 {elt tg iter tg1 iter1 : Expr} {ifs ifs1 : List Expr} {scope : Scope} {own : List (Str × Nat)} {vs1 : List Nat} {pos : Pos} {mi mi1 : MI} {g g1 : MG} {t t1 : MT} {tt tt1 : TT} {m : ME} (ht' : ∀ σ H Q, tT C.in t σ H Q → tt σ H Q) (ht1' : ∀ σ H Q, tT C.in t1 σ H Q → tt1 σ H Q) (hc : X.calm = true) (hN : X.N.Nodup)
    (hi : PI X tg iter (tI C mi)) (ok : BlkOk X.N X.env.scope scope own) (hv : ∀ i ∈ vs1, i ∈ own.map (·.2))
    (hg : ∀ (s : Shared) (H : Hp) (D : Addr) (cl : List (Str × Addr)) (fp : List Addr), PG (X.blk s H scope (compEnvC scope cl D X.env) fp) tg (tG C.in (own.map (·.2)) g)) (ht : ∀ (s : Shared) (H : Hp) (D : Addr) (cl : List (Str × Addr)) (fp : List Addr), PTs (X.blk s H scope (compEnvC scope cl D X.env) fp) ifs tt)
    (hi1 : ∀ (s : Shared) (H : Hp) (D : Addr) (cl : List (Str × Addr)) (fp : List Addr), PI (X.blk s H scope (compEnvC scope cl D X.env) fp) tg1 iter1 (tI C.in mi1))
    (hg1 : ∀ (s : Shared) (H : Hp) (D : Addr) (cl : List (Str × Addr)) (fp : List Addr), PG (X.blk s H scope (compEnvC scope cl D X.env) fp) tg1 (tG C.in vs1 g1)) (ht1 : ∀ (s : Shared) (H : Hp) (D : Addr) (cl : List (Str × Addr)) (fp : List Addr), PTs (X.blk s H scope (compEnvC scope cl D X.env) fp) ifs1 tt1)
    (he : ∀ (s : Shared) (H : Hp) (D : Addr) (cl : List (Str × Addr)) (fp : List Addr), PE (X.blk s H scope (compEnvC scope cl D X.env) fp) elt (tE C.in m)) (hs : ∀ x, foldedSetIterable iter X.env x = pure x := by intro _; rfl) (hs1 : ∀ env x, foldedSetIterable iter1 env x = pure x := by intro _ _; rfl) :
    PE X (.ListComp elt [⟨tg, iter, ifs, 0⟩, ⟨tg1, iter1, ifs1, 0⟩] scope pos) (tE C (mLc2 mi g t mi1 g1 t1 m (own.map (·.2)) vs1)) := (pe_lc2 hc hN hi ok hv hg ht hi1 hg1 ht1 he hs hs1).weak fun σ H Q h => lc2_run ht' ht1' h

/-! ### xs[i], slices -/
theorem VRs.atI {K : PySem.W.Frag} {ρ : List Addr} {H : Hp} {xs : List PV} {vs : List V} {i : Int} {x : PV} (r : VRs K ρ H xs vs) (h : L2.atI xs i = some x) : ∃ v, L2.atI vs i = some v ∧ VR K ρ H x v := by
  unfold L2.atI at h ⊢
  rw [r.length]
  cases e : ixN xs.length i with
  | none => rw [e] at h; cases h
  | some j => rw [e] at h; exact r.get h
def ixF : M2 := fun x y st => match y with
  | .int i => match x with
    | .ref n => match getL st n with
      | some xs => match atI xs i with
        | some z => .ok z st
        | none => .no
      | none => .no
    | .tup xs => match atI xs i with
      | some z => .ok z st
      | none => .no
    | .str z => if z.length ≤ sizeLine then match atI z.cps.toList i with
        | some c => .ok (.str ⟨#[c]⟩) st
        | none => .no
      else .no
    | _ => .no
  | _ => .no
theorem calm_ix : Calm2 ixF := fun x y st c fs st' e => by
  unfold ixF at e
  split at e <;> (try split at e) <;> (try split at e) <;> (try split at e) <;> cases e
theorem ixS (hK : X.K = C.K) : IxR X (rS C.K ixF) := by
  intro value slice pins s σ H x y v u Q I rx ry ⟨ρ, st, xh, yh, S, hx, hy, r, st', e, k⟩ hs
  unfold ixF at e
  split at e
  · rename_i i
    rw [VR.int_iff] at hy
    subst hy
    split at e
    · rename_i n
      split at e
      · rename_i xs en
        split at e
        · rename_i z ez
          cases e
          rw [VR.ref_iff] at hx
          obtain ⟨a, rfl, ha⟩ := hx
          obtain ⟨b, vs, h1, h2, h3⟩ := getL_sql S en
          rw [ha] at h1; cases h1
          obtain ⟨w, e1, e2⟩ := h3.atI ez
          exact ix_list value slice pins s σ H _ _ v u Q I rx ry ⟨a, vs, i, w, rfl, rfl, hK ▸ h2, e1, k ρ H w Up.refl S e2⟩ hs
        · cases e
      · cases e
    · rename_i xs
      split at e
      · rename_i z ez
        cases e
        rw [VR.tup_iff] at hx
        obtain ⟨a, vs, rfl, h2, h3⟩ := hx
        obtain ⟨w, e1, e2⟩ := h3.atI ez
        exact ix_tup value slice pins s σ H _ _ v u Q I rx ry ⟨a, vs, i, w, rfl, rfl, hK ▸ h2, e1, k ρ H w Up.refl S e2⟩ hs
      · cases e
    · rename_i z
      split at e
      · split at e
        · rename_i c ec
          cases e
          rw [VR.str_iff] at hx
          subst hx
          exact ix_str value slice pins s σ H _ _ v u Q I rx ry ⟨z, i, c, rfl, rfl, by assumption, ec, k ρ H _ Up.refl S (VR.str_iff.mpr rfl)⟩ hs
        · cases e
      · cases e
    · cases e
  · cases e
theorem e_ix {a b : Expr} {ma mb : ME} {pos : Pos} (hK : X.K = C.K) (ha : PE X a (tE C ma)) (hb : PE X b (tE C mb)) (hs : PlainIx b := by intro _ _; rfl) : PE X (.Subscript a b pos) (tE C (mOp ixF ma mb)) :=
  (pe_ix (ixS hK) ha hb hs).weak fun _ _ _ h => op_run calm_ix h
def cutP (xs : List PV) (lo hi : Option Int) : List PV := (xs.drop (HT.sIx xs.length 0 lo)).take (HT.sIx xs.length xs.length hi - HT.sIx xs.length 0 lo)
theorem VRs.cut {K : PySem.W.Frag} {ρ : List Addr} {H : Hp} {xs : List PV} {vs : List V} (lo hi : Option Int) (r : VRs K ρ H xs vs) : VRs K ρ H (cutP xs lo hi) (cutV vs lo hi) := by
  unfold cutP cutV
  rw [r.length]
  exact (r.drop _).take _
def slF (x : PV) (lo hi : Option Int) (st : Store) : Res PV := match x with
  | .ref n => match getL st n with
    | some xs => newL (cutP xs lo hi) st
    | none => .no
  | .tup xs => .ok (.tup (cutP xs lo hi)) st
  | .str z => if z.length ≤ sizeLine then .ok (.str (cutS z lo hi)) st else .no
  | _ => .no
def rSl (K : PySem.W.Frag) : V → Option Int → Option Int → Hp → VK → Prop := fun x lo hi H Q => ∃ ρ st xh, SR K ρ H st ∧ VR K ρ H xh x ∧ ∃ r st', slF xh lo hi st = .ok r st' ∧ ∀ ρ' H' v, Up K ρ H ρ' H' → SR K ρ' H' st' → VR K ρ' H' r v → Q v H'
theorem cut_whole {α : Type} (xs : List α) (lo hi : Option Int) (h : HT.sIx xs.length 0 lo = 0 ∧ HT.sIx xs.length xs.length hi = xs.length) : (xs.drop (HT.sIx xs.length 0 lo)).take (HT.sIx xs.length xs.length hi - HT.sIx xs.length 0 lo) = xs := by
  rw [h.1, h.2, List.drop_zero, Nat.sub_zero, List.take_length]
theorem slS (hK : X.K = C.K) : L2.SlR X (rSl C.K) := by
  intro pins s σ H x v vl vu lo hi sl Q I rx hs pl pu ⟨ρ, st, xh, S, hx, r, st', e, k⟩
  unfold slF at e
  split at e
  · split at e
    · rename_i xs en
      rw [VR.ref_iff] at hx
      obtain ⟨a, rfl, ha⟩ := hx
      obtain ⟨b, vs, h1, h2, h3⟩ := getL_sql S en
      rw [ha] at h1; cases h1
      exact sl_list pins s σ H _ v vl vu lo hi sl Q I rx hs pl pu ⟨a, vs, rfl, hK ▸ h2, (S.newL (h3.cut lo hi) e k).2⟩
    · cases e
  · rename_i xs
    cases e
    rw [VR.tup_iff] at hx
    obtain ⟨a, vs, rfl, h2, h3⟩ := hx
    refine sl_tupA pins s σ H _ v vl vu lo hi sl Q I rx hs pl pu ⟨a, vs, rfl, hK ▸ h2, fun z => ?_, fun z p hp => k ρ _ _ (up_new hp) (S.new hp) (VR.mk_tup hp (h3.cut lo hi))⟩
    refine k ρ H _ Up.refl S (VR.tup_iff.mpr ⟨a, vs, rfl, h2, ?_⟩)
    rw [h3.length] at z
    rw [show cutP xs lo hi = xs from cut_whole xs lo hi z]
    exact h3
  · split at e
    · cases e
      rw [VR.str_iff] at hx
      subst hx
      exact sl_str pins s σ H _ v vl vu lo hi sl Q I rx hs pl pu ⟨_, rfl, by assumption, k ρ H _ Up.refl S (VR.str_iff.mpr rfl)⟩
    · cases e
  · cases e
def mO (o : Option ME) : Slots → Store → Res (Option Int) := fun σ st => match o with
  | none => .ok none st
  | some m => (m σ st).bind fun x s1 => match x with
    | .int i => .ok (some i) s1
    | _ => .no
def mSl (a : ME) (lo hi : Option ME) : ME := fun σ st => (a σ st).bind fun x s1 => (mO lo σ s1).bind fun l s2 => (mO hi σ s2).bind fun h s3 => match slF x l h s3 with
  | .ok r s4 => .ok r s4
  | _ => .no
def tO (C : Wc) (o : Option ME) : TO := fun σ H Q => ∃ ρ st σh, SR C.K ρ H st ∧ SlR C.K ρ H σh σ ∧ Post C ρ H σ (fun _ H' r => Q r H') (mO o σh st)
theorem _root_.L2.PO.weak {e : Option Expr} {t t' : TO} (h : PO X e t) (w : ∀ σ H Q, t' σ H Q → t σ H Q) : PO X e t' := ⟨fun pins s σ H Q I q => h.run pins s σ H Q I (w σ H Q q)⟩
theorem o_none : PO X none (tO C none) := po_none.weak fun σ H Q ⟨ρ, st, σh, S, R, p⟩ => p ρ H Up.refl S
theorem o_some {e : Expr} {m : ME} (h : PE X e (tE C m)) : PO X (some e) (tO C (some m)) := (po_some h).weak fun σ H Q ⟨ρ, st, σh, S, R, p⟩ => ⟨ρ, st, σh, S, R, (Post.bind p).imp fun ρ1 H1 x s1 _ u1 S1 ⟨s1', S1', p1⟩ v hv => by
  cases x with
  | int i => rw [VR.int_iff] at hv; exact ⟨i, hv, p1 ρ1 H1 Up.refl S1'⟩
  | _ => exact p1.elim⟩
theorem e_slice {e : Expr} {lo hi : Option Expr} {m : ME} {ml mh : Option ME} {pos p2 : Pos} (hK : X.K = C.K) (he : PE X e (tE C m)) (hl : PO X lo (tO C ml)) (hh : PO X hi (tO C mh)) : PE X (.Subscript e (.Slice lo hi none p2) pos) (tE C (mSl m ml mh)) :=
  (pe_slice (slS hK) he hl hh).weak fun σ H Q ⟨ρ, st, σh, S, R, p⟩ => ⟨ρ, st, σh, S, R, (Post.bind p).imp fun ρ1 H1 x s1 _ u1 S1 ⟨s1', S1', p1⟩ v hv =>
    ⟨ρ1, s1', σh, S1', R.up u1, (Post.bind p1).imp fun ρ2 H2 l s2 _ u2 S2 ⟨s2', S2', p2⟩ => ⟨ρ2, s2', σh, S2', R.up (u1.trans u2), (Post.bind p2).imp fun ρ3 H3 h s3 _ u3 S3 ⟨s3', S3', p3⟩ => by
      refine ⟨ρ3, s3', x, S3', hv.up (u2.trans u3), ?_⟩
      cases e : slF x l h s3' with
      | ok r s4 => rw [e] at p3; exact ⟨r, s4, rfl, fun ρ' H' v u S' r' => p3 ρ' H' u S' v r'⟩
      | exc _ _ _ => rw [e] at p3; exact p3.elim
      | no => rw [e] at p3; exact p3.elim⟩⟩⟩
end
end Sm

namespace Sm
open PySem PySem.Spec PyProof.Rows L2
/-! ### built-ins -/
abbrev MC := List PV → Store → Res PV
def rA (K : PySem.W.Frag) (f : MC) : List V → Hp → VK → Prop := fun vs H Q => ∃ ρ st xs, SR K ρ H st ∧ VRs K ρ H xs vs ∧ ∃ r st', f xs st = .ok r st' ∧ ∀ ρ' H' v, Up K ρ H ρ' H' → SR K ρ' H' st' → VR K ρ' H' r v → Q v H'
def mCall (f : MC) (a : MA) : ME := fun σ st => (a σ st).bind fun xs s1 => match f xs s1 with
  | .ok r s2 => .ok r s2
  | _ => .no
theorem call_run {C : Wc} {f : MC} {a : MA} {σ : L2.St} {H : Hp} {Q : VK} (h : tE C (mCall f a) σ H Q) : tA C a σ H fun vs H1 => rA C.K f vs H1 Q := by
  obtain ⟨ρ, st, σh, S, R, p⟩ := h
  refine ⟨ρ, st, σh, S, R, (Post.bind p).imp fun ρ1 H1 xs s1 _ u1 S1 ⟨s1', S1', p1⟩ vs hv => ?_⟩
  refine ⟨ρ1, s1', xs, S1', hv, ?_⟩
  cases e : f xs s1' with
  | ok r s4 => rw [e] at p1; exact ⟨r, s4, rfl, fun ρ' H' v u S' r' => p1 ρ' H' u S' v r'⟩
  | exc _ _ _ => rw [e] at p1; exact p1.elim
  | no => rw [e] at p1; exact p1.elim
theorem VRs.one {K : PySem.W.Frag} {ρ : List Addr} {H : Hp} {x : PV} {vs : List V} (r : VRs K ρ H [x] vs) : ∃ v, vs = [v] ∧ VR K ρ H x v := by
  rw [VRs.cons_iff] at r
  obtain ⟨v, r, rfl, h1, h2⟩ := r
  rw [VRs.nil_iff] at h2
  subst h2
  exact ⟨v, rfl, h1⟩
theorem VRs.two {K : PySem.W.Frag} {ρ : List Addr} {H : Hp} {x y : PV} {vs : List V} (r : VRs K ρ H [x, y] vs) : ∃ v w, vs = [v, w] ∧ VR K ρ H x v ∧ VR K ρ H y w := by
  rw [VRs.cons_iff] at r
  obtain ⟨v, r, rfl, h1, h2⟩ := r
  obtain ⟨w, rfl, h3⟩ := h2.one
  exact ⟨v, w, rfl, h1, h3⟩
inductive Ty where
  | non | bl | int | str | tup | lst | dct
  deriving DecidableEq
def Ty.name : Ty → String
  | .non => "NoneType" | .bl => "bool" | .int => "int" | .str => "str" | .tup => "tuple" | .lst => "list" | .dct => "dict"
def isT (a b : Ty) : Bool := decide (a = b) || (decide (a = .bl) && decide (b = .int))
theorem kit_isT (a b : Ty) : kitB a.name b.name = some (isT a b) := by cases a <;> cases b <;> decide +kernel
def tyC (x : PV) (st : Store) : Option Ty := match x with
  | .non => some .non
  | .bl _ => some .bl
  | .int _ => some .int
  | .str _ => some .str
  | .tup _ => some .tup
  | .ref n => match getL st n with
    | some _ => some .lst
    | none => match st[n]? with
      | some (.dk _) => some .dct
      | _ => none
theorem tyC_ok {K : PySem.W.Frag} {ρ : List Addr} {H : Hp} {st : Store} {x : PV} {v : V} {t : Ty} (S : SR K ρ H st) (r : VR K ρ H x v) (h : tyC x st = some t) : TyX K H v (.type t.name) := by
  cases x with
  | non => cases h; rw [VR.non_iff] at r; subst r; exact .base .non
  | bl b => cases h; rw [VR.bl_iff] at r; subst r; exact .base (.bl b)
  | int i => cases h; rw [VR.int_iff] at r; subst r; exact .base (.int i)
  | str x => cases h; rw [VR.str_iff] at r; subst r; exact .base (.str x)
  | tup xs =>
    cases h
    rw [VR.tup_iff] at r
    obtain ⟨a, vs, rfl, h1, _⟩ := r
    rcases h1 with (h1 | ⟨o, h1⟩) | ⟨o, _, _, h1, h2, _⟩
    · exact .base (.tup h1)
    · exact .fTuple h1
    · exact .kTuple h1 h2
  | ref n =>
    unfold tyC at h
    dsimp only at h
    cases e : getL st n with
    | none =>
      rw [e] at h
      dsimp only at h
      split at h
      · rename_i kvs ek
        cases h
        rw [VR.ref_iff] at r
        obtain ⟨a, rfl, ha⟩ := r
        obtain ⟨vs, h1, _⟩ := S.cel n _ a ek ha
        exact .base (.dK h1)
      · cases h
    | some xs =>
      rw [e] at h
      cases h
      rw [VR.ref_iff] at r
      obtain ⟨a, rfl, ha⟩ := r
      obtain ⟨b, vs, h1, h2, _⟩ := getL_sql S e
      rw [ha] at h1; cases h1
      rcases h2 with (h2 | ⟨o, h2⟩) | ⟨o, _, _, h1, h2, _⟩
      · exact .base (.lst h2)
      · exact .base (.frz h2)
      · exact .kList h1 h2
section
variable {X : Cx} {C : Wc}
theorem e_cb {id : String} {x : Str} {e : Expr} {es : List Expr} {f : MC} {m : MA} {p pos : Pos} (hc : CallR X (.builtin id) (rA C.K f)) (hm : X.mg x = none) (hv : bootBuiltins x = some (.builtin id)) (ha : PA X (e :: es) (tA C m)) (hg : Gl X x := by rfl) (hn : x ≠ "__name__" := by decide) (hdb : (x == ("__debug__" : Str)) = false := by decide)
    (he : starEach (e :: es) X.env = (false, eval e X.env) :: starEach es X.env := by rfl) (hpl : (backTo pos (starEach es X.env)).any (·.1) = false := by rfl) : PE X (.Call (.Name x p) (e :: es) [] pos) (tE C (mCall f m)) :=
  (pe_callB hc hg hm hv ha hn hdb he hpl).weak fun _ _ _ h => call_run h
theorem e_ct {T : String} {x : Str} {e : Expr} {es : List Expr} {f : MC} {m : MA} {p pos : Pos} (hc : CallR X (.type T) (rA C.K f)) (hm : X.mg x = none) (hv : bootBuiltins x = some (.type T)) (ha : PA X (e :: es) (tA C m)) (hg : Gl X x := by rfl) (hn : x ≠ "__name__" := by decide) (hdb : (x == ("__debug__" : Str)) = false := by decide)
    (he : starEach (e :: es) X.env = (false, eval e X.env) :: starEach es X.env := by rfl) (hpl : (backTo pos (starEach es X.env)).any (·.1) = false := by rfl) : PE X (.Call (.Name x p) (e :: es) [] pos) (tE C (mCall f m)) :=
  (pe_callTy hc hg hm hv ha hn hdb he hpl).weak fun _ _ _ h => call_run h
def lenF : MC := fun xs st => match xs with
  | [.ref n] => match getL st n with
    | some ys => .ok (.int (ys.length : Nat)) st
    | none => .no
  | [.tup ys] => .ok (.int (ys.length : Nat)) st
  | [.str z] => if z.length ≤ sizeLine then .ok (.int (z.length : Nat)) st else .no
  | _ => .no
theorem c_len (hK : X.K = C.K) : CallR X (.builtin "len") (rA C.K lenF) := by
  intro pins s σ H vs us Q I rv ⟨ρ, st, xs, S, hx, r, st', e, k⟩
  unfold lenF at e
  split at e
  · split at e
    · rename_i ys en
      cases e
      obtain ⟨v, rfl, h1⟩ := hx.one
      rw [VR.ref_iff] at h1
      obtain ⟨a, rfl, ha⟩ := h1
      obtain ⟨b, ws, h1, h2, h3⟩ := getL_sql S en
      rw [ha] at h1; cases h1
      exact call_len_seq pins s σ H _ us Q I rv ⟨a, ws, rfl, .inl (hK ▸ h2), by rw [h3.length]; exact k ρ H _ Up.refl S (VR.int_iff.mpr rfl)⟩
    · cases e
  · cases e
    obtain ⟨v, rfl, h1⟩ := hx.one
    rw [VR.tup_iff] at h1
    obtain ⟨a, ws, rfl, h2, h3⟩ := h1
    exact call_len_seq pins s σ H _ us Q I rv ⟨a, ws, rfl, .inr (hK ▸ h2), by rw [h3.length]; exact k ρ H _ Up.refl S (VR.int_iff.mpr rfl)⟩
  · split at e
    · cases e
      obtain ⟨v, rfl, h1⟩ := hx.one
      rw [VR.str_iff] at h1
      subst h1
      exact call_len_str pins s σ H _ us Q I rv ⟨_, rfl, by assumption, k ρ H _ Up.refl S (VR.int_iff.mpr rfl)⟩
    · cases e
  · cases e
def maxF : MC := fun xs st => match xs with
  | [.int i, .int j] => .ok (.int (if j > i then j else i)) st
  | _ => .no
def minF : MC := fun xs st => match xs with
  | [.int i, .int j] => .ok (.int (if j < i then j else i)) st
  | _ => .no
theorem c_max (hc : X.calm = true) : CallR X (.builtin "max") (rA C.K maxF) := by
  intro pins s σ H vs us Q I rv ⟨ρ, st, xs, S, hx, r, st', e, k⟩
  unfold maxF at e
  split at e
  · cases e
    obtain ⟨v, w, rfl, h1, h2⟩ := hx.two
    rw [VR.int_iff] at h1 h2
    subst h1 h2
    exact call_max2 hc pins s σ H _ us Q I rv ⟨_, _, rfl, k ρ H _ Up.refl S (VR.int_iff.mpr rfl)⟩
  · cases e
theorem c_min (hc : X.calm = true) : CallR X (.builtin "min") (rA C.K minF) := by
  intro pins s σ H vs us Q I rv ⟨ρ, st, xs, S, hx, r, st', e, k⟩
  unfold minF at e
  split at e
  · cases e
    obtain ⟨v, w, rfl, h1, h2⟩ := hx.two
    rw [VR.int_iff] at h1 h2
    subst h1 h2
    exact call_min2 hc pins s σ H _ us Q I rv ⟨_, _, rfl, k ρ H _ Up.refl S (VR.int_iff.mpr rfl)⟩
  · cases e
def absF : MC := fun xs st => match xs with
  | [.int i] => .ok (.int (if i < 0 then -i else i)) st
  | _ => .no
theorem c_abs : CallR X (.builtin "abs") (rA C.K absF) := by
  intro pins s σ H vs us Q I rv ⟨ρ, st, xs, S, hx, r, st', e, k⟩
  unfold absF at e
  split at e
  · cases e
    obtain ⟨v, rfl, h1⟩ := hx.one
    rw [VR.int_iff] at h1
    subst h1
    exact call_abs pins s σ H _ us Q I rv ⟨_, rfl, k ρ H _ Up.refl S (VR.int_iff.mpr rfl)⟩
  · cases e
def strIF : MC := fun xs st => match xs with
  | [.int i] => if i.natAbs.log2 < 1920 then .ok (.str (toString i)) st else .no
  | _ => .no
theorem c_strI : CallR X (.type "str") (rA C.K strIF) := by
  intro pins s σ H vs us Q I rv ⟨ρ, st, xs, S, hx, r, st', e, k⟩
  unfold strIF at e
  split at e
  · split at e
    · cases e
      obtain ⟨v, rfl, h1⟩ := hx.one
      rw [VR.int_iff] at h1
      subst h1
      exact call_str_int pins s σ H _ us Q I rv ⟨_, rfl, by assumption, k ρ H _ Up.refl S (VR.str_iff.mpr rfl)⟩
    · cases e
  · cases e
def listF : MC := fun xs st => match xs with
  | [.ref n] => match getL st n with
    | some ys => newL ys st
    | none => .no
  | [.tup ys] => newL ys st
  | _ => .no
theorem c_list (hK : X.K = C.K) : CallR X (.type "list") (rA C.K listF) := by
  intro pins s σ H vs us Q I rv ⟨ρ, st, xs, S, hx, r, st', e, k⟩
  unfold listF at e
  split at e
  · split at e
    · rename_i ys en
      obtain ⟨v, rfl, h1⟩ := hx.one
      rw [VR.ref_iff] at h1
      obtain ⟨a, rfl, ha⟩ := h1
      obtain ⟨b, ws, h1, h2, h3⟩ := getL_sql S en
      rw [ha] at h1; cases h1
      exact call_list_of pins s σ H _ us Q I rv ⟨a, ws, rfl, .inl (hK ▸ h2), (S.newL h3 e k).2⟩
    · cases e
  · obtain ⟨v, rfl, h1⟩ := hx.one
    rw [VR.tup_iff] at h1
    obtain ⟨a, ws, rfl, h2, h3⟩ := h1
    exact call_list_of pins s σ H _ us Q I rv ⟨a, ws, rfl, .inr (hK ▸ h2), (S.newL h3 e k).2⟩
  · cases e
def tupF : MC := fun xs st => match xs with
  | [.ref n] => match getL st n with
    | some ys => .ok (.tup ys) st
    | none => .no
  | [.tup ys] => .ok (.tup ys) st
  | _ => .no
theorem c_tup (hK : X.K = C.K) : CallR X (.type "tuple") (rA C.K tupF) := by
  intro pins s σ H vs us Q I rv ⟨ρ, st, xs, S, hx, r, st', e, k⟩
  unfold tupF at e
  split at e
  · split at e
    · rename_i ys en
      cases e
      obtain ⟨v, rfl, h1⟩ := hx.one
      rw [VR.ref_iff] at h1
      obtain ⟨a, rfl, ha⟩ := h1
      obtain ⟨b, ws, h1, h2, h3⟩ := getL_sql S en
      rw [ha] at h1; cases h1
      exact call_tuple_of pins s σ H _ us Q I rv ⟨a, ws, rfl, .inl ⟨hK ▸ h2, fun l hl => k ρ _ _ (up_new hl) (S.new hl) (VR.mk_tup hl h3)⟩⟩
    · cases e
  · cases e
    obtain ⟨v, rfl, h1⟩ := hx.one
    rw [VR.tup_iff] at h1
    obtain ⟨a, ws, rfl, h2, h3⟩ := h1
    exact call_tuple_of pins s σ H _ us Q I rv ⟨a, ws, rfl, .inr ⟨hK ▸ h2, k ρ H _ Up.refl S (VR.tup_iff.mpr ⟨a, ws, rfl, h2, h3⟩)⟩⟩
  · cases e
/-- isinstance(e, T) -/
def mIsi (t : Ty) (a : ME) : ME := fun σ st => (a σ st).bind fun x s1 => match tyC x s1 with
  | some u => .ok (.bl (isT u t)) s1
  | none => .no
theorem e_isi (t : Ty) {e : Expr} {m : ME} {x : Str} {p p2 pos : Pos} (hK : X.K = C.K) (hm : X.mg "isinstance" = none) (hx : X.mg x = none) (hv : bootBuiltins x = some (.type t.name)) (h : PE X e (tE C m)) (hg : Gl X "isinstance" := by rfl) (hgx : Gl X x := by rfl) (hn : x ≠ "__name__" := by decide) (hdb : (x == ("__debug__" : Str)) = false := by decide)
    (he : starEach [e, .Name x p2] X.env = [(false, eval e X.env), (false, eval (.Name x p2) X.env)] := by rfl) (he2 : starEach [.Name x p2] X.env = [(false, eval (.Name x p2) X.env)] := by rfl) (hpl : (backTo pos (starEach [.Name x p2] X.env)).any (·.1) = false := by rfl) :
    PE X (.Call (.Name "isinstance" p) [e, .Name x p2] [] pos) (tE C (mIsi t m)) :=
  (pe_callB call_isi hg hm (by decide +kernel) (pa_cons h (pa_cons (pe_bltn (v := .ty t.name) hgx hx hv rfl hn hdb) pa_nil (by rw [he2]; rfl)) (by rw [he, he2])) (by decide) (by decide) (by rw [he, he2]) hpl).weak fun σ H Q ⟨ρ, st, σh, S, R, p⟩ => by
    refine ⟨ρ, st, σh, S, R, (Post.bind p).imp fun ρ1 H1 x s1 _ u1 S1 ⟨s1', S1', p1⟩ v hv => ?_⟩
    cases e : tyC x s1' with
    | none => rw [e] at p1; exact p1.elim
    | some u =>
      rw [e] at p1
      refine ⟨v, .ty t.name, .type u.name, .type t.name, isT u t, rfl, .ty _, ?_, kit_ty (kit_isT u t), p1 ρ1 H1 Up.refl S1' _ (VR.bl_iff.mpr rfl)⟩
      rw [hK]
      exact tyC_ok S1' hv e

/-! ### methods of lists -/
def mBM (T : Ty) (f : PV → List PV → Store → Res PV) (o : ME) (a : MA) : ME := fun σ st => (o σ st).bind fun x s1 => if tyC x s1 = some T ∧ T ≠ .tup then (a σ s1).bind fun xs s2 => match f x xs s2 with
    | .ok r s3 => .ok r s3
    | _ => .no
  else .no
def rBM (K : PySem.W.Frag) (f : PV → List PV → Store → Res PV) : V → List V → Hp → VK → Prop := fun v vs H Q => ∃ ρ st x xs, SR K ρ H st ∧ VR K ρ H x v ∧ VRs K ρ H xs vs ∧ ∃ r st', f x xs st = .ok r st' ∧ ∀ ρ' H' v, Up K ρ H ρ' H' → SR K ρ' H' st' → VR K ρ' H' r v → Q v H'
theorem tyV_of {K : PySem.W.Frag} {ρ : List Addr} {H : Hp} {st : Store} {x : PV} {v : V} {T : Ty} (S : SR K ρ H st) (r : VR K ρ H x v) (h : tyC x st = some T) (h1 : T = .lst ∨ T = .str) : tyV K T.name v H := by
  cases x with
  | non => cases h; simp at h1
  | bl b => cases h; simp at h1
  | int i => cases h; simp at h1
  | tup xs => cases h; simp at h1
  | str x => cases h; rw [VR.str_iff] at r; subst r; rfl
  | ref n =>
    unfold tyC at h
    dsimp only at h
    cases e : getL st n with
    | none =>
      rw [e] at h
      dsimp only at h
      split at h
      · cases h; simp at h1
      · cases h
    | some xs =>
      rw [e] at h
      cases h
      rw [VR.ref_iff] at r
      obtain ⟨a, rfl, ha⟩ := r
      obtain ⟨b, vs, q1, q2, _⟩ := getL_sql S e
      rw [ha] at q1; cases q1
      exact .inl ⟨rfl, vs, q2⟩
theorem bm_run {T : Ty} {f : PV → List PV → Store → Res PV} {o : ME} {a : MA} {σ : L2.St} {H : Hp} {Q : VK} (hK : X.K = C.K) (hT : T = .lst ∨ T = .str) (h : tE C (mBM T f o a) σ H Q) : tBM X.K T.name (rBM C.K f) (tE C o) (tA C a) σ H Q := by
  obtain ⟨ρ, st, σh, S, R, p⟩ := h
  refine ⟨ρ, st, σh, S, R, (Post.bind p).imp fun ρ1 H1 x s1 _ u1 S1 ⟨s1', S1', p1⟩ v hv => ?_⟩
  split at p1
  · rename_i hc
    refine ⟨hK ▸ tyV_of S1' hv hc.1 hT, ρ1, s1', σh, S1', R.up u1, (Post.bind p1).imp fun ρ2 H2 xs s2 _ u2 S2 ⟨s2', S2', p2⟩ vs hvs => ?_⟩
    refine ⟨ρ2, s2', x, xs, S2', hv.up u2, hvs, ?_⟩
    cases e : f x xs s2' with
    | ok r s4 => rw [e] at p2; exact ⟨r, s4, rfl, fun ρ' H' v u S' r' => p2 ρ' H' u S' v r'⟩
    | exc _ _ _ => rw [e] at p2; exact p2.elim
    | no => rw [e] at p2; exact p2.elim
  · exact p1.elim
theorem e_bm {T : Ty} {name : Str} {id : String} {f : PV → List PV → Store → Res PV} {o e : Expr} {es : List Expr} {mo : ME} {ma : MA} {apos cpos : Pos} (hK : X.K = C.K) (hT : T = .lst ∨ T = .str) (pa : PlainAttrs T.name) (slot : Slot T.name name id) (hty : typeOf (.builtin id) = pure (.type "method_descriptor"))
    (hm : MtR X id (rBM C.K f)) (ho : PE X o (tE C mo)) (ha : PA X (e :: es) (tA C ma)) (hbase : attributeBase o name X.env (eval o X.env) = eval o X.env := by rfl)
    (hfew : ((backTo cpos (starEach (e :: es) X.env)).all (fun x => !x.1) && (backToKw cpos (keywordEach [] X.env)).all (fun x => x.1.isSome)
      && decide ((e :: es).length + ([] : List Keyword).length + (if ([] : List Keyword).isEmpty then 0 else 1) < 30)) = true := by rfl)
    (hline : (apos.endLine == cpos.line) = true := by rfl) (hs : starEach (e :: es) X.env = (false, eval e X.env) :: starEach es X.env := by rfl) (hplain : (backTo cpos (starEach es X.env)).any (·.1) = false := by rfl) :
    PE X (.Call (.Attribute o name apos) (e :: es) [] cpos) (tE C (mBM T f mo ma)) := (pe_bm pa slot hty hm ho ha hbase hfew hline hs hplain).weak fun _ _ _ h => bm_run hK hT h
theorem e_bm0 {T : Ty} {name : Str} {id : String} {f : PV → List PV → Store → Res PV} {o : Expr} {mo : ME} {apos cpos : Pos} (hK : X.K = C.K) (hT : T = .lst ∨ T = .str) (pa : PlainAttrs T.name) (slot : Slot T.name name id) (hty : typeOf (.builtin id) = pure (.type "method_descriptor"))
    (hm : MtR X id (rBM C.K f)) (ho : PE X o (tE C mo)) (hbase : attributeBase o name X.env (eval o X.env) = eval o X.env := by rfl) (hline : (apos.endLine == cpos.line) = true := by rfl) :
    PE X (.Call (.Attribute o name apos) [] [] cpos) (tE C (mBM T f mo mNil)) := (pe_bm0 pa slot hty hm ho hbase hline).weak fun σ H Q h => by
  obtain ⟨ρ, st, σh, S, R, p⟩ := bm_run (X := X) hK hT h
  exact ⟨ρ, st, σh, S, R, p.imp fun ρ1 H1 x s1 _ u1 S1 q v hv => by
    obtain ⟨q1, ρ2, s2, σ2, S2, R2, q2⟩ := q v hv
    exact ⟨q1, q2 ρ2 H1 Up.refl S2 [] (VRs.nil_iff.mpr rfl)⟩⟩
def appF (x : PV) (xs : List PV) (st : Store) : Res PV := match x, xs with
  | .ref n, [y] => match getM st n with
    | some ys => if ys.length < sizeLine then .ok .non (st.set n (.lst (ys ++ [y]))) else .no
    | none => .no
  | _, _ => .no
theorem m_append : MtR X "list.append" (rBM C.K appF) := by
  intro pins s σ H v vs u us Q I ru rus ⟨ρ, st, x, xs, S, hx, hxs, r, st', e, k⟩
  unfold appF at e
  split at e
  · split at e
    · rename_i ys en
      split at e
      · cases e
        obtain ⟨b0, b, ws, b1, b2, b3⟩ := getM_at S en
        rw [VR.ref_iff] at hx
        obtain ⟨a, rfl, ha⟩ := hx
        rw [ha] at b1; cases b1
        obtain ⟨w, rfl, hw⟩ := hxs.one
        exact mt_append pins s σ H _ _ u us Q I ru rus ⟨_, ws, w, rfl, rfl, b2, by rw [b3.length]; assumption, k ρ _ _ (up_write b2) (S.write b0 ha b2 (b3.append (VRs.cons_iff.mpr ⟨w, [], rfl, hw, VRs.nil_iff.mpr rfl⟩))) (VR.non_iff.mpr rfl)⟩
      · cases e
    · cases e
  · cases e
def extF (x : PV) (xs : List PV) (st : Store) : Res PV := match x, xs with
  | .ref n, [.ref m] => match getM st n, getM st m with
    | some ys, some zs => if ys.length + zs.length ≤ sizeLine then .ok .non (st.set n (.lst (ys ++ zs))) else .no
    | _, _ => .no
  | _, _ => .no
theorem m_extend : MtR X "list.extend" (rBM C.K extF) := by
  intro pins s σ H v vs u us Q I ru rus ⟨ρ, st, x, xs, S, hx, hxs, r, st', e, k⟩
  unfold extF at e
  split at e
  · split at e
    · rename_i ys zs en em
      split at e
      · cases e
        obtain ⟨b0, b, ws, b1, b2, b3⟩ := getM_at S en
        obtain ⟨c0, c, zs', c1, c2, c3⟩ := getM_at S em
        rw [VR.ref_iff] at hx
        obtain ⟨a, rfl, ha⟩ := hx
        rw [ha] at b1; cases b1
        obtain ⟨w, rfl, hw⟩ := hxs.one
        rw [VR.ref_iff] at hw
        obtain ⟨d, rfl, hd⟩ := hw
        rw [hd] at c1; cases c1
        exact mt_extend pins s σ H _ _ u us Q I ru rus ⟨_, _, ws, zs', rfl, rfl, b2, c2, by rw [b3.length, c3.length]; assumption, k ρ _ _ (up_write b2) (S.write b0 ha b2 (b3.append c3)) (VR.non_iff.mpr rfl)⟩
      · cases e
    · cases e
  · cases e
def popF (x : PV) (xs : List PV) (st : Store) : Res PV := match x, xs with
  | .ref n, [] => match getM st n with
    | some ys => match ys[ys.length - 1]? with
      | some y => .ok y (st.set n (.lst ys.dropLast))
      | none => .no
    | none => .no
  | _, _ => .no
theorem VRs.dropLast {K : PySem.W.Frag} {ρ : List Addr} {H : Hp} {xs : List PV} {vs : List V} (r : VRs K ρ H xs vs) : VRs K ρ H xs.dropLast vs.dropLast := by
  rw [List.dropLast_eq_take, List.dropLast_eq_take, r.length]
  exact r.take _
theorem m_pop : MtR X "list.pop" (rBM C.K popF) := by
  intro pins s σ H v vs u us Q I ru rus ⟨ρ, st, x, xs, S, hx, hxs, r, st', e, k⟩
  unfold popF at e
  split at e
  · split at e
    · rename_i ys en
      split at e
      · rename_i y ey
        cases e
        obtain ⟨b0, b, ws, b1, b2, b3⟩ := getM_at S en
        rw [VR.ref_iff] at hx
        obtain ⟨a, rfl, ha⟩ := hx
        rw [ha] at b1; cases b1
        rw [VRs.nil_iff] at hxs
        subst hxs
        obtain ⟨w, e1, e2⟩ := b3.get ey
        exact mt_pop pins s σ H _ _ u us Q I ru rus ⟨_, ws, w, rfl, rfl, b2, by rw [b3.length]; exact e1, k ρ _ _ (up_write b2) (S.write b0 ha b2 b3.dropLast) (e2.up (up_write b2))⟩
      · cases e
    · cases e
  · cases e

/-! ### defs: nothing is being shown around -/
/-- a def keeps its promise wherever no repr is under way -/
structure FnG (P : Program) (w : World) (K : PySem.W.Frag) (mg : Str → Option Value) (base : Heap) (CX : CXT) (k : Nat) (f : Addr) (fd : FuncData) (ps : List Str) (sp : Sp) : Prop where
  many : ∀ vs H Q E, sp vs H Q E → vs.length = ps.length
  go : ∀ (A : Around) (outer : List Env) (s : Shared) (H : Hp) (args : Args) (us : List Value) (vs : List V) (Q : VK) (E : XK), A.guards = some [] → Room k A → Env0 P w K mg base A outer s H → BindsTo s fd args (ps.zip us) → Vals vs us → sp vs H Q E →
    codeAny (model P w) A (.call (.ref f) args) (L2.CR CX outer P w H s Q E) s
theorem run_g {CX : CXT} {k : Nat} {f : Addr} {fd : FuncData} {ps : List Str} {sp : Sp} {E : XK} {ds : List Value} {dvs : List V} {pins : List (Addr × Obj)} {σ : L2.St} {H : Hp} {s : Shared} {Q : VK} {us : List Value} {vs : List V}
    (F : FnG X.prog X.w X.K X.mg X.base CX k f fd ps sp) (hG : X.A.guards = some []) (hr : Room k X.A) (hb : Binds X.K fd ps ds) (hd : Vals dvs ds) (hx : Passes CX X E) (I : Inv X pins σ H s) (r : Vals vs us) (h : sp (vs ++ dvs) H Q E) : wpAny (model X.prog X.w) X.A (call (.ref f) us) (EP X pins σ Q) X.xe s := by
  have rr : Vals (vs ++ dvs) (us ++ ds) := r.append hd
  have many : (us ++ ds).length = ps.length := (F.many _ _ _ _ h) ▸ rr.length.symm
  have done := F.go X.A X.stack s H ⟨us, []⟩ (us ++ ds) (vs ++ dvs) Q E hG hr I.env0 (hb s us I.kIn many) rr h
  refine wpAny_call (codeAny_mono done ?_)
  intro res s' hq
  rcases res with er | fl
  · exact hx pins σ H s er s' I hq
  · rcases fl with _ | _ | _ | u
    all_goals first | exact I.after hq | exact False.elim hq
/-- what a def that lets nothing out keeps -/
def spS (K : PySem.W.Frag) (n : Nat) (g : MC) : Sp := fun vs H Q _ => ∃ ρ st xs, xs.length = n ∧ SR K ρ H st ∧ VRs K ρ H xs vs ∧ ∃ r st', g xs st = .ok r st' ∧ ∀ ρ' H' v, Up K ρ H ρ' H' → SR K ρ' H' st' → VR K ρ' H' r v → Q v H'
def mFn (n : Nat) (g : MC) (a : MA) : ME := mCall (fun xs st => if xs.length = n then g xs st else .no) a
theorem fn_run {n : Nat} {g : MC} {vs : List V} {H : Hp} {Q : VK} {E : XK} (h : rA C.K (fun xs st => if xs.length = n then g xs st else .no) vs H Q) : spS C.K n g (vs ++ []) H Q E := by
  obtain ⟨ρ2, s2, ys, S2, hy, r, st', e, k⟩ := h
  rw [List.append_nil]
  dsimp only at e
  split at e
  · exact ⟨ρ2, s2, ys, by assumption, S2, hy, r, st', e, k⟩
  · cases e
theorem e_call {x : Str} {f : Addr} {k n : Nat} {fd : FuncData} {ps : List Str} {g : MC} {e : Expr} {es : List Expr} {m : MA} {p pos : Pos} (F : FnG X.prog X.w X.K X.mg X.base CX0 k f fd ps (spS C.K n g)) (hG : X.A.guards = some []) (hr : Room k X.A) (hm : X.mg x = some (.ref f)) (hk : PySem.W.keepIn X.K (.ref f) = true) (hb : Binds X.K fd ps [])
    (ha : PA X (e :: es) (tA C m)) (hg : Gl X x := by rfl) (hdb : (x == ("__debug__" : Str)) = false := by decide) (he : starEach (e :: es) X.env = (false, eval e X.env) :: starEach es X.env := by rfl) (hpl : (backTo pos (starEach es X.env)).any (·.1) = false := by rfl) :
    PE X (.Call (.Name x p) (e :: es) [] pos) (tE C (mFn n g m)) := by
  refine ⟨fun pins s σ H Q I h => ?_⟩
  refine wpAny_Call_Name_kw (ld_glob I hg hm ?_ hdb)
  have args := ha.run pos pins s σ H _ I (call_run h)
  refine PySem.W.callWith_K (h₀ := X.base) I.ok.mod.kin hk (thn args ?_) he hpl
  rintro us s1 ⟨vs, H1, J, rv, q⟩
  exact ⟨J.kIn, run_g (E := E0) F hG hr hb .nil pass0 J rv (fn_run q)⟩
theorem e_call0 {x : Str} {f : Addr} {k n : Nat} {fd : FuncData} {ps : List Str} {g : MC} {p pos : Pos} (F : FnG X.prog X.w X.K X.mg X.base CX0 k f fd ps (spS C.K n g)) (hG : X.A.guards = some []) (hr : Room k X.A) (hm : X.mg x = some (.ref f)) (hk : PySem.W.keepIn X.K (.ref f) = true) (hb : Binds X.K fd ps [])
    (hg : Gl X x := by rfl) (hdb : (x == ("__debug__" : Str)) = false := by decide) :
    PE X (.Call (.Name x p) [] [] pos) (tE C (mFn n g mNil)) := by
  refine ⟨fun pins s σ H Q I h => ?_⟩
  obtain ⟨ρ, st, σh, S, R, q⟩ := call_run h
  refine wpAny_Call_Name_kw (ld_glob I hg hm ?_ hdb)
  refine PySem.W.callWith_K0 I.kIn hk ?_
  exact run_g (E := E0) (us := []) (vs := []) F hG hr hb .nil pass0 I .nil (fn_run (q ρ H Up.refl S [] (VRs.nil_iff.mpr rfl)))
def startS (N : List Str) (xs : List PV) : Slots := xs.map some ++ List.replicate (N.length - xs.length) none
/-- a def's function, of its body -/
def gOf (N : List Str) (m : MS) : MC := fun xs st => match m (startS N xs) st with
  | .rt x s1 => .ok x s1
  | .nx _ s1 => .ok .non s1
  | .exc c fs _ s1 => .exc c fs s1
  | _ => .no
abbrev W0 (K : PySem.W.Frag) (cl : Nat → Addr) : Wc := ⟨K, cl, fun _ _ _ _ => False⟩
theorem SlR.start {K : PySem.W.Frag} {ρ : List Addr} {H : Hp} {N : List Str} {xs : List PV} {vs : List V} (r : VRs K ρ H xs vs) : SlR K ρ H (startS N xs) (L2.start N vs) := by
  refine ⟨by unfold startS L2.start; rw [List.length_append, List.length_append, List.length_map, List.length_map, List.length_replicate, List.length_replicate, r.length], fun i x e => ?_⟩
  unfold startS at e
  by_cases hi : i < xs.length
  · rw [List.getElem?_append_left (by rw [List.length_map]; exact hi), List.getElem?_map] at e
    cases ex : xs[i]? with
    | none => rw [ex] at e; cases e
    | some y =>
      rw [ex] at e
      cases e
      obtain ⟨v, e1, e2⟩ := r.get ex
      refine ⟨v, ?_, e2⟩
      unfold L2.start
      rw [List.getElem?_append_left (by rw [List.length_map, r.length]; exact hi), List.getElem?_map, e1]
      rfl
  · rw [List.getElem?_append_right (by rw [List.length_map]; omega), List.getElem?_replicate] at e
    split at e <;> cases e
end
section
variable {P : Program} {w : World} {K : PySem.W.Frag} {mg : Str → Option Value} {base : Heap}
theorem fn_no {CX : CXT} {k n : Nat} {f : Addr} {fd : FuncData} {ps : List Str} : FnG P w K mg base CX k f fd ps (spS K n fun _ _ => .no) :=
  ⟨fun _ _ _ _ ⟨_, _, _, _, _, _, _, _, e, _⟩ => (nomatch e), fun _ _ _ _ _ _ _ _ _ _ _ _ _ _ ⟨_, _, _, _, _, _, _, _, e, _⟩ => (nomatch e)⟩
theorem fn_ok {x qual : Str} {st : Stmt} {f : Addr} {fd : FuncData} {N ps : List Str} {k : Nat} {m : MS} {cl : Nat → Addr} (F : Fun K x qual st f fd) (S : FnScope N ps (defScope st))
    (hb : ∀ (cdv : Value) (A : Around) (outer : List Env) (s : Shared) (H : Hp) (E : XK), (A.deeper (envOfC qual (defScope st) s.heap.objs.size f cdv)).guards = some [] → Room k (A.deeper (envOfC qual (defScope st) s.heap.objs.size f cdv)) →
      PSs (cxOf CX0 P w K mg base N qual (defScope st) f cdv A outer s H E).nox (defBody st) (tS (W0 K cl) m)) : FnG P w K mg base CX0 (k + 1) f fd ps (spS K ps.length (gOf N m)) := by
  obtain ⟨oc, od, kV, doc, pm, an, cdv, ct, osl, rfl, lk, hcd⟩ := F.ex
  have len : ∀ vs H Q E, spS K ps.length (gOf N m) vs H Q E → vs.length = ps.length := by
    rintro vs H Q E ⟨ρ, st, xs, hl, _, hv, _⟩
    rw [hv.length, hl]
  refine ⟨len, ?_⟩
  intro A outer s H args us vs Q E hG hr e0 hbd r hsp
  have many := len _ _ _ _ hsp
  have old : ∀ b o, base.get? b = some o → s.heap.get? b = some o := fun b o z => (e0.bs b o z).1
  have KX : K.In s.heap := e0.mod.kin.keeps old
  refine codeAny_call_function hr.depth (KX _ _ lk) rfl S.co S.gen rfl (PySem.W.codeRec_of KX hcd) (hbd _ _ _ _ ?_)
  refine wpAny_newFunctionEnv_cells S.kind ?_ ?_
  · rintro ⟨n, v⟩ hy
    rcases S.par n (List.of_mem_zip hy).1 with z | z
    · exact Or.inl z
    · exact Or.inr ⟨z, PySem.W.cellsFrom_some _ _ _ (Or.inl z)⟩
  · rintro env rfl s1 xc
    refine ⟨(e0.mod.nolimit.keeps old).keeps xc.toInCall.keep, codeAny_func ?_⟩
    obtain ⟨ρ, st0, xs, hl, S0, hv, y, st', e, k⟩ := hsp
    have body := hb cdv A outer s H E (by exact hG) (hr.deeper _)
    have I := inv_start (CX := CX0) (E := E) S hr.hd e0 many r xc
    have go : tS (W0 K cl) m { nx := fun _ H' => Q .non H', rt := Q } (L2.start N vs) H := by
      refine ⟨ρ, st0, startS N xs, S0, SlR.start hv, ?_⟩
      unfold gOf at e
      cases em : m (startS N xs) st0 with
      | rt y s1 => rw [em] at e; cases e; exact k
      | nx σ s1 => rw [em] at e; cases e; exact fun ρ' H' τ u S' R' => k ρ' H' _ u S' (VR.non_iff.mpr rfl)
      | exc c fs σ s1 => rw [em] at e; cases e
      | bk _ _ => rw [em] at e; cases e
      | ct _ _ => rw [em] at e; cases e
      | no => rw [em] at e; cases e
    have all := body.nox.run [] s1 (L2.start N vs) H _ I go
    refine wpAny_mono all ?_ fun _ _ z => z
    rintro fl s' hs
    have fin : ∀ {σ' : L2.St} {H' : Hp} {v : V} {u : Value}, Inv (cxOf CX0 P w K mg base N qual (defScope st) f cdv A outer s H E) [] σ' H' s' → RelV v u → Q v H' → CE outer P w H s Q u s' :=
      fun J rv q => ⟨_, _, J.os, J.bare, J.base, J.hok, rv, q⟩
    rcases fl with _ | _ | _ | u
    all_goals first
      | (obtain ⟨v, σ', H', J, rv, q⟩ := hs; exact fin J rv q)
      | (obtain ⟨σ', H', J, q⟩ := hs; first | exact fin (v := .non) (u := .none) J rfl q | exact False.elim q)
/-- what the law is to keep -/
theorem law_sp {g : MC} {H : Hp} {a : Addr} {ns : List Int} (hO : Only H) (hS : SqL K H a (ns.map V.int)) (h : ∃ st', g [.ref 0] [.rol (ns.map .int)] = .ok (.bl true) st') : spS K 1 g [.ref a] H (fun v _ => v = .bl true) fun _ _ _ => False := by
  obtain ⟨st', e⟩ := h
  refine ⟨[a], [.rol (ns.map .int)], [.ref 0], rfl, ⟨rfl, fun n m a xs ys h1 h2 _ _ => ?_, fun n m a xs ys h1 h2 _ _ => ?_, fun n c b h1 h2 => ?_⟩, VRs.cons_iff.mpr ⟨_, [], rfl, VR.ref_iff.mpr ⟨a, rfl, rfl⟩, VRs.nil_iff.mpr rfl⟩, _, st', e, fun ρ' H' v _ _ r => VR.bl_iff.mp r⟩
  · cases n with
    | zero => cases h1
    | succ n => simp at h1
  · cases n with
    | zero => cases h1
    | succ n => simp at h1
  · cases n with
    | succ n => simp at h1
    | zero =>
      cases h1
      cases h2
      refine ⟨ns.map V.int, ?_, VRs.ints⟩
      rcases hS with (hS | ⟨o, hS⟩) | hS
      · rcases hO a with z | ⟨o, xs, z⟩
        · rw [hS] at z; cases z
        · rw [hS] at z; cases z
      · exact .inl ⟨o, hS⟩
      · exact .inr hS
end
end Sm
namespace Sm
open PySem PySem.Spec PyProof.Rows L2
theorem room65 {k : Nat} {A : Around} (hr : Room k A) : A.units + 65 < cLine := by have := hr.un; omega
end Sm

namespace Sm
open PySem
section
variable {σ : Slots} {st s1 : Store} {a b c : ME} {t u : MT} {p q : MS} {g : MG} {gs : MGs} {f : M2} {α β : Type}
@[simp] theorem bind_ok {x : α} {k : α → Store → Res β} : (Res.ok x st).bind k = k x st := rfl
@[simp] theorem bind_no {k : α → Store → Res β} : (Res.no : Res α).bind k = .no := rfl
@[simp] theorem bindN_ok {x : α} {k : α → Store → Res β} : (Res.ok x st).bindN k = k x st := rfl
@[simp] theorem fl_ok {x : α} {k : α → Store → Fl} : (Res.ok x st).fl σ k = k x st := rfl
@[simp] theorem fl_no {k : α → Store → Fl} : (Res.no : Res α).fl σ k = .no := rfl
@[simp] theorem mSeq_ap : mSeq p q σ st = match p σ st with
  | .nx σ' st' => q σ' st'
  | x => x := rfl
@[simp] theorem mNext_ap : mNext σ st = .nx σ st := rfl
@[simp] theorem mVar_ap {i : Nat} : mVar i σ st = match σ[i]? with
  | some (some x) => .ok x st
  | _ => .no := rfl
@[simp] theorem mC_ap {x : PV} : mC x σ st = .ok x st := rfl
@[simp] theorem mOp_ap : mOp f a b σ st = (a σ st).bind fun x s1 => (b σ s1).bind fun y s2 => f x y s2 := rfl
@[simp] theorem mTest_ap : mTest a σ st = (a σ st).bind fun x s1 => match x with
  | .bl b => .ok b s1
  | _ => .no := rfl
@[simp] theorem mChain_ap {f g : M2} : mChain f g a b c σ st = (a σ st).bind fun x s1 => (b σ s1).bind fun y s2 => (f x y s2).bind fun z s3 => match z with
  | .bl true => (c σ s3).bind fun w s4 => g y w s4
  | .bl false => .ok (.bl false) s3
  | _ => .no := rfl
@[simp] theorem mAndT_ap : mAndT t u σ st = (t σ st).bind fun c s1 => if c = true then u σ s1 else .ok false s1 := rfl
@[simp] theorem mOrT_ap : mOrT t u σ st = (t σ st).bind fun c s1 => if c = true then .ok true s1 else u σ s1 := rfl
@[simp] theorem mNotT_ap : mNotT t σ st = (t σ st).bind fun c s1 => .ok (!c) s1 := rfl
@[simp] theorem mAndV_ap : mAndV a b σ st = (a σ st).bind fun x s1 => match x with
  | .bl c => if c = true then b σ s1 else .ok (.bl false) s1
  | _ => .no := rfl
@[simp] theorem mOrV_ap : mOrV a b σ st = (a σ st).bind fun x s1 => match x with
  | .bl c => if c = true then .ok (.bl true) s1 else b σ s1
  | _ => .no := rfl
@[simp] theorem mNotV_ap : mNotV a σ st = (a σ st).bind fun x s1 => match x with
  | .bl c => .ok (.bl (!c)) s1
  | _ => .no := rfl
@[simp] theorem mIf_ap : mIf t a b σ st = (t σ st).bind fun c s1 => if c = true then a σ s1 else b σ s1 := rfl
@[simp] theorem mTru_ap : mTru a σ st = (a σ st).bind fun x s1 => match truF x s1 with
  | some b => .ok b s1
  | none => .no := rfl
@[simp] theorem mNil_ap : mNil σ st = .ok [] st := rfl
@[simp] theorem mCons_ap {r : MA} : mCons a r σ st = (a σ st).bind fun x s1 => (r σ s1).bind fun xs s2 => .ok (x :: xs) s2 := rfl
@[simp] theorem mTup_ap {r : MA} : mTup r σ st = (r σ st).bind fun xs s1 => if xs.length ≤ sizeLine then .ok (.tup xs) s1 else .no := rfl
@[simp] theorem mLst_ap {r : MA} : mLst r σ st = (r σ st).bind fun xs s1 => if xs.length ≤ sizeLine then .ok (.ref s1.length) (s1 ++ [.lst xs]) else .no := rfl
@[simp] theorem mUn_ap {f : PV → Store → Res PV} : mUn f a σ st = (a σ st).bind f := rfl
@[simp] theorem mCall_ap {f : MC} {r : MA} : mCall f r σ st = (r σ st).bind fun xs s1 => match f xs s1 with
  | .ok r s2 => .ok r s2
  | _ => .no := rfl
theorem mFn_ap {n : Nat} {f : MC} {r : MA} : mFn n f r σ st = (r σ st).bind fun xs s1 => match (if xs.length = n then f xs s1 else .no) with
  | .ok r s2 => .ok r s2
  | _ => .no := rfl
@[simp] theorem mIsi_ap {t : Ty} : mIsi t a σ st = (a σ st).bind fun x s1 => match tyC x s1 with
  | some u => .ok (.bl (isT u t)) s1
  | none => .no := rfl
@[simp] theorem mRet_ap : mRet a σ st = (a σ st).fl σ fun x s1 => .rt x s1 := rfl
@[simp] theorem mRetN_ap : mRetN σ st = .rt .non st := rfl
@[simp] theorem mDrop_ap : mDrop a σ st = (a σ st).fl σ fun _ s1 => .nx σ s1 := rfl
@[simp] theorem mIfS_ap : mIfS t p q σ st = (t σ st).fl σ fun c s1 => if c = true then p σ s1 else q σ s1 := rfl
@[simp] theorem mAsg_ap : mAsg a g σ st = (a σ st).fl σ fun x s1 => match g x σ s1 with
  | some (σ', s2) => .nx σ' s2
  | none => .no := rfl
@[simp] theorem mPar_ap {i j : Nat} {r : MA} : mPar i j r σ st = (r σ st).fl σ fun xs s1 => match xs with
  | [x, y] => .nx ((σ.set i (some x)).set j (some y)) s1
  | _ => .no := rfl
@[simp] theorem mPar3_ap {i j l : Nat} {r : MA} : mPar3 i j l r σ st = (r σ st).fl σ fun xs s1 => match xs with
  | [x, y, z] => .nx (((σ.set i (some x)).set j (some y)).set l (some z)) s1
  | _ => .no := rfl
@[simp] theorem gNm_ap {i : Nat} {x : PV} : gNm i x σ st = some (σ.set i (some x), st) := rfl
@[simp] theorem gNil_ap : Sm.gNil [] σ st = some (σ, st) := rfl
@[simp] theorem gCons_ap {x : PV} {ys : List PV} : Sm.gCons g gs (x :: ys) σ st = (g x σ st).bind fun (σ', st') => gs ys σ' st' := rfl
@[simp] theorem gTp_ap {n : Nat} {xs : List PV} : gTp n gs (.tup xs) σ st = if xs.length = n then gs xs σ st else none := rfl
@[simp] theorem gIx_ap {x : PV} : gIx a b x σ st = match a σ st with
  | .ok (.ref n) s1 => match b σ s1 with
    | .ok (.int k) s2 => match getM s2 n with
      | some xs => match L2.ixN xs.length k with
        | some j => some (σ, s2.set n (.lst (xs.set j x)))
        | none => none
      | none => none
    | _ => none
  | _ => none := rfl
@[simp] theorem add_int {i j : Int} : addF (.int i) (.int j) st = .ok (.int (i + j)) st := rfl
@[simp] theorem add_tup {xs ys : List PV} : addF (.tup xs) (.tup ys) st = if xs.length + ys.length ≤ sizeLine then .ok (.tup (xs ++ ys)) st else .no := rfl
@[simp] theorem add_str {x y : Str} : addF (.str x) (.str y) st = if x.length + y.length ≤ sizeLine then .ok (.str (x ++ y)) st else .no := rfl
@[simp] theorem add_ref {m n : Nat} : addF (.ref m) (.ref n) st = match getM st m, getM st n with
    | some xs, some ys => newL (xs ++ ys) st
    | _, _ => .no := rfl
@[simp] theorem sub_int {i j : Int} : subF (.int i) (.int j) st = .ok (.int (i - j)) st := rfl
@[simp] theorem mul_int {i j : Int} : mulF (.int i) (.int j) st = if L2.CMul i j then .ok (.int (i * j)) st else .no := rfl
@[simp] theorem fdiv_int {i j : Int} : fdivF (.int i) (.int j) st = if L2.CDivN i j ∨ L2.CDivW i j then .ok (.int (i.fdiv j)) st else .no := rfl
@[simp] theorem mod_int {i j : Int} : modF (.int i) (.int j) st = if j ≠ 0 then .ok (.int (i.fmod j)) st else .no := rfl
@[simp] theorem pow_int {i j : Int} : powF (.int i) (.int j) st = if powOk i j = true then .ok (.int (i ^ j.toNat)) st else .no := rfl
@[simp] theorem neg_int {i : Int} : negF (.int i) st = .ok (.int (-i)) st := rfl
@[simp] theorem ord_int {g : Int → Int → Bool} {i j : Int} : ordF g (.int i) (.int j) st = .ok (.bl (g i j)) st := rfl
@[simp] theorem eq_int {neg : Bool} {i j : Int} : eqF neg (.int i) (.int j) st = .ok (.bl (if neg then !decide (i = j) else decide (i = j))) st := rfl
@[simp] theorem eq_str {neg : Bool} {i j : Str} : eqF neg (.str i) (.str j) st = .ok (.bl (if neg then !decide (i = j) else decide (i = j))) st := rfl
@[simp] theorem eq_bl {neg : Bool} {i j : Bool} : eqF neg (.bl i) (.bl j) st = .ok (.bl (if neg then !decide (i = j) else decide (i = j))) st := rfl
theorem eq_tup {neg : Bool} {xs : List PV} {y : PV} : eqF neg (.tup xs) y st = eqDF neg (.tup xs) y st := rfl
theorem eq_ref {neg : Bool} {n : Nat} {y : PV} : eqF neg (.ref n) y st = eqDF neg (.ref n) y st := rfl
@[simp] theorem ix_tup {xs : List PV} {i : Int} : ixF (.tup xs) (.int i) st = match L2.atI xs i with
      | some z => .ok z st
      | none => .no := rfl
@[simp] theorem ix_ref {n : Nat} {i : Int} : ixF (.ref n) (.int i) st = match getL st n with
      | some xs => match L2.atI xs i with
        | some z => .ok z st
        | none => .no
      | none => .no := rfl
@[simp] theorem mO_none : mO none σ st = .ok none st := rfl
@[simp] theorem mO_some : mO (some a) σ st = (a σ st).bind fun x s1 => match x with
    | .int i => .ok (some i) s1
    | _ => .no := rfl
@[simp] theorem mSl_ap {lo hi : Option ME} : mSl a lo hi σ st = (a σ st).bind fun x s1 => (mO lo σ s1).bind fun l s2 => (mO hi σ s2).bind fun h s3 => match slF x l h s3 with
  | .ok r s4 => .ok r s4
  | _ => .no := rfl
@[simp] theorem sl_tup {xs : List PV} {lo hi : Option Int} : slF (.tup xs) lo hi st = .ok (.tup (cutP xs lo hi)) st := rfl
@[simp] theorem max_ap {i j : Int} : maxF [.int i, .int j] st = .ok (.int (if j > i then j else i)) st := rfl
@[simp] theorem min_ap {i j : Int} : minF [.int i, .int j] st = .ok (.int (if j < i then j else i)) st := rfl
@[simp] theorem len_ref {n : Nat} : lenF [.ref n] st = match getL st n with
    | some ys => .ok (.int (ys.length : Nat)) st
    | none => .no := rfl
@[simp] theorem len_tup {xs : List PV} : lenF [.tup xs] st = .ok (.int (xs.length : Nat)) st := rfl
@[simp] theorem mItL_ap : mItL a σ st = (a σ st).bind fun x s1 => match x with
  | .ref n => match getL s1 n with
    | some xs => .ok (some n, xs) s1
    | none => .no
  | _ => .no := rfl
@[simp] theorem mItT_ap : mItT a σ st = (a σ st).bind fun x s1 => match x with
  | .tup xs => .ok (none, xs) s1
  | _ => .no := rfl
@[simp] theorem mItR1_ap {r : MA} : mItR1 r σ st = (r σ st).bind fun xs s1 => match xs with
  | [.int j] => if -(2 ^ 62) ≤ j ∧ j < 2 ^ 62 then .ok (none, rangeP 0 j.toNat) s1 else .no
  | _ => .no := rfl
@[simp] theorem mItR2_ap {r : MA} : mItR2 r σ st = (r σ st).bind fun xs s1 => match xs with
  | [.int i, .int j] => if -(2 ^ 62) ≤ i ∧ i < 2 ^ 62 ∧ -(2 ^ 62) ≤ j ∧ j < 2 ^ 62 then .ok (none, rangeP i (j - i).toNat) s1 else .no
  | _ => .no := rfl
@[simp] theorem mFor_ap {mi : MI} {g : MG} : mFor mi g p σ st = (mi σ st).fl σ fun wx s1 => loopF g p wx.1 wx.2 wx.2 σ s1 := rfl
@[simp] theorem mLc_ap {mi : MI} {g : MG} {vs : List Nat} : mLc mi g t a vs σ st = (mi σ st).bind fun wx s1 => lcF g t a wx.1 wx.2 (wipeS σ vs) s1.length wx.2 (s1 ++ [.lst []]) := rfl
@[simp] theorem mYes_ap : mYes σ st = .ok true st := rfl
@[simp] theorem mBM_ap {T : Ty} {f : PV → List PV → Store → Res PV} {r : MA} : mBM T f a r σ st = (a σ st).bind fun x s1 => if tyC x s1 = some T ∧ T ≠ .tup then (r σ s1).bind fun xs s2 => match f x xs s2 with
    | .ok r s3 => .ok r s3
    | _ => .no
  else .no := rfl
@[simp] theorem isT_refl (a : Ty) : isT a a = true := by cases a <;> rfl
/-! ### stores -/
theorem getL_lst {n : Nat} {xs : List PV} (h : st[n]? = some (.lst xs)) : getL st n = some xs := by unfold getL; rw [h]
theorem getL_rol {n : Nat} {xs : List PV} (h : st[n]? = some (.rol xs)) : getL st n = some xs := by unfold getL; rw [h]
theorem getM_lst {n : Nat} {xs : List PV} (h : st[n]? = some (.lst xs)) : getM st n = some xs := by unfold getM; rw [h]
theorem atI_cast {α : Type} {xs : List α} {j : Nat} : L2.atI xs (j : Int) = xs[j]? := by
  unfold L2.atI L2.ixN
  rw [if_pos (Int.natCast_nonneg j)]
  by_cases h : j < xs.length
  · rw [if_pos (by omega), Int.toNat_natCast]; rfl
  · rw [if_neg (by omega), List.getElem?_eq_none (by omega)]; rfl
theorem ixN_cast {n j : Nat} (h : j < n) : L2.ixN n (j : Int) = some j := by
  unfold L2.ixN
  rw [if_pos (Int.natCast_nonneg j), if_pos (by omega), Int.toNat_natCast]
@[simp] theorem atI_0 {α : Type} {xs : List α} : L2.atI xs 0 = xs[0]? := atI_cast (j := 0)
@[simp] theorem atI_1 {α : Type} {xs : List α} : L2.atI xs 1 = xs[1]? := atI_cast (j := 1)
@[simp] theorem atI_2 {α : Type} {xs : List α} : L2.atI xs 2 = xs[2]? := atI_cast (j := 2)
@[simp] theorem atI_3 {α : Type} {xs : List α} : L2.atI xs 3 = xs[3]? := atI_cast (j := 3)
@[simp] theorem atI_4 {α : Type} {xs : List α} : L2.atI xs 4 = xs[4]? := atI_cast (j := 4)
@[simp] theorem atI_5 {α : Type} {xs : List α} : L2.atI xs 5 = xs[5]? := atI_cast (j := 5)
@[simp] theorem atI_6 {α : Type} {xs : List α} : L2.atI xs 6 = xs[6]? := atI_cast (j := 6)
@[simp] theorem atI_7 {α : Type} {xs : List α} : L2.atI xs 7 = xs[7]? := atI_cast (j := 7)
@[simp] theorem atI_8 {α : Type} {xs : List α} : L2.atI xs 8 = xs[8]? := atI_cast (j := 8)
@[simp] theorem ixN_0 {n : Nat} : L2.ixN (n + 1) 0 = some 0 := ixN_cast (j := 0) (by omega)
@[simp] theorem ixN_1 {n : Nat} : L2.ixN (n + 2) 1 = some 1 := ixN_cast (j := 1) (by omega)
@[simp] theorem ixN_2 {n : Nat} : L2.ixN (n + 3) 2 = some 2 := ixN_cast (j := 2) (by omega)
@[simp] theorem ixN_3 {n : Nat} : L2.ixN (n + 4) 3 = some 3 := ixN_cast (j := 3) (by omega)
theorem size_small {n : Nat} (h : n ≤ 1000000) : n ≤ sizeLine := Nat.le_trans h (by decide)
end
end Sm

namespace Sm
open PySem PySem.Spec PyProof.Rows L2
/-! ### repr -/
def shows (d : PyData) : Bool := d.showable && !d.hasDict && decide (d.depth ≤ 60) && decide (d.shown.length ≤ sizeLine)
def reprF : MC := fun xs st => match xs with
  | [x] => match toD st x with
    | some d => if shows d then .ok (.str d.shown) st else .no
    | none => .no
  | _ => .no
section
variable {X : Cx} {C : Wc}
theorem c_repr (hK : X.K = C.K) (hG : X.A.guards = some []) (hu : X.A.units + 65 < cLine) : CallR X (.builtin "repr") (rA C.K reprF) := by
  intro pins s σ H vs us Q I rv ⟨ρ, st, xs, S, hx, r, st', e, k⟩
  unfold reprF at e
  split at e
  · rename_i x
    split at e
    · rename_i d ed
      split at e
      · rename_i hs
        cases e
        obtain ⟨v, rfl, h1⟩ := hx.one
        have D := hK ▸ toD_ok S h1 ed
        unfold shows at hs
        simp only [Bool.and_eq_true, decide_eq_true_eq] at hs
        obtain ⟨⟨⟨s1, s2⟩, s3⟩, s4⟩ := hs
        rw [Bool.not_eq_true'] at s2
        cases rv with
        | cons r1 r2 =>
          cases r2
          rename_i u
          obtain ⟨as, R⟩ := Dp.reads I d v u D r1
          have fin : ∀ (t : Tok) (s' : Shared), Inv X pins σ H s' → EP X pins σ Q (.str d.shown t) s' := fun t s' J => ⟨.str d.shown, H, J, ⟨t, rfl⟩, k ρ H _ Up.refl S (VR.str_iff.mpr rfl)⟩
          cases u with
          | ref a => exact repr_of_reads' R s1 (PyData.noDict_hsm s2) hG (by omega) (fun _ _ z => z) (fun h' u tk hk => fin _ _ (I.kept hk)) s4
          | none => cases R; exact PySem.P.repr_of_none (fin _ _ (I.tok _))
          | bool b => cases R; exact PySem.P.repr_of_bool (fin _ _ (I.tok _))
          | int i t =>
            cases R
            exact PySem.P.repr_of_int (by simpa [PyData.showable] using s1) (fin _ _ (I.tok _))
          | str z t => cases R; exact PySem.P.repr_of_str (fin _ _ (I.tok _)) s4
          | _ => cases R
      · cases e
    · cases e
  · cases e
end
/-! ### a list turned round -/
def mRev (m : ME) : ME := fun σ st => (m σ st).bind fun x s1 => match x with
  | .ref n => match getL s1 n with
    | some xs => newL xs.reverse s1
    | none => .no
  | _ => .no
theorem VRs.rev {K : PySem.W.Frag} {ρ : List Addr} {H : Hp} : ∀ {xs : List PV} {vs : List V}, VRs K ρ H xs vs → VRs K ρ H xs.reverse vs.reverse
  | [], vs, r => by rw [VRs.nil_iff] at r; subst r; exact VRs.nil_iff.mpr rfl
  | x :: xs, vs, r => by
    rw [VRs.cons_iff] at r
    obtain ⟨v, ws, rfl, h1, h2⟩ := r
    rw [List.reverse_cons, List.reverse_cons]
    exact (VRs.rev h2).append (VRs.cons_iff.mpr ⟨v, [], rfl, h1, VRs.nil_iff.mpr rfl⟩)
section
variable {X : Cx} {C : Wc}
theorem e_rev {e : Expr} {m : ME} {k : Nat} {p1 p2 p3 pos : Pos} (hK : X.K = C.K) (he : PE X e (tE C m)) : PE X (.Subscript e (.Slice none none (some (.UnaryOp .USub (.Constant (.int 1) k p1) p2)) p3) pos) (tE C (mRev m)) :=
  (pe_revL he).weak fun σ H Q ⟨ρ, st, σh, S, R, p⟩ => ⟨ρ, st, σh, S, R, (Post.bind p).imp fun ρ1 H1 x s1 _ u1 S1 ⟨s1', S1', p1⟩ v hv => by
    cases x with
    | ref n =>
      dsimp only at p1
      cases en : getL s1' n with
      | none => rw [en] at p1; exact p1.elim
      | some xs =>
        rw [en] at p1
        dsimp only at p1
        rw [VR.ref_iff] at hv
        obtain ⟨a, rfl, ha⟩ := hv
        obtain ⟨b, ws, h1, h2, h3⟩ := getL_sql S1' en
        rw [ha] at h1; cases h1
        refine ⟨a, ws, rfl, hK ▸ h2, ?_⟩
        cases er : newL xs.reverse s1' with
        | ok r s4 =>
          rw [er] at p1
          exact (S1'.newL h3.rev er fun ρ' H' v u S' r' => p1 ρ' H' u S' v r').2
        | exc _ _ _ => unfold newL at er; split at er <;> cases er
        | no => rw [er] at p1; exact p1.elim
    | _ => exact p1.elim⟩
/-- a tuple that the module holds under a name -/
def KT (K : PySem.W.Frag) (mg : Str → Option Value) (x : Str) (vs : List V) : Prop := ∃ (a : Addr) (o : Obj) (us : Array Value) (n : Nat), mg x = some (.ref a) ∧ K.lookup a = some o ∧ o.cls = .type "tuple" ∧ o.data = .seq us n ∧ us.size ≤ sizeLine ∧ Vals vs us.toList
theorem e_kt {x : Str} {xs : List PV} {vs : List V} {pos : Pos} (hK : X.K = C.K) (k : KT X.K X.mg x vs) (r : ∀ ρ H, VRs C.K ρ H xs vs) (hg : Gl X x := by rfl) (hdb : (x == ("__debug__" : Str)) = false := by decide) : PE X (.Name x pos) (tE C (mC (.tup xs))) := by
  obtain ⟨a, o, us, n, hm, hl, hc, hd, hz, rv⟩ := k
  exact e_c (pe_glob (v := .ref a) hg hm rfl hdb) fun ρ H => VR.tup_iff.mpr ⟨a, vs, rfl, .inr ⟨o, us, n, hK ▸ hl, hc, hd, hz, rv⟩, r ρ H⟩
theorem e_ki {x : Str} {i : Int} {pos : Pos} (k : ∃ t, X.mg x = some (.int i t)) (hg : Gl X x := by rfl) (hdb : (x == ("__debug__" : Str)) = false := by decide) : PE X (.Name x pos) (tE C (mC (.int i))) := by
  obtain ⟨t, hm⟩ := k
  exact e_c (pe_glob (v := .int i) hg hm ⟨t, rfl⟩ hdb) fun _ _ => VR.int_iff.mpr rfl
theorem e_ks {x y : Str} {pos : Pos} (k : ∃ t, X.mg x = some (.str y t)) (hg : Gl X x := by rfl) (hdb : (x == ("__debug__" : Str)) = false := by decide) : PE X (.Name x pos) (tE C (mC (.str y))) := by
  obtain ⟨t, hm⟩ := k
  exact e_c (pe_glob (v := .str y) hg hm ⟨t, rfl⟩ hdb) fun _ _ => VR.str_iff.mpr rfl
end
/-! ### the law's call, where nothing is being shown -/
section
variable {P : Program} {w : World} {K : PySem.W.Frag} {mg mb : Str → Option Value} {base : Heap} {k : Nat} {f a : Addr} {fd : FuncData} {x : Str} {g : MC} {t : Shared} {us : List Value} {zs : List Int}
/-- the law meets one script -/
def Meets (g : MC) (zs : List Int) : Prop := ∃ st', g [.ref 0] [.rol (zs.map .int)] = .ok (.bl true) st'
/-- what stands before the law's call -/
structure Eve (P : Program) (w : World) (K : PySem.W.Frag) (mg mb : Str → Option Value) (t : Shared) : Prop where
  kin : K.In t.heap
  glo : t.heap.Ns mainGlobals mg
  blt : t.heap.Ns builtinsNs mb
  boot : ∀ y : Str, y ≠ "__name__" → mb y = bootBuiltins y
  nolim : t.heap.NoLimit
  nogen : t.gens = #[]
theorem Eve.env {H : Hp} (Z : Eve P w K mg mb t) (ok : HOk P w H t.heap) (clear : ∀ b o, t.heap.get? b = some o → ∀ es ep, o.data = .dict es ep → H b = none) (free : ∀ b o, K.lookup b = some o → H b = none) :
    Env0 P w K mg (hidT t.heap H) callerA [] t H := by
  have ns : ∀ {c : Addr} {m : Str → Option Value}, t.heap.Ns c m → (hidT t.heap H).Ns c m := by
    rintro c m ⟨o, es, ep, q1, q2, q3⟩
    exact ⟨o, es, ep, hidT_get q1 (clear c o q1 es ep q2), q2, q3⟩
  obtain ⟨mc, n1, n2⟩ := Z.nolim
  refine ⟨rfl, ⟨fun b o q => hidT_get (Z.kin b o q) (free b o q), ns Z.glo, ⟨mb, ns Z.blt, Z.boot⟩, mc, ns n1, n2⟩, fun b o => of_hidT, Nat.le_of_eq (hidT_size _ _), trivial, ?_, ok, AllBare.of_eq Z.nogen⟩
  intro b hb
  exact absurd (show b ∈ ([] : List Addr) from hb) (by simp)
abbrev Wins (t : Shared) (r : Except Value Flow) (t' : Shared) : Prop := r = .ok (.ret (.bool true)) ∧ OldK t.heap t'.heap ∧ t'.os = t.os ∧ AllBare t'.gens
theorem met {H : Hp} (hr : Room k callerA) (F : FnG P w K mg (hidT t.heap H) CX0 k f fd [x] (spS K 1 g)) (hbd : ∀ (s : Shared) (u : Value), BindsTo s fd ⟨[u], []⟩ [(x, u)]) (e0 : Env0 P w K mg (hidT t.heap H) callerA [] t H)
    (only : Only H) (sq : SqL K H a (zs.map V.int)) (m : Meets g zs) : codeAny (model P w) callerA (.call (.ref f) ⟨[.ref a], []⟩) (Wins t) t := by
  have run := F.go callerA [] t H ⟨[.ref a], []⟩ [.ref a] [.ref a] _ (fun _ _ _ => False) rfl hr e0 (hbd t (.ref a)) (.cons rfl .nil) (law_sp only sq m)
  refine codeAny_mono run ?_
  rintro (er | fl) t' q
  · exact False.elim q
  · rcases fl with _ | _ | _ | u
    · exact False.elim q
    · exact False.elim q
    · exact False.elim q
    · obtain ⟨v, H2, os, bare, un, ok2, rv, win⟩ := q
      have win' : v = .bl true := win
      subst win'
      have ru : u = Value.bool true := rv
      subst ru
      refine ⟨rfl, .of_keep ?_, os, bare⟩
      intro b o eb
      have ok1 := e0.hok
      cases c : H b with
      | none => exact un.keep b o eb c (by intro z; exact absurd (show b ∈ ([] : List Addr) from z) (by simp)) (by simp)
      | some y =>
        obtain z | ⟨ob, ys, z⟩ := only b
        · rw [c] at z; cases z
        · have l1 := (ok1 b _ z).1
          rw [eb] at l1
          cases l1
          exact (ok2 b _ (un.frzs b _ _ z)).1
theorem callG (Z : Eve P w K mg mb t) (hr : Room k callerA) (ha : t.heap.get? a = some { cls := .type "list", data := .seq us.toArray }) (hi : IntsAre us zs) (hz : zs.length ≤ sizeLine)
    (F : ∀ base : Heap, K.In base → base.Ns mainGlobals mg → FnG P w K mg base CX0 k f fd [x] (spS K 1 g)) (hbd : ∀ (s : Shared) (u : Value), BindsTo s fd ⟨[u], []⟩ [(x, u)]) (m : Meets g zs) :
    codeAny (model P w) callerA (.call (.ref f) ⟨[.ref a], []⟩) (Wins t) t := by
  have vals := vals_ints hi
  have n1 := hi.length
  cases ek : K.lookup a with
  | some oa =>
    have same := Z.kin a oa ek
    rw [ha] at same
    obtain rfl := Option.some.inj same
    have e0 := Z.env (H := fun _ => none) (fun _ _ z => by cases (show (none : Option HO) = some _ from z)) (fun _ _ _ _ _ _ => rfl) fun _ _ _ => rfl
    refine met hr (F _ e0.mod.kin e0.mod.glob) hbd e0 (fun _ => .inl rfl) (.inr ⟨_, us.toArray, _, ek, rfl, rfl, rfl, ?_, ?_⟩) m
    · rw [List.size_toArray, n1]; exact hz
    · simpa using vals
  | none =>
    let oa : Obj := { cls := .type "list", data := .seq us.toArray }
    let H1 : Hp := fun b => if b = a then some (.frz oa (.lst (zs.map V.int))) else none
    have here : H1 a = some (.frz oa (.lst (zs.map V.int))) := if_pos rfl
    have there : ∀ b, b ≠ a → H1 b = none := fun b nb => if_neg nb
    have e0 := Z.env (H := H1) (fun b y z => by
      by_cases hb : b = a
      · subst hb
        rw [here] at z
        cases z
        refine ⟨ha, ?_, us, _, vals, ha⟩
        rw [List.length_map]; exact hz
      · rw [there b hb] at z; cases z) (fun b o q es ep hd => there b fun z => by
        subst z
        rw [ha] at q
        cases q
        cases (show Data.seq us.toArray _ = Data.dict es ep from hd)) fun b o q => there b fun z => by
        subst z
        rw [ek] at q
        cases q
    refine met hr (F _ e0.mod.kin e0.mod.glob) hbd e0 (fun b => ?_) (.inl (.inr ⟨oa, here⟩)) m
    by_cases hb : b = a
    · subst hb; exact .inr ⟨_, _, here⟩
    · exact .inl (there b hb)
end
theorem walkG {l : PySem.W.OpenLaw} {n k : Nat} {q : Program} {loose : List Str} {XP : (Str → Option Value) → Heap → Prop} {YP : World → Heap → Prop} {d : DefRec} {K : Params → PySem.W.Frag} {g : MC} {x : Str}
    (most : l.most = some n) (few : n ≤ sizeLine) (nodef : d.params.defaults = []) (hr : Room k callerA)
    (own : ∀ (w : World) (h : Heap), YP w h → (K w.params).In h)
    (F : ∀ (w : World) (mg : Str → Option Value) (f : Addr) (h : Heap), (K w.params).In h → h.Ns mainGlobals mg → mg d.name = some (.ref f) → ∃ fd : FuncData,
      (∀ (s : Shared) (u : Value), BindsTo s fd ⟨[u], []⟩ [(x, u)]) ∧ ∀ base : Heap, (K w.params).In base → base.Ns mainGlobals mg → FnG l.prog w (K w.params) mg base CX0 k f fd [x] (spS (K w.params) 1 g))
    (good : ∀ zs : List Int, zs.length ≤ n → (∀ z ∈ zs, Builtin.Int.intBits z ≤ 1048576) → Meets g zs) :
    PySem.W.WalkO q loose XP YP l.row.toRowW d [] (fun f vs => PySem.call f vs) := by
  refine Att.attach_callB most nodef ?_
  intro w _ t mg mb f _ _ _ _ a us zs G Y _ _ _ hmg ha hi hl hb hg
  have kin := own w _ Y
  obtain ⟨fd, hbd, hF⟩ := F w mg f _ kin G.T.g hmg
  exact callG ⟨kin, G.T.g, G.T.b, G.T.builtins, G.T.nolimit, hg⟩ hr ha hi (Nat.le_trans hl few) hF hbd (good zs hl hb)
end Sm

namespace Sm
open PySem PySem.Spec PyProof.Rows L2
/-! ### is None; or, and by truth; int, bool; all, any; what is never run -/
def isNF (neg : Bool) : M2 := fun x y st => match y with
  | .non => .ok (.bl (match x with | .non => !neg | _ => neg)) st
  | _ => .no
theorem calm_isN {neg : Bool} : Calm2 (isNF neg) := fun x y st c fs st' e => by unfold isNF at e; split at e <;> cases e
def mOrX (a b : ME) : ME := fun σ st => (a σ st).bind fun x s1 => match truF x s1 with
  | some c => if c = true then .ok x s1 else b σ s1
  | none => .no
def mAndX (a b : ME) : ME := fun σ st => (a σ st).bind fun x s1 => match truF x s1 with
  | some c => if c = true then b σ s1 else .ok x s1
  | none => .no
def mNotX (a : ME) : ME := fun σ st => (a σ st).bind fun x s1 => match truF x s1 with
  | some c => .ok (.bl (!c)) s1
  | none => .no
def intF : MC := fun xs st => match xs with
  | [.int i] => .ok (.int i) st
  | [.bl b] => .ok (.int (if b then 1 else 0)) st
  | _ => .no
def boolF : MC := fun xs st => match xs with
  | [.int i] => .ok (.bl (i != 0)) st
  | [.bl b] => .ok (.bl b) st
  | _ => .no
def blOf : PV → Option Bool
  | .bl b => some b
  | _ => none
def blsOf : List PV → Option (List Bool)
  | [] => some []
  | x :: xs => match blOf x, blsOf xs with
    | some b, some bs => some (b :: bs)
    | _, _ => none
def allF : MC := fun xs st => match xs with
  | [.ref n] => match getL st n with
    | some ys => match blsOf ys with
      | some bs => .ok (.bl (bs.all id)) st
      | none => .no
    | none => .no
  | _ => .no
def anyF : MC := fun xs st => match xs with
  | [.ref n] => match getL st n with
    | some ys => match blsOf ys with
      | some bs => .ok (.bl (bs.any id)) st
      | none => .no
    | none => .no
  | _ => .no
theorem VRs.bls {K : PySem.W.Frag} {ρ : List Addr} {H : Hp} : ∀ {xs : List PV} {vs : List V} {bs : List Bool}, VRs K ρ H xs vs → blsOf xs = some bs → vs = bs.map V.bl
  | [], vs, bs, r, e => by rw [VRs.nil_iff] at r; subst r; cases e; rfl
  | x :: xs, vs, bs, r, e => by
    rw [VRs.cons_iff] at r
    obtain ⟨v, ws, rfl, h1, h2⟩ := r
    unfold blsOf at e
    cases x with
    | bl b =>
      cases e2 : blsOf xs with
      | none => rw [e2] at e; cases e
      | some cs =>
        rw [e2] at e
        cases e
        rw [VR.bl_iff] at h1
        subst h1
        rw [VRs.bls h2 e2]
        rfl
    | _ => cases e
section
variable {X : Cx} {C : Wc} {K : PySem.W.Frag}
theorem op_isNS : OpR X (compareOp .Is) (rS K (isNF false)) := by
  intro pins s σ H x y v u Q I rx ry ⟨ρ, st, xh, yh, S, hx, hy, r, st', e, k⟩
  unfold isNF at e
  split at e
  · cases e
    rw [VR.non_iff] at hy
    subst hy
    refine op_isN pins s σ H _ _ v u Q I rx ry ⟨rfl, ?_⟩
    cases xh with
    | non => rw [VR.non_iff] at hx; subst hx; exact k ρ H (.bl true) Up.refl S (VR.bl_iff.mpr rfl)
    | bl b => rw [VR.bl_iff] at hx; subst hx; exact k ρ H (.bl false) Up.refl S (VR.bl_iff.mpr rfl)
    | int i => rw [VR.int_iff] at hx; subst hx; exact k ρ H (.bl false) Up.refl S (VR.bl_iff.mpr rfl)
    | str w => rw [VR.str_iff] at hx; subst hx; exact k ρ H (.bl false) Up.refl S (VR.bl_iff.mpr rfl)
    | tup xs => rw [VR.tup_iff] at hx; obtain ⟨a, vs, rfl, _⟩ := hx; exact k ρ H (.bl false) Up.refl S (VR.bl_iff.mpr rfl)
    | ref n => rw [VR.ref_iff] at hx; obtain ⟨a, rfl, _⟩ := hx; exact k ρ H (.bl false) Up.refl S (VR.bl_iff.mpr rfl)
  · cases e
theorem op_notNS : OpR X (compareOp .IsNot) (rS K (isNF true)) := by
  intro pins s σ H x y v u Q I rx ry ⟨ρ, st, xh, yh, S, hx, hy, r, st', e, k⟩
  unfold isNF at e
  split at e
  · cases e
    rw [VR.non_iff] at hy
    subst hy
    refine op_notN pins s σ H _ _ v u Q I rx ry ⟨rfl, ?_⟩
    cases xh with
    | non => rw [VR.non_iff] at hx; subst hx; exact k ρ H (.bl false) Up.refl S (VR.bl_iff.mpr rfl)
    | bl b => rw [VR.bl_iff] at hx; subst hx; exact k ρ H (.bl true) Up.refl S (VR.bl_iff.mpr rfl)
    | int i => rw [VR.int_iff] at hx; subst hx; exact k ρ H (.bl true) Up.refl S (VR.bl_iff.mpr rfl)
    | str w => rw [VR.str_iff] at hx; subst hx; exact k ρ H (.bl true) Up.refl S (VR.bl_iff.mpr rfl)
    | tup xs => rw [VR.tup_iff] at hx; obtain ⟨a, vs, rfl, _⟩ := hx; exact k ρ H (.bl true) Up.refl S (VR.bl_iff.mpr rfl)
    | ref n => rw [VR.ref_iff] at hx; obtain ⟨a, rfl, _⟩ := hx; exact k ρ H (.bl true) Up.refl S (VR.bl_iff.mpr rfl)
  · cases e
theorem e_orX {a b : Expr} {rest : List Expr} {ma mb : ME} {pos : Pos} (hK : C.K = X.K) (ha : PE X a (tE C ma)) (hb : PE X (.BoolOp .Or (b :: rest) pos) (tE C mb)) : PE X (.BoolOp .Or (a :: b :: rest) pos) (tE C (mOrX ma mb)) :=
  (pe_orT ha hb).weak fun σ H Q ⟨ρ, st, σh, S, R, p⟩ => ⟨ρ, st, σh, S, R, (Post.bind p).imp fun ρ1 H1 x s1 _ u1 S1 ⟨s1', S1', p1⟩ v hv => by
    cases e : truF x s1' with
    | none => rw [e] at p1; exact p1.elim
    | some c =>
      rw [e] at p1
      refine ⟨c, hK ▸ tru_of S1' hv e, ?_⟩
      cases c with
      | true => exact p1 ρ1 H1 Up.refl S1' v hv
      | false => exact ⟨ρ1, s1', σh, S1', R.up u1, p1⟩⟩
theorem e_andX {a b : Expr} {rest : List Expr} {ma mb : ME} {pos : Pos} (hK : C.K = X.K) (ha : PE X a (tE C ma)) (hb : PE X (.BoolOp .And (b :: rest) pos) (tE C mb)) : PE X (.BoolOp .And (a :: b :: rest) pos) (tE C (mAndX ma mb)) :=
  (pe_andT ha hb).weak fun σ H Q ⟨ρ, st, σh, S, R, p⟩ => ⟨ρ, st, σh, S, R, (Post.bind p).imp fun ρ1 H1 x s1 _ u1 S1 ⟨s1', S1', p1⟩ v hv => by
    cases e : truF x s1' with
    | none => rw [e] at p1; exact p1.elim
    | some c =>
      rw [e] at p1
      refine ⟨c, hK ▸ tru_of S1' hv e, ?_⟩
      cases c with
      | false => exact p1 ρ1 H1 Up.refl S1' v hv
      | true => exact ⟨ρ1, s1', σh, S1', R.up u1, p1⟩⟩
theorem e_notX {a : Expr} {ma : ME} {pos : Pos} (hK : C.K = X.K) (ha : PE X a (tE C ma)) : PE X (.UnaryOp .Not a pos) (tE C (mNotX ma)) :=
  (pe_notT ha).weak fun σ H Q ⟨ρ, st, σh, S, R, p⟩ => ⟨ρ, st, σh, S, R, (Post.bind p).imp fun ρ1 H1 x s1 _ u1 S1 ⟨s1', S1', p1⟩ v hv => by
    cases e : truF x s1' with
    | none => rw [e] at p1; exact p1.elim
    | some c =>
      rw [e] at p1
      exact ⟨c, hK ▸ tru_of S1' hv e, p1 ρ1 H1 Up.refl S1' _ (VR.bl_iff.mpr rfl)⟩⟩
theorem c_int : CallR X (.type "int") (rA C.K intF) := by
  intro pins s σ H vs us Q I rv ⟨ρ, st, xs, S, hx, r, st', e, k⟩
  unfold intF at e
  split at e
  · cases e
    obtain ⟨v, rfl, h1⟩ := hx.one
    rw [VR.int_iff] at h1
    subst h1
    exact call_int1 pins s σ H _ us Q I rv (.inl ⟨_, rfl, k ρ H _ Up.refl S (VR.int_iff.mpr rfl)⟩)
  · cases e
    obtain ⟨v, rfl, h1⟩ := hx.one
    rw [VR.bl_iff] at h1
    subst h1
    exact call_int1 pins s σ H _ us Q I rv (.inr ⟨_, rfl, k ρ H _ Up.refl S (VR.int_iff.mpr rfl)⟩)
  · cases e
theorem c_bool : CallR X (.type "bool") (rA C.K boolF) := by
  intro pins s σ H vs us Q I rv ⟨ρ, st, xs, S, hx, r, st', e, k⟩
  unfold boolF at e
  split at e
  · cases e
    obtain ⟨v, rfl, h1⟩ := hx.one
    rw [VR.int_iff] at h1
    subst h1
    exact call_bool1 pins s σ H _ us Q I rv (.inl ⟨_, rfl, k ρ H _ Up.refl S (VR.bl_iff.mpr rfl)⟩)
  · cases e
    obtain ⟨v, rfl, h1⟩ := hx.one
    rw [VR.bl_iff] at h1
    subst h1
    exact call_bool1 pins s σ H _ us Q I rv (.inr ⟨_, rfl, k ρ H _ Up.refl S (VR.bl_iff.mpr rfl)⟩)
  · cases e
theorem c_all (hK : X.K = C.K) (hc : X.calm = true) : CallR X (.builtin "all") (rA C.K allF) := by
  intro pins s σ H vs us Q I rv ⟨ρ, st, xs, S, hx, r, st', e, k⟩
  unfold allF at e
  split at e
  · split at e
    · rename_i ys en
      split at e
      · rename_i bs eb
        cases e
        obtain ⟨v, rfl, h1⟩ := hx.one
        rw [VR.ref_iff] at h1
        obtain ⟨a, rfl, ha⟩ := h1
        obtain ⟨b, ws, h1, h2, h3⟩ := getL_sql S en
        rw [ha] at h1; cases h1
        exact cr_all hc pins s σ H _ us Q I rv ⟨a, bs, rfl, by rw [← h3.bls eb]; exact hK ▸ h2, k ρ H _ Up.refl S (VR.bl_iff.mpr rfl)⟩
      · cases e
    · cases e
  · cases e
theorem c_any (hK : X.K = C.K) (hc : X.calm = true) : CallR X (.builtin "any") (rA C.K anyF) := by
  intro pins s σ H vs us Q I rv ⟨ρ, st, xs, S, hx, r, st', e, k⟩
  unfold anyF at e
  split at e
  · split at e
    · rename_i ys en
      split at e
      · rename_i bs eb
        cases e
        obtain ⟨v, rfl, h1⟩ := hx.one
        rw [VR.ref_iff] at h1
        obtain ⟨a, rfl, ha⟩ := h1
        obtain ⟨b, ws, h1, h2, h3⟩ := getL_sql S en
        rw [ha] at h1; cases h1
        exact cr_any hc pins s σ H _ us Q I rv ⟨a, bs, rfl, by rw [← h3.bls eb]; exact hK ▸ h2, k ρ H _ Up.refl S (VR.bl_iff.mpr rfl)⟩
      · cases e
    · cases e
  · cases e
/-- what no run reaches -/
theorem e_no {e : Expr} : PE X e (tE C fun _ _ => .no) := ⟨fun _ _ _ _ _ _ ⟨_, _, _, _, _, p⟩ => p.elim⟩
theorem s_no {e : Stmt} : PS X e (tS C fun _ _ => .no) := ⟨fun _ _ _ _ _ _ ⟨_, _, _, _, _, p⟩ => p.elim⟩
end
section
variable {σ : Slots} {st : Store} {a b : ME}
@[simp] theorem mOrX_ap : mOrX a b σ st = (a σ st).bind fun x s1 => match truF x s1 with
  | some c => if c = true then .ok x s1 else b σ s1
  | none => .no := rfl
@[simp] theorem mAndX_ap : mAndX a b σ st = (a σ st).bind fun x s1 => match truF x s1 with
  | some c => if c = true then b σ s1 else .ok x s1
  | none => .no := rfl
@[simp] theorem mNotX_ap : mNotX a σ st = (a σ st).bind fun x s1 => match truF x s1 with
  | some c => .ok (.bl (!c)) s1
  | none => .no := rfl
@[simp] theorem isN_non {neg : Bool} : isNF neg .non .non st = .ok (.bl (!neg)) st := rfl
@[simp] theorem isN_int {neg : Bool} {i : Int} : isNF neg (.int i) .non st = .ok (.bl neg) st := rfl
@[simp] theorem isN_bl {neg c : Bool} : isNF neg (.bl c) .non st = .ok (.bl neg) st := rfl
@[simp] theorem isN_str {neg : Bool} {s : Str} : isNF neg (.str s) .non st = .ok (.bl neg) st := rfl
@[simp] theorem isN_tup {neg : Bool} {xs : List PV} : isNF neg (.tup xs) .non st = .ok (.bl neg) st := rfl
@[simp] theorem isN_ref {neg : Bool} {n : Nat} : isNF neg (.ref n) .non st = .ok (.bl neg) st := rfl
@[simp] theorem int_int {i : Int} : intF [.int i] st = .ok (.int i) st := rfl
@[simp] theorem int_bl {c : Bool} : intF [.bl c] st = .ok (.int (if c then 1 else 0)) st := rfl
@[simp] theorem bool_int {i : Int} : boolF [.int i] st = .ok (.bl (i != 0)) st := rfl
@[simp] theorem bool_bl {c : Bool} : boolF [.bl c] st = .ok (.bl c) st := rfl
end
end Sm

namespace Sm
open PySem PySem.Spec PyProof.Rows L2
theorem hu1 {k : Nat} {A : Around} (hr : Room k A) : A.units + 1 < cLine := by have := hr.un; omega
/-! ### dicts with keys that are ints and texts -/
def keyP : PV → Option Key
  | .int i => some (.inl i)
  | .str x => some (.inr x)
  | _ => none
def valP (kvs : List (Key × PV)) (k : Key) : Option PV := (kvs.find? fun kv => decide (kv.1 = k)).map (·.2)
def swapP (kvs : List (Key × PV)) (k : Key) (x : PV) : List (Key × PV) := kvs.map fun kv => if kv.1 = k then (kv.1, x) else kv
def putP (kvs : List (Key × PV)) (k : Key) (x : PV) : List (Key × PV) := if (kvs.any fun kv => decide (kv.1 = k)) = true then swapP kvs k x else kvs ++ [(k, x)]
def mergeP (kvs more : List (Key × PV)) : List (Key × PV) := more.foldl (fun acc kv => putP acc kv.1 kv.2) kvs
/-- the dict that stands for kvs, its values vs -/
abbrev zipK (kvs : List (Key × PV)) (vs : List V) : List (Key × V) := (kvs.map (·.1)).zip vs
section
variable {K : PySem.W.Frag} {ρ : List Addr} {H : Hp}
theorem keyP_ok {x : PV} {v : V} {k : Key} (r : VR K ρ H x v) (e : keyP x = some k) : v = kV k := by
  unfold keyP at e
  split at e
  · cases e; rw [VR.int_iff] at r; exact r
  · cases e; rw [VR.str_iff] at r; exact r
  · cases e
theorem zip_any {k : Key} : ∀ {kvs : List (Key × PV)} {vs : List V}, vs.length = kvs.length → ((zipK kvs vs).any fun kv => decide (kv.1 = k)) = kvs.any fun kv => decide (kv.1 = k)
  | [], vs, h => rfl
  | p :: kvs, [], h => by simp at h
  | p :: kvs, v :: vs, h => by
    have ih := zip_any (k := k) (kvs := kvs) (vs := vs) (by simpa using h)
    show (decide (p.1 = k) || (zipK kvs vs).any fun kv => decide (kv.1 = k)) = _
    rw [ih]
    rfl
theorem zip_swap {k : Key} {x : PV} {v : V} (hx : VR K ρ H x v) : ∀ {kvs : List (Key × PV)} {vs : List V}, VRs K ρ H (kvs.map (·.2)) vs → ∃ vs', (zipK kvs vs).map (fun kv => if kv.1 = k then (kv.1, v) else kv) = zipK (swapP kvs k x) vs' ∧ VRs K ρ H ((swapP kvs k x).map (·.2)) vs'
  | [], vs, h => ⟨[], rfl, VRs.nil_iff.mpr rfl⟩
  | p :: kvs, vs, h => by
    rw [List.map_cons, VRs.cons_iff] at h
    obtain ⟨w, r, rfl, h1, h2⟩ := h
    obtain ⟨vs', e, h3⟩ := zip_swap hx (k := k) h2
    by_cases hk : p.1 = k
    · refine ⟨v :: vs', ?_, ?_⟩
      · show (if p.1 = k then (p.1, v) else (p.1, w)) :: (zipK kvs r).map _ = zipK ((if p.1 = k then (p.1, x) else p) :: swapP kvs k x) (v :: vs')
        rw [if_pos hk, if_pos hk, e]
        rfl
      · show VRs K ρ H (((if p.1 = k then (p.1, x) else p) :: swapP kvs k x).map (·.2)) _
        rw [if_pos hk]
        exact VRs.cons_iff.mpr ⟨_, _, rfl, hx, h3⟩
    · refine ⟨w :: vs', ?_, ?_⟩
      · show (if p.1 = k then (p.1, v) else (p.1, w)) :: (zipK kvs r).map _ = zipK ((if p.1 = k then (p.1, x) else p) :: swapP kvs k x) (w :: vs')
        rw [if_neg hk, if_neg hk, e]
        rfl
      · show VRs K ρ H (((if p.1 = k then (p.1, x) else p) :: swapP kvs k x).map (·.2)) _
        rw [if_neg hk]
        exact VRs.cons_iff.mpr ⟨_, _, rfl, h1, h3⟩
theorem zip_put {k : Key} {x : PV} {v : V} {kvs : List (Key × PV)} {vs : List V} (hx : VR K ρ H x v) (h : VRs K ρ H (kvs.map (·.2)) vs) : ∃ vs', putK (zipK kvs vs) k v = zipK (putP kvs k x) vs' ∧ VRs K ρ H ((putP kvs k x).map (·.2)) vs' := by
  have hl : vs.length = kvs.length := by rw [h.length, List.length_map]
  unfold putK putP
  rw [zip_any hl]
  by_cases hk : (kvs.any fun kv => decide (kv.1 = k)) = true
  · rw [if_pos hk, if_pos hk]
    exact zip_swap hx h
  · rw [if_neg hk, if_neg hk]
    refine ⟨vs ++ [v], ?_, ?_⟩
    · unfold zipK
      rw [List.map_append, List.zip_append (by rw [List.length_map, hl])]
      rfl
    · rw [List.map_append]
      exact h.append (VRs.cons_iff.mpr ⟨v, [], rfl, hx, VRs.nil_iff.mpr rfl⟩)
theorem zip_val {k : Key} : ∀ {kvs : List (Key × PV)} {vs : List V}, VRs K ρ H (kvs.map (·.2)) vs → (∀ x, valP kvs k = some x → ∃ v, valV (zipK kvs vs) k = some v ∧ VR K ρ H x v) ∧ (valP kvs k = none → valV (zipK kvs vs) k = none)
  | [], vs, h => ⟨fun x e => (by cases e), fun _ => rfl⟩
  | p :: kvs, vs, h => by
    rw [List.map_cons, VRs.cons_iff] at h
    obtain ⟨w, r, rfl, h1, h2⟩ := h
    have ih := zip_val (k := k) h2
    by_cases hk : p.1 = k
    · have e1 : valP (p :: kvs) k = some p.2 := by simp [valP, List.find?_cons, hk]
      have e2 : valV (zipK (p :: kvs) (w :: r)) k = some w := valV_pos (p := (p.1, w)) hk
      rw [e1, e2]
      exact ⟨fun x e => by cases e; exact ⟨w, rfl, h1⟩, fun e => by cases e⟩
    · have e1 : valP (p :: kvs) k = valP kvs k := by simp [valP, List.find?_cons, hk]
      have e2 : valV (zipK (p :: kvs) (w :: r)) k = valV (zipK kvs r) k := valV_neg (p := (p.1, w)) hk
      rw [e1, e2]
      exact ih
end
def getK (st : Store) (n : Nat) : Option (List (Key × PV)) := match st[n]? with
  | some (.dk kvs) => some kvs
  | _ => none
theorem getK_dk {st : Store} {n : Nat} {kvs : List (Key × PV)} (h : st[n]? = some (.dk kvs)) : getK st n = some kvs := by unfold getK; rw [h]
theorem getK_some {st : Store} {n : Nat} {kvs : List (Key × PV)} (h : getK st n = some kvs) : st[n]? = some (.dk kvs) := by
  unfold getK at h
  split at h
  · rename_i e; cases h; exact e
  · cases h
/-- d[k] -/
def dixF : M2 := fun x y st => match x, keyP y with
  | .ref n, some k => match (getK st n).bind fun kvs => valP kvs k with
    | some z => .ok z st
    | none => .no
  | _, _ => .no
/-- d.get(k, z) -/
def dgetF (x y z : PV) (st : Store) : Res PV := match x, keyP y with
  | .ref n, some k => match getK st n with
    | some kvs => .ok ((valP kvs k).getD z) st
    | none => .no
  | _, _ => .no
def mGet (a b c : ME) : ME := fun σ st => (a σ st).bind fun x s1 => match x with
  | .ref n => match getK s1 n with
    | some _ => (b σ s1).bind fun y s2 => (c σ s2).bind fun z s3 => match dgetF x y z s3 with
      | .ok r s4 => .ok r s4
      | _ => .no
    | none => .no
  | _ => .no
/-- the pairs of a display -/
def mPairs : List (ME × ME) → Slots → Store → Res (List (Key × PV))
  | [], _, st => .ok [] st
  | (a, b) :: r, σ, st => (a σ st).bind fun x s1 => (b σ s1).bind fun y s2 => (mPairs r σ s2).bind fun ps s3 => match keyP x with
    | some k => .ok ((k, y) :: ps) s3
    | none => .no
def mDict (ms : List (ME × ME)) : ME := fun σ st => (mPairs ms σ (st ++ [.dk []])).bind fun kvs s1 => match getK s1 st.length with
  | some [] => if kvs.length ≤ 15 then .ok (.ref st.length) (s1.set st.length (.dk (mergeP [] kvs))) else .no
  | _ => .no
section
variable {X : Cx} {C : Wc} {K : PySem.W.Frag}
theorem e_dix {o i : Expr} {m mi : ME} {pos : Pos} (hK : X.K = C.K) (hu : X.A.units + 1 < cLine) (ho : PE X o (tE C m)) (hi : PE X i (tE C mi)) (hs : NoSl i := by exact fun _ _ => rfl) : PE X (.Subscript o i pos) (tE C (mOp dixF m mi)) :=
  (pe_dget hu ho hi hs).weak fun σ H Q ⟨ρ, st, σh, S, R, p⟩ => ⟨ρ, st, σh, S, R, (Post.bind p).imp fun ρ1 H1 x s1 _ u1 S1 ⟨s1', S1', p1⟩ v hv =>
    ⟨ρ1, s1', σh, S1', R.up u1, (Post.bind p1).imp fun ρ2 H2 y s2 _ u2 S2 ⟨s2', S2', p2⟩ w hw => by
      have hv2 := hv.up u2
      have key : ∃ n k z, x = .ref n ∧ keyP y = some k ∧ (getK s2' n).bind (fun kvs => valP kvs k) = some z := by
        unfold dixF at p2
        cases x with
        | ref n =>
          cases hk : keyP y with
          | none => rw [hk] at p2; exact p2.elim
          | some k =>
            rw [hk] at p2
            dsimp only at p2
            cases hz : (getK s2' n).bind fun kvs => valP kvs k with
            | none => rw [hz] at p2; exact p2.elim
            | some z => exact ⟨n, k, z, rfl, rfl, hz⟩
        | _ => exact p2.elim
      obtain ⟨n, k, z, rfl, hk, hz⟩ := key
      unfold dixF at p2
      rw [hk] at p2
      dsimp only at p2
      rw [hz] at p2
      rw [VR.ref_iff] at hv2
      obtain ⟨a, rfl, ha⟩ := hv2
      cases hg : getK s2' n with
      | none => rw [hg] at hz; cases hz
      | some kvs =>
        rw [hg] at hz
        obtain ⟨b, vs, h1, h2, h3⟩ := S2'.getK (getK_some hg)
        rw [ha] at h1; cases h1
        obtain ⟨v', e1, r1⟩ := (zip_val h3).1 z hz
        have hkey := keyP_ok hw hk
        subst hkey
        exact ⟨a, v', rfl, e1 ▸ DGet.k h2, p2 ρ2 H2 Up.refl S2' _ r1⟩⟩⟩
theorem d_nil {pos : Pos} : PPs X pos [] [] (([] : List (ME × ME)).map fun p => (tE C p.1, tE C p.2)) := pps_nil
theorem d_cons {pos : Pos} {k v : Expr} {ks : List (Option Expr)} {vs : List Expr} {a b : ME} {ms : List (ME × ME)} (hk : PE X k (tE C a)) (hv : PE X v (tE C b)) (hr : PPs X pos ks vs (ms.map fun p => (tE C p.1, tE C p.2))) :
    PPs X pos (some k :: ks) (v :: vs) (((a, b) :: ms).map fun p => (tE C p.1, tE C p.2)) := pps_cons hk hv hr
theorem pairs_run : ∀ (ms : List (ME × ME)) {ρ : List Addr} {st : Store} {σh : Slots} {H : Hp} {σ : L2.St} {Q : List (V × V) → Hp → Prop}, SR C.K ρ H st → SlR C.K ρ H σh σ →
    Post C ρ H σ (fun ρ' H' kvs => ∀ vs, VRs C.K ρ' H' (kvs.map (·.2)) vs → Q ((zipK kvs vs).map fun kv => (kV kv.1, kv.2)) H') (mPairs ms σh st) → tPairs (ms.map fun p => (tE C p.1, tE C p.2)) σ H Q
  | [], ρ, st, σh, H, σ, Q, S, R, p => p ρ H Up.refl S [] (VRs.nil_iff.mpr rfl)
  | (a, b) :: r, ρ, st, σh, H, σ, Q, S, R, p => ⟨ρ, st, σh, S, R, (Post.bind p).imp fun ρ1 H1 x s1 _ u1 S1 ⟨s1', S1', p1⟩ v hv => ⟨ρ1, s1', σh, S1', R.up u1, (Post.bind p1).imp fun ρ2 H2 y s2 _ u2 S2 ⟨s2', S2', p2⟩ w hw =>
      pairs_run r S2' (R.up (u1.trans u2)) ((Post.bind p2).imp fun ρ3 H3 ps s3 _ u3 S3 ⟨s3', S3', p3⟩ vs hvs => by
        cases hk : keyP x with
        | none => rw [hk] at p3; exact p3.elim
        | some k =>
          rw [hk] at p3
          have e := keyP_ok hv hk
          subst e
          exact p3 ρ3 H3 Up.refl S3' (w :: vs) (VRs.cons_iff.mpr ⟨w, vs, rfl, hw.up u3, hvs⟩))⟩⟩
theorem merge_ok {ρ : List Addr} {H : Hp} : ∀ {more : List (Key × PV)} {ws : List V} {kvs : List (Key × PV)} {vs : List V}, VRs K ρ H (more.map (·.2)) ws → VRs K ρ H (kvs.map (·.2)) vs →
    ∃ us, mergeK (zipK kvs vs) (zipK more ws) = zipK (mergeP kvs more) us ∧ VRs K ρ H ((mergeP kvs more).map (·.2)) us
  | [], ws, kvs, vs, h, g => ⟨vs, rfl, g⟩
  | p :: more, ws, kvs, vs, h, g => by
    rw [List.map_cons, VRs.cons_iff] at h
    obtain ⟨w, r, rfl, h1, h2⟩ := h
    obtain ⟨us, e1, g1⟩ := zip_put (k := p.1) h1 g
    obtain ⟨us', e2, g2⟩ := merge_ok h2 g1
    refine ⟨us', ?_, g2⟩
    show mergeK (putK (zipK kvs vs) p.1 w) (zipK more r) = _
    rw [e1, e2]
    rfl
theorem e_dict {keys : List (Option Expr)} {values : List Expr} {ms : List (ME × ME)} {pos : Pos} (h : PPs X pos keys values (ms.map fun p => (tE C p.1, tE C p.2))) (hall : keys.all (·.isSome) = true) (hl : keys.length = values.length) (h0 : keys ≠ []) (h15 : keys.length ≤ 15) :
    PE X (.Dict keys values pos) (tE C (mDict ms)) :=
  (pe_disp h hall hl h0 h15).weak fun σ H Q ⟨ρ, st, σh, S, R, p⟩ => by
    intro a ha
    have u0 : Up C.K ρ H (ρ ++ [a]) (upd H a (.dK [])) := up_app ha
    have S0 : SR C.K (ρ ++ [a]) (upd H a (.dK [])) (st ++ [.dk []]) := S.pushK (kvs := []) (vs := []) ha (VRs.nil_iff.mpr rfl)
    refine pairs_run ms S0 (R.up u0) ((Post.bind (Post.up u0 p)).imp fun ρ1 H1 kvs s1 _ u1 S1 ⟨s1', S1', p1⟩ vs hvs => ?_)
    cases hg : getK s1' st.length with
    | none => rw [hg] at p1; exact p1.elim
    | some d =>
      rw [hg] at p1
      cases d with
      | cons _ _ => exact p1.elim
      | nil =>
        dsimp only at p1
        by_cases hk : kvs.length ≤ 15
        · rw [if_pos hk] at p1
          obtain ⟨b, ws, h1, h2, h3⟩ := S1'.getK (getK_some hg)
          have hb : (ρ ++ [a])[st.length]? = some a := by rw [← S.len]; simp
          rw [u1.r _ _ hb] at h1
          cases h1
          obtain ⟨us, e1, g1⟩ := merge_ok (more := kvs) (kvs := []) (vs := []) hvs (VRs.nil_iff.mpr rfl)
          refine ⟨h2, zipK kvs vs, rfl, ?_, ?_⟩
          · unfold zipK
            rw [List.length_zip, List.length_map, hvs.length, List.length_map]
            omega
          · rw [show mergeK [] (zipK kvs vs) = zipK (mergeP [] kvs) us from e1]
            exact p1 ρ1 _ (up_writeK h2) (S1'.writeK (getK_some hg) (u1.r _ _ hb) h2 g1) _ (VR.ref_iff.mpr ⟨a, rfl, u1.r _ _ hb⟩)
        · rw [if_neg hk] at p1; exact p1.elim
end
end Sm

namespace Sm
open PySem PySem.Spec PyProof.Rows L2
/-! ### walked: a list or a tuple, whichever stands there -/
def iSeq (K : PySem.W.Frag) (t : TE) : TI := fun σ H R => t σ H fun x H1 => (∃ b ys, x = .ref b ∧ SqL K H1 b ys ∧ R (Itl K b) H1) ∨ ∃ b ys, x = .ref b ∧ SqT K H1 b ys ∧ R (Itt K b) H1
theorem pi_seq {X : Cx} {tg l : Expr} {t : TE} (he : PE X l t) : PI X tg l (iSeq X.K t) := by
  constructor
  intro pins s σ H R I w
  refine thn (he.run pins s σ H _ I w) ?_
  rintro v s2 ⟨x, G, J, rx, q⟩
  have seen : ∀ y ∈ [s2.heap.objs.size], FpOk X pins G y := by
    intro y my
    rw [List.mem_singleton] at my
    rw [my]
    exact J.fpOk (Nat.le_refl _) (J.hok.fresh (Nat.le_refl _))
  have kept : ∀ ob : Obj, Inv X pins σ G { s2 with heap := s2.heap.push ob } := fun ob => J.kept (t' := s2.toks) fun _ _ z => Heap.get?_push_of_some _ z
  rcases q with ⟨b, ys, rfl, sq, r⟩ | ⟨b, ys, rfl, sq, r⟩
  · cases rx
    obtain ⟨items, _, pl, _⟩ := J.list sq
    exact wpAny_pyIter_list pl.isList ⟨_, _, _, _, G, rfl, kept _, turn_list b _, ⟨_, Heap.get?_push_size _ rfl, rfl, rfl⟩, seen, r⟩
  · cases rx
    obtain ⟨items, _, pl, _⟩ := J.tuple sq
    exact wpAny_pyIter_tuple (items := items.toArray) pl ⟨_, _, _, _, G, rfl, kept _, turn_tuple b _, ⟨_, Heap.get?_push_size _ rfl, rfl, rfl⟩, seen, r⟩
def mItS (a : ME) : MI := fun σ st => (a σ st).bind fun x s1 => match x with
  | .ref n => match getL s1 n with
    | some xs => .ok (some n, xs) s1
    | none => .no
  | .tup xs => .ok (none, xs) s1
  | _ => .no
theorem i_seq {X : Cx} {C : Wc} {tg l : Expr} {m : ME} (hK : X.K = C.K) (h : PE X l (tE C m)) : PI X tg l (tI C (mItS m)) := (pi_seq h).weak fun σ H R ⟨ρ, st, σh, S, Rl, p⟩ =>
  ⟨ρ, st, σh, S, Rl, (Post.bind p).imp fun ρ1 H1 x s1 _ u1 S1 ⟨s1', S1', p1⟩ v hv => by
    cases x with
    | ref n =>
      cases e : getL s1' n with
      | none => dsimp only at p1; rw [e] at p1; exact p1.elim
      | some xs =>
        dsimp only at p1
        rw [e] at p1
        rw [VR.ref_iff] at hv
        obtain ⟨a, rfl, ha⟩ := hv
        obtain ⟨b, vs, h1, h2, h3⟩ := getL_sql S1' e
        rw [ha] at h1; cases h1
        exact .inl ⟨a, vs, rfl, hK ▸ h2, p1 ρ1 H1 Up.refl S1' _ (by rw [hK]; exact js_list ha)⟩
    | tup xs =>
      rw [VR.tup_iff] at hv
      obtain ⟨a, vs, rfl, h2, h3⟩ := hv
      exact .inr ⟨a, vs, rfl, hK ▸ h2, p1 ρ1 H1 Up.refl S1' _ (by rw [hK]; exact js_tup h2 h3)⟩
    | _ => exact p1.elim⟩
@[simp] theorem mItS_ap {a : ME} {σ : Slots} {st : Store} : mItS a σ st = (a σ st).bind fun x s1 => match x with
  | .ref n => match getL s1 n with
    | some xs => .ok (some n, xs) s1
    | none => .no
  | .tup xs => .ok (none, xs) s1
  | _ => .no := rfl
end Sm

namespace Sm
open PySem PySem.Spec PyProof.Rows L2
/-! ### dicts that are filled, asked -/
def mDnew : ME := fun _ st => .ok (.ref st.length) (st ++ [.dk []])
/-- d[k] = v -/
def mDput (d k v : ME) : MS := fun σ st => (v σ st).fl σ fun z s1 => (d σ s1).fl σ fun x s2 => (k σ s2).fl σ fun y s3 => match x, keyP y with
  | .ref n, some kk => match getK s3 n with
    | some kvs => if kvs.length < sizeLine then .nx σ (s3.set n (.dk (putP kvs kk z))) else .no
    | none => .no
  | _, _ => .no
section
variable {X : Cx} {C : Wc}
theorem e_dnew {pos : Pos} : PE X (.Dict [] [] pos) (tE C mDnew) := pe_dnewK.weak fun σ H Q ⟨ρ, st, σh, S, R, p⟩ => fun a ha =>
  p (ρ ++ [a]) (upd H a (.dK [])) (up_app ha) (S.pushK (kvs := []) (vs := []) ha (VRs.nil_iff.mpr rfl)) (.ref a) (VR.mk_ref S)
theorem e_dget {o e f : Expr} {m mk mz : ME} {apos cpos : Pos} (hK : X.K = C.K) (hu : X.A.units + 1 < cLine) (ho : PE X o (tE C m)) (he : PE X e (tE C mk)) (hf : PE X f (tE C mz)) (mm : L2.M2 X o "get" apos e f cpos) : PE X (.Call (.Attribute o "get" apos) [e, f] [] cpos) (tE C (mGet m mk mz)) :=
  (pe_dget2 hu ho he hf mm).weak fun σ H Q ⟨ρ, st, σh, S, R, p⟩ => ⟨ρ, st, σh, S, R, (Post.bind p).imp fun ρ1 H1 x s1 _ u1 S1 ⟨s1', S1', p1⟩ v hv => by
    cases x with
    | ref n =>
      dsimp only at p1
      cases hg : getK s1' n with
      | none => rw [hg] at p1; exact p1.elim
      | some kvs =>
        rw [hg] at p1
        rw [VR.ref_iff] at hv
        obtain ⟨a, rfl, ha⟩ := hv
        obtain ⟨b, vs, h1, h2, h3⟩ := S1'.getK (getK_some hg)
        rw [ha] at h1; cases h1
        refine ⟨a, rfl, .inl ⟨_, .inl h2⟩, ρ1, s1', σh, S1', R.up u1, (Post.bind p1).imp fun ρ2 H2 y s2 _ u2 S2 ⟨s2', S2', p2⟩ w hw => ⟨ρ2, s2', σh, S2', R.up (u1.trans u2), (Post.bind p2).imp fun ρ3 H3 z s3 _ u3 S3 ⟨s3', S3', p3⟩ r hr => ?_⟩⟩
        have ha3 := u3.r _ _ (u2.r _ _ ha)
        have hw3 := hw.up u3
        unfold dgetF at p3
        cases hk : keyP y with
        | none => rw [hk] at p3; exact p3.elim
        | some kk =>
          rw [hk] at p3
          dsimp only at p3
          cases hg3 : getK s3' n with
          | none => rw [hg3] at p3; exact p3.elim
          | some kvs3 =>
            rw [hg3] at p3
            dsimp only at p3
            obtain ⟨b3, vs3, g1, g2, g3⟩ := S3'.getK (getK_some hg3)
            rw [ha3] at g1; cases g1
            have hkey := keyP_ok hw3 hk
            subst hkey
            cases hv : valP kvs3 kk with
            | none =>
              rw [hv] at p3
              exact ⟨none, (zip_val g3).2 hv ▸ DGet.k g2, p3 ρ3 H3 Up.refl S3' _ hr⟩
            | some zz =>
              rw [hv] at p3
              obtain ⟨v', e1, r1⟩ := (zip_val g3).1 zz hv
              exact ⟨some v', e1 ▸ DGet.k g2, p3 ρ3 H3 Up.refl S3' _ r1⟩
    | _ => exact p1.elim⟩
/-- y in d, y not in d: asked of a dict -/
def dinF (neg : Bool) : M2 := fun y x st => match x, keyP y with
  | .ref n, some k => match getK st n with
    | some kvs => .ok (.bl (if neg then !(valP kvs k).isSome else (valP kvs k).isSome)) st
    | none => .no
  | _, _ => .no
theorem din_ok {ρ : List Addr} {H : Hp} {st : Store} {y x : PV} {v w : V} {neg : Bool} {r : PV} {st' : Store} (S : SR C.K ρ H st) (hy : VR C.K ρ H y v) (hx : VR C.K ρ H x w) (e : dinF neg y x st = .ok r st') :
    ∃ a o, w = .ref a ∧ DGet H a v o ∧ st' = st ∧ r = .bl (if neg then !o.isSome else o.isSome) := by
  unfold dinF at e
  cases x with
  | ref n =>
    cases hk : keyP y with
    | none => rw [hk] at e; cases e
    | some k =>
      rw [hk] at e
      dsimp only at e
      cases hg : getK st n with
      | none => rw [hg] at e; cases e
      | some kvs =>
        rw [hg] at e
        cases e
        rw [VR.ref_iff] at hx
        obtain ⟨a, rfl, ha⟩ := hx
        obtain ⟨b, vs, h1, h2, h3⟩ := S.getK (getK_some hg)
        rw [ha] at h1; cases h1
        have hkey := keyP_ok hy hk
        subst hkey
        cases hv : valP kvs k with
        | none => exact ⟨a, none, rfl, (zip_val h3).2 hv ▸ DGet.k h2, rfl, rfl⟩
        | some z =>
          obtain ⟨v', e1, _⟩ := (zip_val h3).1 z hv
          exact ⟨a, some v', rfl, e1 ▸ DGet.k h2, rfl, rfl⟩
  | _ => cases e
theorem din_run {a b : ME} {neg : Bool} {σ : L2.St} {H : Hp} {Q : VK} (h : tE C (mOp (dinF neg) a b) σ H Q) : (if neg then tDNotIn (tE C a) (tE C b) σ H Q else tDIn (tE C a) (tE C b) σ H Q) := by
  obtain ⟨ρ, st, σh, S, R, p⟩ := h
  have key : tE C a σ H fun y H1 => tE C b σ H1 fun x H2 => ∃ aa o, x = .ref aa ∧ DGet H2 aa y o ∧ Q (.bl (if neg then !o.isSome else o.isSome)) H2 :=
    ⟨ρ, st, σh, S, R, (Post.bind p).imp fun ρ1 H1 y s1 _ u1 S1 ⟨s1', S1', p1⟩ v hv => ⟨ρ1, s1', σh, S1', R.up u1, (Post.bind p1).imp fun ρ2 H2 x s2 _ u2 S2 ⟨s2', S2', p2⟩ w hw => by
      cases e : dinF neg y x s2' with
      | ok r s3 =>
        obtain ⟨aa, o, rfl, g, rfl, rfl⟩ := din_ok S2' (hv.up u2) hw e
        rw [e] at p2
        exact ⟨aa, o, rfl, g, p2 ρ2 H2 Up.refl S2' _ (VR.bl_iff.mpr rfl)⟩
      | exc cc fs s3 =>
        unfold dinF at e
        split at e <;> (try split at e) <;> cases e
      | no => rw [e] at p2; exact p2.elim⟩⟩
  cases neg with
  | true => exact key
  | false => exact key
theorem e_din {a b : Expr} {ma mb : ME} {pos : Pos} (hu : X.A.units + 1 < cLine) (ha : PE X a (tE C ma)) (hb : PE X b (tE C mb)) (hm : behindInMarks .In b = false := by rfl) : PE X (.Compare a [.In] [b] pos) (tE C (mOp (dinF false) ma mb)) :=
  (pe_cmp (pc_din hu ha hb) hm).weak fun _ _ _ h => din_run (neg := false) h
theorem e_dnotin {a b : Expr} {ma mb : ME} {pos : Pos} (hu : X.A.units + 1 < cLine) (ha : PE X a (tE C ma)) (hb : PE X b (tE C mb)) (hm : behindInMarks .NotIn b = false := by rfl) : PE X (.Compare a [.NotIn] [b] pos) (tE C (mOp (dinF true) ma mb)) :=
  (pe_cmp (pc_dnotin hu ha hb) hm).weak fun _ _ _ h => din_run (neg := true) h
theorem s_dput {o i e : Expr} {md mk mv : ME} {pos pos' : Pos} (hu : X.A.units + 1 < cLine) (ho : PE X o (tE C md)) (hi : PE X i (tE C mk)) (he : PE X e (tE C mv)) (hs : swapsWith e (some (.Subscript o i pos')) pos.line X.env = pure false := by rfl) :
    PS X (.Assign [.Subscript o i pos'] e pos) (tS C (mDput md mk mv)) :=
  (ps_dput hu ho hi he hs).weak fun D σ H ⟨ρ, st, σh, S, R, p⟩ => ⟨ρ, st, σh, S, R, (PostS.fl R p).imp fun ρ1 H1 z s1 _ u1 S1 ⟨s1', S1', p1⟩ v hv =>
    ⟨ρ1, s1', σh, S1', R.up u1, (PostS.fl (R.up u1) p1).imp fun ρ2 H2 x s2 _ u2 S2 ⟨s2', S2', p2⟩ w hw => ⟨ρ2, s2', σh, S2', R.up (u1.trans u2), (PostS.fl (R.up (u1.trans u2)) p2).imp fun ρ3 H3 y s3 _ u3 S3 ⟨s3', S3', p3⟩ r hr => by
      have hv3 := hv.up (u2.trans u3)
      have hw3 := hw.up u3
      have R3 := R.up (u1.trans (u2.trans u3))
      cases x with
      | ref n =>
        cases hk : keyP y with
        | none => rw [hk] at p3; exact p3.elim
        | some k =>
          rw [hk] at p3
          dsimp only at p3
          cases hg : getK s3' n with
          | none => rw [hg] at p3; exact p3.elim
          | some kvs =>
            rw [hg] at p3
            dsimp only at p3
            by_cases hl : kvs.length < sizeLine
            · rw [if_pos hl] at p3
              rw [VR.ref_iff] at hw3
              obtain ⟨a, rfl, ha⟩ := hw3
              obtain ⟨b, vs, h1, h2, h3⟩ := S3'.getK (getK_some hg)
              rw [ha] at h1; cases h1
              have hkey := keyP_ok hr hk
              subst hkey
              obtain ⟨vs', e1, g1⟩ := zip_put (k := k) hv3 h3
              have hz : (zipK kvs vs).length < sizeLine := by
                unfold zipK
                rw [List.length_zip, List.length_map]
                omega
              refine ⟨a, _, rfl, DPut.k h2 hz, ?_⟩
              rw [show putK ((kvs.map (·.1)).zip vs) k v = zipK (putP kvs k z) vs' from e1]
              exact p3 ρ3 _ σ (up_writeK h2) (S3'.writeK (getK_some hg) ha h2 g1) (R3.up (up_writeK h2))
            · rw [if_neg hl] at p3; exact p3.elim
      | _ => exact p3.elim⟩⟩⟩
end
section
variable {σ : Slots} {st : Store} {a b c : ME}
@[simp] theorem mDnew_ap : mDnew σ st = .ok (.ref st.length) (st ++ [.dk []]) := rfl
@[simp] theorem mDput_ap : mDput a b c σ st = (c σ st).fl σ fun z s1 => (a σ s1).fl σ fun x s2 => (b σ s2).fl σ fun y s3 => match x, keyP y with
  | .ref n, some kk => match getK s3 n with
    | some kvs => if kvs.length < sizeLine then .nx σ (s3.set n (.dk (putP kvs kk z))) else .no
    | none => .no
  | _, _ => .no := rfl
end
end Sm

namespace Sm
open PySem PySem.Spec PyProof.Rows L2
/-! ### sum, max, min of a list of integers -/
def intOf : PV → Option Int
  | .int b => some b
  | _ => none
def intsOf : List PV → Option (List Int)
  | [] => some []
  | x :: xs => match intOf x, intsOf xs with
    | some b, some bs => some (b :: bs)
    | _, _ => none
theorem VRs.intsE {K : PySem.W.Frag} {ρ : List Addr} {H : Hp} : ∀ {xs : List PV} {vs : List V} {bs : List Int}, VRs K ρ H xs vs → intsOf xs = some bs → vs = bs.map V.int
  | [], vs, bs, r, e => by rw [VRs.nil_iff] at r; subst r; cases e; rfl
  | x :: xs, vs, bs, r, e => by
    rw [VRs.cons_iff] at r
    obtain ⟨v, ws, rfl, h1, h2⟩ := r
    unfold intsOf at e
    cases x with
    | int c =>
      rw [VR.int_iff] at h1
      cases e2 : intsOf xs with
      | none => rw [e2] at e; cases e
      | some cs =>
        rw [e2] at e
        cases e
        rw [h2.intsE e2, h1]
        rfl
    | _ => cases e
def mxL : Int → List Int → Int
  | m, [] => m
  | m, y :: r => mxL (if y > m then y else m) r
def mnL : Int → List Int → Int
  | m, [] => m
  | m, y :: r => mnL (if y < m then y else m) r
theorem mxL_top : ∀ (r : List Int) (m : Int), m ≤ mxL m r ∧ (∀ y ∈ r, y ≤ mxL m r) ∧ (mxL m r = m ∨ mxL m r ∈ r)
  | [], m => ⟨Int.le_refl _, (fun _ h => nomatch h), .inl rfl⟩
  | y :: r, m => by
    have h := mxL_top r (if y > m then y else m)
    unfold mxL
    by_cases c : y > m
    · rw [if_pos c] at h ⊢
      refine ⟨by omega, fun z hz => ?_, .inr ?_⟩
      · rcases List.mem_cons.mp hz with rfl | hz
        · exact h.1
        · exact h.2.1 z hz
      · rcases h.2.2 with e | e
        · rw [e]; exact List.mem_cons_self
        · exact List.mem_cons_of_mem _ e
    · rw [if_neg c] at h ⊢
      refine ⟨h.1, fun z hz => ?_, ?_⟩
      · rcases List.mem_cons.mp hz with rfl | hz
        · omega
        · exact h.2.1 z hz
      · rcases h.2.2 with e | e
        · exact .inl e
        · exact .inr (List.mem_cons_of_mem _ e)
theorem mnL_top : ∀ (r : List Int) (m : Int), mnL m r ≤ m ∧ (∀ y ∈ r, mnL m r ≤ y) ∧ (mnL m r = m ∨ mnL m r ∈ r)
  | [], m => ⟨Int.le_refl _, (fun _ h => nomatch h), .inl rfl⟩
  | y :: r, m => by
    have h := mnL_top r (if y < m then y else m)
    unfold mnL
    by_cases c : y < m
    · rw [if_pos c] at h ⊢
      refine ⟨by omega, fun z hz => ?_, .inr ?_⟩
      · rcases List.mem_cons.mp hz with rfl | hz
        · exact h.1
        · exact h.2.1 z hz
      · rcases h.2.2 with e | e
        · rw [e]; exact List.mem_cons_self
        · exact List.mem_cons_of_mem _ e
    · rw [if_neg c] at h ⊢
      refine ⟨h.1, fun z hz => ?_, ?_⟩
      · rcases List.mem_cons.mp hz with rfl | hz
        · omega
        · exact h.2.1 z hz
      · rcases h.2.2 with e | e
        · exact .inl e
        · exact .inr (List.mem_cons_of_mem _ e)
def sumF : MC := fun xs st => match xs with
  | [.ref n] => match getL st n with
    | some ys => match intsOf ys with
      | some bs => .ok (.int bs.sum) st
      | none => .no
    | none => .no
  | _ => .no
def maxLF : MC := fun xs st => match xs with
  | [.ref n] => match getL st n with
    | some ys => match intsOf ys with
      | some (b :: bs) => .ok (.int (mxL b bs)) st
      | _ => .no
    | none => .no
  | _ => .no
def minLF : MC := fun xs st => match xs with
  | [.ref n] => match getL st n with
    | some ys => match intsOf ys with
      | some (b :: bs) => .ok (.int (mnL b bs)) st
      | _ => .no
    | none => .no
  | _ => .no
section
variable {X : Cx} {C : Wc}
theorem c_sum (hK : X.K = C.K) (hc : X.calm = true) : CallR X (.builtin "sum") (rA C.K sumF) := by
  intro pins s σ H vs us Q I rv ⟨ρ, st, xs, S, hx, r, st', e, k⟩
  unfold sumF at e
  split at e
  · split at e
    · rename_i ys en
      split at e
      · rename_i bs eb
        cases e
        obtain ⟨v, rfl, h1⟩ := hx.one
        rw [VR.ref_iff] at h1
        obtain ⟨a, rfl, ha⟩ := h1
        obtain ⟨b, ws, h1, h2, h3⟩ := getL_sql S en
        rw [ha] at h1; cases h1
        exact cr_sum hc pins s σ H _ us Q I rv ⟨a, bs, rfl, by rw [← h3.intsE eb]; exact hK ▸ h2, k ρ H _ Up.refl S (VR.int_iff.mpr rfl)⟩
      · cases e
    · cases e
  · cases e
theorem c_maxL (hK : X.K = C.K) (hc : X.calm = true) : CallR X (.builtin "max") (rA C.K maxLF) := by
  intro pins s σ H vs us Q I rv ⟨ρ, st, xs, S, hx, r, st', e, k⟩
  unfold maxLF at e
  split at e
  · split at e
    · rename_i ys en
      split at e
      · rename_i b bs eb
        cases e
        obtain ⟨v, rfl, h1⟩ := hx.one
        rw [VR.ref_iff] at h1
        obtain ⟨a, rfl, ha⟩ := h1
        obtain ⟨q, ws, h1, h2, h3⟩ := getL_sql S en
        rw [ha] at h1; cases h1
        refine cr_max hc pins s σ H _ us Q I rv ⟨a, b :: bs, rfl, by rw [← h3.intsE eb]; exact hK ▸ h2, Nat.zero_lt_succ _, fun m hm hle => ?_⟩
        have t := mxL_top bs b
        have e1 : m = mxL b bs := by
          refine Int.le_antisymm ?_ (hle _ ?_)
          · rcases List.mem_cons.mp hm with rfl | hm
            · exact t.1
            · exact t.2.1 m hm
          · rcases t.2.2 with e | e
            · rw [e]; exact List.mem_cons_self
            · exact List.mem_cons_of_mem _ e
        exact k ρ H _ Up.refl S (VR.int_iff.mpr (by rw [e1]))
      · cases e
    · cases e
  · cases e
theorem c_minL (hK : X.K = C.K) (hc : X.calm = true) : CallR X (.builtin "min") (rA C.K minLF) := by
  intro pins s σ H vs us Q I rv ⟨ρ, st, xs, S, hx, r, st', e, k⟩
  unfold minLF at e
  split at e
  · split at e
    · rename_i ys en
      split at e
      · rename_i b bs eb
        cases e
        obtain ⟨v, rfl, h1⟩ := hx.one
        rw [VR.ref_iff] at h1
        obtain ⟨a, rfl, ha⟩ := h1
        obtain ⟨q, ws, h1, h2, h3⟩ := getL_sql S en
        rw [ha] at h1; cases h1
        refine cr_min hc pins s σ H _ us Q I rv ⟨a, b :: bs, rfl, by rw [← h3.intsE eb]; exact hK ▸ h2, Nat.zero_lt_succ _, fun m hm hle => ?_⟩
        have t := mnL_top bs b
        have e1 : m = mnL b bs := by
          refine Int.le_antisymm (hle _ ?_) ?_
          · rcases t.2.2 with e | e
            · rw [e]; exact List.mem_cons_self
            · exact List.mem_cons_of_mem _ e
          · rcases List.mem_cons.mp hm with rfl | hm
            · exact t.1
            · exact t.2.1 m hm
        exact k ρ H _ Up.refl S (VR.int_iff.mpr (by rw [e1]))
      · cases e
    · cases e
  · cases e
end
variable {st : Store}
@[simp] theorem sum_ap {n : Nat} : sumF [.ref n] st = match getL st n with
    | some ys => match intsOf ys with
      | some bs => .ok (.int bs.sum) st
      | none => .no
    | none => .no := rfl
@[simp] theorem maxL_ap {n : Nat} : maxLF [.ref n] st = match getL st n with
    | some ys => match intsOf ys with
      | some (b :: bs) => .ok (.int (mxL b bs)) st
      | _ => .no
    | none => .no := rfl
@[simp] theorem minL_ap {n : Nat} : minLF [.ref n] st = match getL st n with
    | some ys => match intsOf ys with
      | some (b :: bs) => .ok (.int (mnL b bs)) st
      | _ => .no
    | none => .no := rfl
end Sm

namespace SmE
open PySem PySem.Spec PyProof.Rows L2
theorem str_eq_declines_dict (b : Str) (u : Tok) (l : Addr) (c : Value) (es : Array DictEntry) (n : Nat) (dd : Option Addr) (sl : Array (Option Value)) :
    PySem.Meets (Builtin.«str.__eq__» { pos := [Value.str b u, Value.ref l] }) fun x R s => s.heap.get? l = some { cls := c, dict := dd, data := Data.dict es n, slots := sl } ∧ R (Except.ok (Flow.ret Value.notImplemented)) s := by
  refine Meets.of_wp fun prog w A R s h => ?_
  obtain ⟨hp, g, d, tk, os⟩ := s
  obtain ⟨hl, h⟩ := h
  refine wpAny_bind (wpAny_bind ?_)
  unfold slotArgs
  refine wpAny_ite_false rfl (wpAny_ite_false rfl (wpAny_pure ?_))
  refine wpAny_bind (wpAny_pure (wpAny_pure ?_))
  refine wpAny_bind ?_
  unfold asStr?
  refine wpAny_bind (wpAny_load hl (wpAny_pure ?_))
  refine wpAny_bind (wpAny_rule (wpAny_pure ?_))
  exact Exists.intro Value.notImplemented ⟨rfl, h⟩
theorem dict_eq_declines_str (l : Addr) (es : Array DictEntry) (n : Nat) (dd : Option Addr) (sl : Array (Option Value)) (b : Str) (u : Tok) :
    PySem.Meets (Builtin.«dict.__eq__» { pos := [Value.ref l, Value.str b u] }) fun x R s => s.heap.get? l = some { cls := Value.type "dict", dict := dd, data := Data.dict es n, slots := sl } ∧ R (Except.ok (Flow.ret Value.notImplemented)) s := by
  refine Meets.of_wp fun prog w A R s h => ?_
  obtain ⟨hp, g, d, tk, os⟩ := s
  obtain ⟨hl, h⟩ := h
  have f1 := F.sub_str_dict
  refine wpAny_bind ?_
  unfold Builtin.Dict.dictSlotArgs
  refine wpAny_bind (wpAny_pure (wpAny_bind ?_))
  unfold slotArgs
  refine wpAny_ite_false rfl (wpAny_ite_false rfl (wpAny_pure (wpAny_pure ?_)))
  refine wpAny_bind (wpAny_bind (wpAny_pure (wpAny_of_eq f1 ?_)))
  refine wpAny_ite_true rfl (wpAny_bind (wpAny_rule (wpAny_pure ?_)))
  exact Exists.intro Value.notImplemented ⟨rfl, h⟩
section
variable {A : Around} {s : Shared} {l : Addr} {es : Array DictEntry} {n : Nat} {dd : Option Addr} {sl : Array (Option Value)}
theorem rc_str_dict (b : Str) (u : Tok) (ho : s.heap.get? l = some { cls := Value.type "dict", dict := dd, data := Data.dict es n, slots := sl }) (hu : A.units < cLine) : SeqAt.RcAt A s (Value.str b u) (Value.ref l) false := fun prog w E Q h =>
  SeqAt.rc_eq_decline_or (typeIs_str s b u) ⟨_, ho, rfl⟩ (of_decide_eq_true rfl) F.sub_dict_str F.slot_str_eq F.slot_dict_eq_refl
    (fun x hq => call_meets F.slot_str_eq (typeIs_str s b u) F.entry_str_eq (F.args_str_eq_2 _ _) (str_eq_declines_dict b u l _ es n dd sl) ⟨ho, hq⟩)
    (fun x hq => call_meets F.slot_dict_eq_refl ⟨_, ho, rfl⟩ F.entry_dict_eq (F.args_dict_eq_2 _ _) (dict_eq_declines_str l es n dd sl b u) ⟨ho, hq⟩)
    (fun x hq => wpAny_of_eq rfl hq) (.inr hu) h
theorem rc_dict_str (b : Str) (u : Tok) (ho : s.heap.get? l = some { cls := Value.type "dict", dict := dd, data := Data.dict es n, slots := sl }) (hu : A.units < cLine) : SeqAt.RcAt A s (Value.ref l) (Value.str b u) false := fun prog w E Q h =>
  SeqAt.rc_eq_decline_or ⟨_, ho, rfl⟩ (typeIs_str s b u) (of_decide_eq_true rfl) F.sub_str_dict F.slot_dict_eq F.slot_str_eq_refl
    (fun x hq => call_meets F.slot_dict_eq ⟨_, ho, rfl⟩ F.entry_dict_eq (F.args_dict_eq_2 _ _) (dict_eq_declines_str l es n dd sl b u) ⟨ho, hq⟩)
    (fun x hq => call_meets F.slot_str_eq (typeIs_str s b u) F.entry_str_eq (F.args_str_eq_2 _ _) (str_eq_declines_dict b u l _ es n dd sl) ⟨ho, hq⟩)
    (fun x hq => wpAny_of_eq rfl hq) (.inr hu) h
theorem eq_str_dict (b : Str) (u : Tok) (ho : s.heap.get? l = some { cls := Value.type "dict", dict := dd, data := Data.dict es n, slots := sl }) (hu : A.units < cLine) : SeqAt.EqAt A s (Value.str b u) (Value.ref l) false := fun prog w E Q h =>
  wpAny_holding (wpAny_ite_split (fun hab => absurd (eq_of_beq hab) fun a => nomatch a) fun _ =>
    wpAny_bind (rc_str_dict b u ho hu prog w E (fun a s' => wpAny (model prog w) A (truthOfDropped a) Q E s') (wpAny_truthy_bool h)))
end
end SmE

namespace Sm
open PySem PySem.Spec PyProof.Rows L2
/-! ### boxes: tuples, lists, dicts; none of them is a text -/
def boxP (x : PV) (st : Store) : Bool := match x with
  | .tup _ => true
  | .ref n => match st[n]? with
    | some _ => true
    | none => false
  | _ => false
def isStrP : PV → Bool
  | .str _ => true
  | _ => false
def Box (s : Shared) (a : Addr) : Prop := (∃ items, s.heap.IsTuple a items) ∨ (∃ items, s.heap.IsList a items) ∨ ∃ es n dd sl, s.heap.get? a = some { cls := Value.type "dict", dict := dd, data := Data.dict es n, slots := sl }
section
variable {X : Cx} {K : PySem.W.Frag} {pins : List (Addr × Obj)} {σ : L2.St} {H : Hp} {s : Shared} {ρ : List Addr} {st : Store}
theorem box_obj (I : L2.Inv X pins σ H s) (S : SR X.K ρ H st) {x : PV} {v : V} {u : Value} (hx : VR X.K ρ H x v) (rx : L2.RelV v u) (hb : boxP x st = true) : ∃ a, u = .ref a ∧ Box s a := by
  cases x with
  | tup xs =>
    rw [VR.tup_iff] at hx
    obtain ⟨a, vs, rfl, h1, _⟩ := hx
    cases rx
    obtain ⟨its, _, p, _⟩ := I.tuple h1
    exact ⟨a, rfl, .inl ⟨_, p⟩⟩
  | ref n =>
    rw [VR.ref_iff] at hx
    obtain ⟨a, rfl, ha⟩ := hx
    cases rx
    unfold boxP at hb
    dsimp only at hb
    cases e : st[n]? with
    | none => rw [e] at hb; cases hb
    | some c =>
      have cr := S.cel n c a e ha
      cases c with
      | lst xs =>
        obtain ⟨b, vs, h1, h2, _⟩ := getL_sql (n := n) (xs := xs) S (by unfold getL; rw [e])
        rw [ha] at h1; cases h1
        obtain ⟨its, _, p, _⟩ := I.list h2
        exact ⟨a, rfl, .inr (.inl ⟨_, p.isList⟩)⟩
      | rol xs =>
        obtain ⟨b, vs, h1, h2, _⟩ := getL_sql (n := n) (xs := xs) S (by unfold getL; rw [e])
        rw [ha] at h1; cases h1
        obtain ⟨its, _, p, _⟩ := I.list h2
        exact ⟨a, rfl, .inr (.inl ⟨_, p.isList⟩)⟩
      | dk kvs =>
        obtain ⟨vs, h1, _⟩ := cr
        have ok := I.hok a _ h1
        unfold ObjOk at ok
        obtain ⟨_, _, ws, _, o, es, ep, ho, hc, hd, _⟩ := ok
        obtain ⟨c1, c2, c3⟩ := hc
        obtain ⟨oc, od, oda, os⟩ := o
        cases c1; cases hd
        exact ⟨a, rfl, .inr (.inr ⟨es, ep, od, os, ho⟩)⟩
  | _ => cases hb
theorem Box.rc_str {A : Around} {a : Addr} (B : Box s a) (b : Str) (u : Tok) (hu : A.units < cLine) : SeqAt.RcAt A s (.ref a) (.str b u) false := by
  rcases B with ⟨items, h⟩ | ⟨items, h⟩ | ⟨es, n, dd, sl, h⟩
  · exact SeqAt.RcAt.tuple_str b u h hu
  · exact SeqAt.RcAt.list_str b u h hu
  · exact SmE.rc_dict_str b u h hu
theorem Box.eq_str {A : Around} {a : Addr} (B : Box s a) (b : Str) (u : Tok) (hu : A.units < cLine) : SeqAt.EqAt A s (.str b u) (.ref a) false := by
  rcases B with ⟨items, h⟩ | ⟨items, h⟩ | ⟨es, n, dd, sl, h⟩
  · exact SeqAt.EqAt.str_tuple b u h hu
  · exact SeqAt.EqAt.str_list b u h hu
  · exact SmE.eq_str_dict b u h hu
theorem Vals.strs {ρ : List Addr} {H : Hp} : ∀ {xs : List PV} {vs : List V} {its : List Value}, VRs K ρ H xs vs → xs.all isStrP = true → L2.Vals vs its → ∀ y ∈ its, ∃ b u, y = Value.str b u
  | [], vs, its, r, _, w, y, hy => by
    rw [VRs.nil_iff] at r; subst r
    cases w; cases hy
  | x :: xs, vs, its, r, h, w, y, hy => by
    rw [VRs.cons_iff] at r
    obtain ⟨v, ws, rfl, h1, h2⟩ := r
    rw [List.all_cons, Bool.and_eq_true] at h
    cases w with
    | cons p q =>
      rcases List.mem_cons.mp hy with rfl | hy
      · cases x with
        | str z =>
          rw [VR.str_iff] at h1; subst h1
          obtain ⟨t, rfl⟩ := p
          exact ⟨_, _, rfl⟩
        | _ => cases h.1
      · exact Vals.strs h2 h.2 q y hy
end
def eqT : M2 := fun x y st => match y with
  | .str b => if boxP x st = true then .ok (.bl false) st else eqF false x y st
  | .tup [] => match x with
    | .tup xs => .ok (.bl xs.isEmpty) st
    | _ => eqF false x y st
  | .ref m => match x with
    | .ref n => match getL st n, getL st m with
      | some xs, some ys => if xs.length = ys.length then eqF false x y st else .ok (.bl false) st
      | _, _ => eqF false x y st
    | _ => eqF false x y st
  | _ => eqF false x y st
def inT : M2 := fun x y st => match y with
  | .tup ys => if boxP x st = true ∧ ys.all isStrP = true then .ok (.bl false) st else inF false x y st
  | _ => inF false x y st
theorem calm_eqT : Calm2 eqT := fun x y st c fs st' e => by
  unfold eqT at e
  split at e
  · split at e
    · cases e
    · exact calm_eq _ _ _ _ _ _ e
  · split at e
    · cases e
    · exact calm_eq _ _ _ _ _ _ e
  · split at e
    · split at e
      · split at e
        · exact calm_eq _ _ _ _ _ _ e
        · cases e
      · exact calm_eq _ _ _ _ _ _ e
    · exact calm_eq _ _ _ _ _ _ e
  · exact calm_eq _ _ _ _ _ _ e
theorem calm_inT : Calm2 inT := fun x y st c fs st' e => by
  unfold inT at e
  split at e
  · split at e
    · cases e
    · exact calm_in _ _ _ _ _ _ e
  · exact calm_in _ _ _ _ _ _ e
section
variable {X : Cx} {K : PySem.W.Frag}
theorem op_eqT (hK : X.K = K) (hu : X.A.units + 64 < cLine) : OpR X (compareOp .Eq) (rS K eqT) := by
  subst hK
  intro pins s σ H x y v u Q I rx ry ⟨ρ, st, xh, yh, S, hx, hy, r, st', e, k⟩
  have old : eqF false xh yh st = .ok r st' → _ := fun e => op_eqS rfl hu pins s σ H x y v u Q I rx ry ⟨ρ, st, xh, yh, S, hx, hy, r, st', e, k⟩
  have fin : ∀ b : Bool, r = .bl b → st' = st → EP X pins σ Q (.bool b) s := fun b e1 e2 => ⟨.bl b, H, I, rfl, by subst e1 e2; exact k ρ H _ Up.refl S (VR.bl_iff.mpr rfl)⟩
  unfold eqT at e
  split at e
  · rename_i b
    split at e
    · rename_i hb
      cases e
      rw [VR.str_iff] at hy; subst hy
      obtain ⟨t, rfl⟩ := ry
      obtain ⟨a, rfl, B⟩ := box_obj I S hx rx hb
      exact B.rc_str b t (by omega) _ _ _ _ (fin _ rfl rfl)
    · exact old e
  · split at e
    · rename_i xs
      cases e
      rw [VR.tup_iff] at hx hy
      obtain ⟨a, vs, rfl, h1, h2⟩ := hx
      obtain ⟨b, ws, rfl, h3, h4⟩ := hy
      rw [VRs.nil_iff] at h4; subst h4
      cases rx; cases ry
      obtain ⟨its, w1, p1, _⟩ := I.tuple h1
      obtain ⟨jts, w2, p2, _⟩ := I.tuple h3
      cases w2
      refine SeqAt.eq_tupleAt (e := fun _ => true) p1 p2 (by omega) (fun j h1 h2 => absurd h2 (by simp)) ?_
      have l1 : its.length = vs.length := (Vals.length w1).symm
      have l2 := h2.length
      have e1 : ((List.range (min its.toArray.size (#[] : Array Value).size)).all (fun _ => true) && its.toArray.size == (#[] : Array Value).size) = xs.isEmpty := by
        cases xs with
        | nil => have : its = [] := List.eq_nil_of_length_eq_zero (by rw [l1, l2]; rfl); subst this; rfl
        | cons z zs =>
          have : its.length ≠ 0 := by rw [l1, l2]; simp
          simp [this]
      rw [e1]
      exact fin _ rfl rfl
    · exact old e
  · split at e
    · split at e
      · rename_i m n xs ys en em
        split at e
        · exact old e
        · rename_i hne
          cases e
          rw [VR.ref_iff] at hx hy
          obtain ⟨a, rfl, ha⟩ := hx
          obtain ⟨b, rfl, hb⟩ := hy
          cases rx; cases ry
          obtain ⟨a', vs, h1, h2, h3⟩ := getL_sql S en
          obtain ⟨b', ws, h4, h5, h6⟩ := getL_sql S em
          rw [ha] at h1; cases h1
          rw [hb] at h4; cases h4
          obtain ⟨its, w1, p1, _⟩ := I.list h2
          obtain ⟨jts, w2, p2, _⟩ := I.list h5
          refine SeqAt.eq_list_lengthsAt p1.isList p2.isList ?_ (by omega) (fin _ rfl rfl)
          have l1 : its.length = vs.length := (Vals.length w1).symm
          have l2 := h3.length
          have l3 : jts.length = ws.length := (Vals.length w2).symm
          have l4 := h6.length
          simp
          omega
      · exact old e
    · exact old e
  · exact old e
theorem op_inT (hK : X.K = K) (hu : X.A.units + 65 < cLine) : OpR X (compareOp .In) (rS K inT) := by
  subst hK
  intro pins s σ H x y v u Q I rx ry ⟨ρ, st, xh, yh, S, hx, hy, r, st', e, k⟩
  have old : inF false xh yh st = .ok r st' → _ := fun e => op_inS rfl hu pins s σ H x y v u Q I rx ry ⟨ρ, st, xh, yh, S, hx, hy, r, st', e, k⟩
  unfold inT at e
  split at e
  · rename_i ys
    split at e
    · rename_i hb
      cases e
      obtain ⟨a, rfl, B⟩ := box_obj I S hx rx hb.1
      rw [VR.tup_iff] at hy
      obtain ⟨b, ws, rfl, h3, h4⟩ := hy
      cases ry
      obtain ⟨jts, w2, p2, _⟩ := I.tuple h3
      have st' := Vals.strs h4 hb.2 w2
      refine SeqAt.in_tupleAt (fun _ => false) p2 (fun y hy => ?_) ?_
      · obtain ⟨z, t, rfl⟩ := st' y (by simpa using hy)
        exact B.eq_str z t (show X.A.units + 1 < cLine by omega)
      · have e1 : (jts.toArray.any fun _ => false) = false := by simp
        rw [e1]
        exact ⟨.bl false, H, I, rfl, k ρ H _ Up.refl S (VR.bl_iff.mpr rfl)⟩
    · exact old e
  · exact old e
end
end Sm

namespace Sm
open PySem PySem.Spec PyProof.Rows L2
/-! ### repr of data with dicts in it -/
mutual
inductive RX (h : Heap) : Value → PyData → Prop
  | none : RX h .none .none
  | bool (b : Bool) : RX h (.bool b) (.bool b)
  | int (i : Int) (t : Tok) : RX h (.int i t) (.int i)
  | str (x : Str) (t : Tok) : RX h (.str x t) (.str x)
  | list {a : Addr} {its : List Value} {ds : List PyData} : h.IsList a its.toArray → RXs h its ds → RX h (.ref a) (.list ds)
  | tuple {a : Addr} {its : List Value} {ds : List PyData} : h.IsTuple a its.toArray → RXs h its ds → RX h (.ref a) (.tuple ds)
  | dict {a : Addr} {o : Obj} {es : Array DictEntry} {n : Nat} {kvs : List (PyData × PyData)} : h.get? a = some o → o.cls = .type "dict" → o.data = .dict es n → (a == sysModules) = false → RXe h es.toList kvs → RX h (.ref a) (.dict kvs)
inductive RXs (h : Heap) : List Value → List PyData → Prop
  | nil : RXs h [] []
  | cons {v : Value} {d : PyData} {vs : List Value} {ds : List PyData} : RX h v d → RXs h vs ds → RXs h (v :: vs) (d :: ds)
inductive RXe (h : Heap) : List DictEntry → List (PyData × PyData) → Prop
  | nil : RXe h [] []
  | cons {e : DictEntry} {k v : PyData} {es : List DictEntry} {kvs : List (PyData × PyData)} : RX h e.key k → RX h e.val v → RXe h es kvs → RXe h (e :: es) ((k, v) :: kvs)
end
section
variable {h : Heap}
mutual
theorem RX.reads : ∀ {v : Value} {d : PyData}, RX h v d → ∃ as, Reads h v d as
  | _, _, .none => ⟨_, .none⟩
  | _, _, .bool b => ⟨_, .bool b⟩
  | _, _, .int i t => ⟨_, .int i t⟩
  | _, _, .str x t => ⟨_, .str x t⟩
  | _, _, .list ⟨o, ho, hc, n, hd⟩ hs => by
    obtain ⟨as, q⟩ := hs.reads
    exact ⟨_, .list ho hc hd q⟩
  | _, _, .tuple ⟨o, ho, hc, n, hd⟩ hs => by
    obtain ⟨as, q⟩ := hs.reads
    exact ⟨_, .tuple ho hc hd q⟩
  | _, _, .dict ho hc hd _ he => by
    obtain ⟨as, bs, q, r⟩ := he.reads
    exact ⟨_, .dict ho hc hd q r⟩
theorem RXs.reads : ∀ {vs : List Value} {ds : List PyData}, RXs h vs ds → ∃ as, ReadsAll h vs ds as
  | _, _, .nil => ⟨_, .nil⟩
  | _, _, .cons a b => by
    obtain ⟨as, q⟩ := a.reads
    obtain ⟨bs, r⟩ := b.reads
    exact ⟨_, .cons q r⟩
theorem RXe.reads : ∀ {es : List DictEntry} {kvs : List (PyData × PyData)}, RXe h es kvs → ∃ as bs, ReadsAll h (es.map (·.key)) (kvs.map (·.1)) as ∧ ReadsAll h (es.map (·.val)) (kvs.map (·.2)) bs
  | _, _, .nil => ⟨_, _, .nil, .nil⟩
  | _, _, .cons a b c => by
    obtain ⟨as, q⟩ := a.reads
    obtain ⟨bs, r⟩ := b.reads
    obtain ⟨cs, ds, s, t⟩ := c.reads
    exact ⟨_, _, .cons q s, .cons r t⟩
end
section
variable {prog : Program} {w : World}
theorem allK_more {as as' : List Addr} {d d' : Nat} (hs : ∀ b, b ∈ as → b ∈ as') (hd : d ≤ d') : ∀ {l : List Value} {ts : List Str}, ReprAllK prog w as h d l ts → ReprAllK prog w as' h d' l ts
  | _, _, .nil => .nil
  | _, _, .cons a b => .cons ((a.more hs).level_le hd) (allK_more hs hd b)
theorem entK_more {as as' : List Addr} {d d' : Nat} (hs : ∀ b, b ∈ as → b ∈ as') (hd : d ≤ d') : ∀ {l : List DictEntry} {ts : List Str}, ReprEntriesK prog w as h d l ts → ReprEntriesK prog w as' h d' l ts
  | _, _, .nil => .nil
  | _, _, .cons a b c => .cons ((a.more hs).level_le hd) ((b.more hs).level_le hd) (entK_more hs hd c)
theorem leafK {v : Value} {d : PyData} (r : Reads h v d []) (hd : d.depth = 0) (hs : d.showable = true) : ReprK prog w [] h 0 v d.shown := fun base hb A g E s Q hg hc hu hk hq => by
  obtain ⟨bs, hbs, R⟩ := ReprK.of_reads (prog := prog) (w := w) r hs (fun _ z => nomatch z) (by omega)
  rw [hd] at hbs R
  refine R base hb A g E s Q hg (fun b m => ?_) hu hk hq
  obtain ⟨d', as, r', l⟩ := hbs b m
  cases r' with
  | list _ _ _ _ => exact absurd l (by simp [PyData.depth])
  | tuple _ _ _ _ => exact absurd l (by simp [PyData.depth])
  | dict _ _ _ _ _ => exact absurd l (by simp [PyData.depth])
theorem noneAt {n : Nat} : ReadAtMost h n [] := fun _ z => nomatch z
theorem allK_len {as : List Addr} {d : Nat} : ∀ {l : List Value} {ts : List Str}, ReprAllK prog w as h d l ts → ts.length = l.length
  | _, _, .nil => rfl
  | _, _, .cons _ b => by rw [List.length_cons, List.length_cons, allK_len b]
mutual
theorem RX.rk : ∀ {v : Value} {d : PyData}, RX h v d → d.showable = true → ∃ bs, ReadAtMost h d.depth bs ∧ ReprK prog w bs h d.depth v d.shown
  | _, _, .none, hs => ⟨[], noneAt, leafK .none rfl hs⟩
  | _, _, .bool b, hs => ⟨[], noneAt, leafK (.bool b) rfl hs⟩
  | _, _, .int i t, hs => ⟨[], noneAt, leafK (.int i t) rfl hs⟩
  | _, _, .str x t, hs => ⟨[], noneAt, leafK (.str x t) rfl hs⟩
  | _, _, .list (a := a) (its := its) (ds := ds) ⟨o, ho, hc, n, hd⟩ hx, hs => by
    obtain ⟨as, q⟩ := hx.reads
    obtain ⟨bs, hbs, R⟩ := hx.rk hs
    have rd : Reads h (.ref a) (.list ds) (a :: as) := .list ho hc hd q
    cases its with
    | nil =>
      cases hx
      exact ⟨[], noneAt, (ReprK.listEmpty ho hc hd).level_le (Nat.zero_le _)⟩
    | cons x l =>
      refine ⟨a :: bs, ReadAtMost.cons rd (Nat.le_succ _) hbs, ?_⟩
      exact ReprK.list ho hc hd (not_mem_of_deeper rd (Nat.lt_succ_self _) hbs) (allK_len R) (fun i y hy => R.item i y (by simpa using hy))
  | _, _, .tuple (a := a) (its := its) (ds := ds) ⟨o, ho, hc, n, hd⟩ hx, hs => by
    obtain ⟨as, q⟩ := hx.reads
    obtain ⟨bs, hbs, R⟩ := hx.rk hs
    have rd : Reads h (.ref a) (.tuple ds) as := .tuple ho hc hd q
    exact ⟨a :: bs, ReadAtMost.cons rd (Nat.le_succ _) hbs, ReprK.tuple ho hc hd (not_mem_of_deeper rd (Nat.lt_succ_self _) hbs) R⟩
  | _, _, .dict (a := a) (kvs := kvs) ho hc hd hm hx, hs => by
    obtain ⟨as, cs, q, q2⟩ := hx.reads
    obtain ⟨bs, hbs, R⟩ := hx.rk hs
    have rd : Reads h (.ref a) (.dict kvs) (a :: as ++ cs) := .dict ho hc hd q q2
    exact ⟨a :: bs, ReadAtMost.cons rd (Nat.le_succ _) hbs, ReprK.dict ho hc hd hm (not_mem_of_deeper rd (Nat.lt_succ_self _) hbs) R⟩
theorem RXs.rk : ∀ {vs : List Value} {ds : List PyData}, RXs h vs ds → PyData.showableAll ds = true → ∃ bs, ReadAtMost h (PyData.depthAll ds) bs ∧ ReprAllK prog w bs h (PyData.depthAll ds) vs (PyData.shownAll ds)
  | _, _, .nil, _ => ⟨[], noneAt, .nil⟩
  | _, _, .cons (d := d) (ds := ds) a b, hs => by
    have hs' : d.showable = true ∧ PyData.showableAll ds = true := by simpa [PyData.showableAll] using hs
    obtain ⟨as, q, r⟩ := a.rk hs'.1
    obtain ⟨bs, q2, r2⟩ := b.rk hs'.2
    have l1 : d.depth ≤ PyData.depthAll (d :: ds) := Nat.le_max_left _ _
    have l2 : PyData.depthAll ds ≤ PyData.depthAll (d :: ds) := Nat.le_max_right _ _
    exact ⟨as ++ bs, (q.mono l1).append (q2.mono l2), .cons ((r.more fun b z => List.mem_append_left _ z).level_le l1) (allK_more (fun b z => List.mem_append_right _ z) l2 r2)⟩
theorem RXe.rk : ∀ {es : List DictEntry} {kvs : List (PyData × PyData)}, RXe h es kvs → PyData.showableKv kvs = true → ∃ bs, ReadAtMost h (PyData.depthKv kvs) bs ∧ ReprEntriesK prog w bs h (PyData.depthKv kvs) es (PyData.shownKv kvs)
  | _, _, .nil, _ => ⟨[], noneAt, .nil⟩
  | _, _, .cons (k := k) (v := v) (kvs := kvs) a b c, hs => by
    have hs' : (k.showable = true ∧ v.showable = true) ∧ PyData.showableKv kvs = true := by simpa [PyData.showableKv] using hs
    obtain ⟨as, q, r⟩ := a.rk hs'.1.1
    obtain ⟨bs, q2, r2⟩ := b.rk hs'.1.2
    obtain ⟨cs, q3, r3⟩ := c.rk hs'.2
    have l3 : PyData.depthKv kvs ≤ PyData.depthKv ((k, v) :: kvs) := Nat.le_max_right _ _
    have l1 : k.depth ≤ PyData.depthKv ((k, v) :: kvs) := Nat.le_trans (Nat.le_max_left _ _) (Nat.le_max_left _ _)
    have l2 : v.depth ≤ PyData.depthKv ((k, v) :: kvs) := Nat.le_trans (Nat.le_max_right _ _) (Nat.le_max_left _ _)
    exact ⟨as ++ (bs ++ cs), (q.mono l1).append ((q2.mono l2).append (q3.mono l3)), .cons ((r.more fun b z => List.mem_append_left _ z).level_le l1) ((r2.more fun b z => List.mem_append_right _ (List.mem_append_left _ z)).level_le l2) (entK_more (fun b z => List.mem_append_right _ (List.mem_append_right _ z)) l3 r3)⟩
end
end
end
section
variable {X : Cx} {C : Wc}
theorem call_repr_RX {prog : Program} {w : World} {h : Heap} {a : Addr} {d : PyData} {A : Around} {E : Value → Shared → Prop} {s : Shared} {Q : Value → Shared → Prop} (r : RX h (.ref a) d) (hs : d.showable = true) (hg : A.guards = some []) (hu : A.units + (d.depth + 1) < cLine)
    (hk : ∀ (b : Addr) (o : Obj), h.get? b = some o → s.heap.get? b = some o)
    (hQ : ∀ (h' : Heap) (u : Tok) (tk : Nat), (∀ (b : Addr) (o : Obj), s.heap.get? b = some o → h'.get? b = some o) → Q (.str d.shown u) { heap := h', gens := s.gens, drawn := s.drawn, toks := tk, os := s.os })
    (hl : d.shown.length ≤ sizeLine) : wpAny (model prog w) A (call (.builtin "repr") [.ref a]) Q E s := by
  have u1 : A.units + 1 < cLine := by
    have : 1 ≤ d.depth + 1 := Nat.le_add_left _ _
    omega
  have g1 : A.in1.guards = some [] := hg
  have u2 : ∀ n, n + 1 = d.depth → A.in1.units + (n + 1) < cLine := fun n e => by show A.units + 1 + (n + 1) < cLine; omega
  have cl : ∀ {bs : List Addr}, ∀ b, b ∈ bs → Clear [] b := fun b _ id v rest kw z => nomatch z
  cases r with
  | list ih hx =>
    rename_i its ds
    obtain ⟨o, ho, hc, n, hd⟩ := ih
    obtain ⟨as, q⟩ := hx.reads
    have rd : Reads h (.ref a) (.list ds) (a :: as) := .list ho hc hd q
    cases its with
    | nil =>
      cases hx
      exact repr_of_reads' rd hs (fun z => nomatch z) hg hu hk hQ hl
    | cons x l =>
      obtain ⟨bs, hbs, R⟩ := hx.rk (prog := prog) (w := w) hs
      exact call_repr_slot u1 ⟨o, hk _ _ ho, hc⟩ F.slot_list_repr.toG (call_list_reprK ho hc hd (not_mem_of_deeper rd (Nat.lt_succ_self _) hbs) (allK_len R) (fun i y hy => R.item i y (by simpa using hy)) g1 cl (u2 _ rfl) hk (fun h' u tk hk' => ⟨_, u, rfl, hQ h' u tk hk'⟩) hl)
  | tuple ih hx =>
    rename_i its ds
    obtain ⟨o, ho, hc, n, hd⟩ := ih
    obtain ⟨as, q⟩ := hx.reads
    have rd : Reads h (.ref a) (.tuple ds) as := .tuple ho hc hd q
    obtain ⟨bs, hbs, R⟩ := hx.rk (prog := prog) (w := w) hs
    exact call_repr_slot u1 ⟨o, hk _ _ ho, hc⟩ F.slot_tuple_repr (call_tuple_reprK ho hc hd (not_mem_of_deeper rd (Nat.lt_succ_self _) hbs) R g1 cl (u2 _ rfl) hk (fun h' u tk hk' => ⟨_, u, rfl, hQ h' u tk hk'⟩) hl)
  | dict ho hc hd hm hx =>
    rename_i o es n kvs
    obtain ⟨as, cs, q, q2⟩ := hx.reads
    have rd : Reads h (.ref a) (.dict kvs) (a :: as ++ cs) := .dict ho hc hd q q2
    obtain ⟨bs, hbs, R⟩ := hx.rk (prog := prog) (w := w) hs
    exact call_repr_slot u1 ⟨o, hk _ _ ho, hc⟩ F.slot_dict_repr (call_dict_reprK ho hc hd hm (not_mem_of_deeper rd (Nat.lt_succ_self _) hbs) R g1 cl (u2 _ rfl) hk (fun h' u tk hk' => ⟨_, u, rfl, hQ h' u tk hk'⟩) hl)
end
/-! ### from the store -/
def keyD : Key → PyData
  | .inl i => .int i
  | .inr x => .str x
def refX : Nat → Store → Nat → Option PyData
  | 0, _, _ => none
  | n + 1, st, k => match getL st k with
    | some xs => (toDsw (refX n st) xs).map .list
    | none => match getK st k with
      | some kvs => (toDsw (refX n st) (kvs.map (·.2))).map fun ds => .dict ((kvs.map fun p => keyD p.1).zip ds)
      | none => none
def toX (st : Store) (x : PV) : Option PyData := toDw (refX 4 st) x
def RXv (h : Heap) : List V → List PyData → Prop
  | [], [] => True
  | v :: vs, d :: ds => (∀ u, L2.RelV v u → RX h u d) ∧ RXv h vs ds
  | _, _ => False
theorem RXv.all {h : Heap} : ∀ {vs : List V} {ds : List PyData} {its : List Value}, RXv h vs ds → Vals vs its → RXs h its ds
  | [], [], _, _, .nil => .nil
  | [], _ :: _, _, r, _ => r.elim
  | _ :: _, [], _, r, _ => r.elim
  | v :: vs, d :: ds, _, r, .cons a b => .cons (r.1 _ a) (RXv.all r.2 b)
theorem keyIs_rx {h : Heap} {k : Key} {u : Value} (e : keyIs k u = true) : RX h u (keyD k) := by
  cases k with
  | inl i =>
    cases u <;> first | (cases e; done) | skip
    rename_i j t
    have : j = i := by simpa [keyIs, Value.isInt] using e
    subst this
    exact .int _ _
  | inr x =>
    cases u <;> first | (cases e; done) | skip
    rename_i y t
    have : y = x := by simpa [keyIs, Value.isStrOf] using e
    subst this
    exact .str _ _
theorem rxe_of {P : Program} {w : World} {h : Heap} : ∀ {ks : List Key} {vs : List V} {ds : List PyData} {es : List DictEntry} {kvs : List (Key × Value)}, ks.length = vs.length → RXv h vs ds → KV (ks.zip vs) kvs → Pairs (mixKind P w) es kvs → RXe h es ((ks.map keyD).zip ds)
  | [], [], [], _, _, _, _, .nil, .nil => .nil
  | [], [], _ :: _, _, _, _, r, _, _ => r.elim
  | [], _ :: _, _, _, _, l, _, _, _ => nomatch l
  | _ :: _, [], _, _, _, l, _, _, _ => nomatch l
  | _ :: _, _ :: _, [], _, _, _, r, _, _ => r.elim
  | k :: ks, v :: vs, d :: ds, _, _, l, r, .cons a b, .cons e1 e2 e3 => by
    refine .cons (keyIs_rx (by have := a.1; dsimp only at this; rw [this]; exact e1)) (r.1 _ (by rw [e2]; exact a.2)) (rxe_of (by simpa using l) r.2 b e3)
section
variable {X : Cx} {pins : List (Addr × Obj)} {σ : L2.St} {H : Hp} {s : Shared} {ρ : List Addr} {st : Store}
def RXf (ρ : List Addr) (h : Heap) (f : Nat → Option PyData) : Prop := ∀ n d, f n = some d → ∃ a, ρ[n]? = some a ∧ RX h (.ref a) d
mutual
theorem rx_of (I : L2.Inv X pins σ H s) {f : Nat → Option PyData} (hf : RXf ρ s.heap f) : ∀ {x : PV} {v : V} {d : PyData}, VR X.K ρ H x v → toDw f x = some d → ∀ u, L2.RelV v u → RX s.heap u d
  | .non, _, _, r, h, u, g => by rw [toDw] at h; cases h; rw [VR.non_iff] at r; subst r; cases g; exact .none
  | .bl b, _, _, r, h, u, g => by rw [toDw] at h; cases h; rw [VR.bl_iff] at r; subst r; cases g; exact .bool b
  | .int i, _, _, r, h, u, g => by rw [toDw] at h; cases h; rw [VR.int_iff] at r; subst r; obtain ⟨t, rfl⟩ := g; exact .int i t
  | .str x, _, _, r, h, u, g => by rw [toDw] at h; cases h; rw [VR.str_iff] at r; subst r; obtain ⟨t, rfl⟩ := g; exact .str x t
  | .tup xs, _, _, r, h, u, g => by
    rw [toDw] at h
    rw [VR.tup_iff] at r
    obtain ⟨a, vs, rfl, h1, h2⟩ := r
    cases e : toDsw f xs with
    | none => rw [e] at h; cases h
    | some ds =>
      rw [e] at h; cases h; cases g
      obtain ⟨its, w1, p1, _⟩ := I.tuple h1
      exact .tuple p1 (RXv.all (rxs_of I hf h2 e) w1)
  | .ref n, _, _, r, h, u, g => by
    rw [toDw] at h
    rw [VR.ref_iff] at r
    obtain ⟨a, rfl, h1⟩ := r
    obtain ⟨b, h2, h3⟩ := hf n _ h
    rw [h1] at h2; cases h2
    cases g
    exact h3
theorem rxs_of (I : L2.Inv X pins σ H s) {f : Nat → Option PyData} (hf : RXf ρ s.heap f) : ∀ {xs : List PV} {vs : List V} {ds : List PyData}, VRs X.K ρ H xs vs → toDsw f xs = some ds → RXv s.heap vs ds
  | [], _, _, r, h => by rw [toDsw] at h; cases h; rw [VRs.nil_iff] at r; subst r; trivial
  | x :: xs, _, _, r, h => by
    rw [toDsw] at h
    rw [VRs.cons_iff] at r
    obtain ⟨v, vs, rfl, h1, h2⟩ := r
    cases e : toDw f x with
    | none => rw [e] at h; cases h
    | some d =>
      rw [e] at h
      cases e2 : toDsw f xs with
      | none => rw [e2] at h; cases h
      | some ds => rw [e2] at h; cases h; exact ⟨rx_of I hf h1 e, rxs_of I hf h2 e2⟩
end
theorem refX_ok (I : L2.Inv X pins σ H s) (S : SR X.K ρ H st) : ∀ n, RXf ρ s.heap (refX n st)
  | 0, _, _, h => by cases h
  | n + 1, k, d, h => by
    unfold refX at h
    cases e : getL st k with
    | some xs =>
      rw [e] at h
      dsimp only at h
      obtain ⟨a, vs, h1, h2, h3⟩ := getL_sql S e
      cases e2 : toDsw (refX n st) xs with
      | none => rw [e2] at h; cases h
      | some ds =>
        rw [e2] at h; cases h
        obtain ⟨its, w1, p1, _⟩ := I.list h2
        exact ⟨a, h1, .list p1.isList (RXv.all (rxs_of I (refX_ok I S n) h3 e2) w1)⟩
    | none =>
      rw [e] at h
      dsimp only at h
      cases ek : getK st k with
      | none => rw [ek] at h; cases h
      | some kvs =>
        rw [ek] at h
        dsimp only at h
        cases e2 : toDsw (refX n st) (kvs.map (·.2)) with
        | none => rw [e2] at h; cases h
        | some ds =>
          rw [e2] at h; cases h
          have ec : st[k]? = some (.dk kvs) := by
            unfold getK at ek
            split at ek
            · rename_i e3; cases ek; exact e3
            · cases ek
          have lk : k < st.length := by rw [List.getElem?_eq_some_iff] at ec; exact ec.1
          obtain ⟨a, ha⟩ : ∃ a, ρ[k]? = some a := ⟨_, List.getElem?_eq_getElem (by rw [S.len]; exact lk)⟩
          obtain ⟨vs, h1, h2⟩ := S.cel k _ a ec ha
          have ok := I.hok a _ h1
          unfold ObjOk at ok
          obtain ⟨_, hm, ws, hw, o, es, ep, ho, hc, hd, _, hp, _⟩ := ok
          have hl : (kvs.map (·.1)).length = vs.length := by rw [h2.length, List.length_map, List.length_map]
          have rv := rxs_of I (refX_ok I S n) h2 e2
          have q := rxe_of hl rv hw hp
          rw [List.map_map] at q
          exact ⟨a, ha, .dict ho hc.1 hd hm q⟩
end
def showsX (d : PyData) : Bool := d.showable && decide (d.depth ≤ 60) && decide (d.shown.length ≤ sizeLine)
def reprX : MC := fun xs st => match xs with
  | [x] => match toX st x with
    | some d => if showsX d then .ok (.str d.shown) st else .no
    | none => .no
  | _ => .no
section
variable {X : Cx} {C : Wc}
theorem c_reprX (hK : X.K = C.K) (hG : X.A.guards = some []) (hu : X.A.units + 65 < cLine) : CallR X (.builtin "repr") (rA C.K reprX) := by
  intro pins s σ H vs us Q I rv ⟨ρ, st, xs, S, hx, r, st', e, k⟩
  unfold reprX at e
  split at e
  · rename_i x
    split at e
    · rename_i d ed
      split at e
      · rename_i hs
        cases e
        obtain ⟨v, rfl, h1⟩ := hx.one
        have S0 : SR X.K ρ H st := hK ▸ S
        unfold showsX at hs
        simp only [Bool.and_eq_true, decide_eq_true_eq] at hs
        obtain ⟨⟨s1, s3⟩, s4⟩ := hs
        cases rv with
        | cons r1 r2 =>
          cases r2
          rename_i u
          have R := rx_of I (refX_ok I S0 4) (hK ▸ h1) ed u r1
          have fin : ∀ (t : Tok) (s' : Shared), L2.Inv X pins σ H s' → EP X pins σ Q (.str d.shown t) s' := fun t s' J => ⟨.str d.shown, H, J, ⟨t, rfl⟩, k ρ H _ Up.refl S (VR.str_iff.mpr rfl)⟩
          cases u with
          | ref a => exact call_repr_RX R s1 hG (by omega) (fun _ _ z => z) (fun h' u tk hk => fin _ _ (I.kept hk)) s4
          | none => cases R; exact PySem.P.repr_of_none (fin _ _ (I.tok _))
          | bool b => cases R; exact PySem.P.repr_of_bool (fin _ _ (I.tok _))
          | int i t =>
            cases R
            exact PySem.P.repr_of_int (by simpa [PyData.showable] using s1) (fin _ _ (I.tok _))
          | str z t => cases R; exact PySem.P.repr_of_str (fin _ _ (I.tok _)) s4
          | _ => cases R
      · cases e
    · cases e
  · cases e
end
end Sm
namespace Sm
open PySem PySem.Spec PyProof.Rows L2
/-! ### methods of texts -/
def lowerF : PV → List PV → Store → Res PV := fun x xs st => match x, xs with
  | .str a, [] => if a.length ≤ 5592405 then .ok (.str (Txt.lower a)) st else .no
  | _, _ => .no
section
variable {X : Cx} {C : Wc}
theorem m_lower : MtR X "str.lower" (rBM C.K lowerF) := by
  intro pins s σ H v vs u us Q I rx rv ⟨ρ, st, x, xs, S, hx, hxs, r, st', e, k⟩
  unfold lowerF at e
  split at e
  · split at e
    · cases e
      rw [VR.str_iff] at hx
      rw [VRs.nil_iff] at hxs
      subst hx hxs
      exact mt_lower pins s σ H _ _ u us Q I rx rv ⟨_, rfl, rfl, by assumption, k ρ H _ Up.refl S (VR.str_iff.mpr rfl)⟩
    · cases e
  · cases e
end
@[simp] theorem lower_ap {a : Str} {st : Store} : lowerF (.str a) [] st = if a.length ≤ 5592405 then .ok (.str (Txt.lower a)) st else .no := rfl
end Sm

namespace Sm
open PySem PySem.Spec PyProof.Rows L2
/-! ### a module's dict, asked with get -/
inductive EntP : List DictEntry → List Str → List Value → Prop
  | nil : EntP [] [] []
  | cons {e : DictEntry} {es : List DictEntry} {k : Str} {ks : List Str} {u : Value} {us : List Value} : (∃ t, e.key = .str k t) → e.val = u → EntP es ks us → EntP (e :: es) (k :: ks) (u :: us)
def lookS : List (Str × PV) → Str → Option PV
  | [], _ => none
  | p :: r, x => if p.1 = x then some p.2 else lookS r x
theorem find_ent {K : PySem.W.Frag} {ρ : List Addr} {H : Hp} {x : Str} : ∀ {ents : List (Str × PV)} {es : List DictEntry} {vs : List V} {us : List Value}, EntP es (ents.map (·.1)) us → VRs K ρ H (ents.map (·.2)) vs → Vals vs us →
    (∃ pv v u, lookS ents x = some pv ∧ (es.find? fun e => Value.isStrOf x e.key).map (·.val) = some u ∧ VR K ρ H pv v ∧ L2.RelV v u) ∨ (lookS ents x = none ∧ (es.find? fun e => Value.isStrOf x e.key).map (·.val) = none)
  | [], _, _, _, .nil, _, _ => .inr ⟨rfl, rfl⟩
  | p :: r, _, _, _, .cons (e := e) ⟨t, hk⟩ hv he, hr, hw => by
    rw [List.map_cons, VRs.cons_iff] at hr
    obtain ⟨v, vs, rfl, h1, h2⟩ := hr
    cases hw with
    | cons w1 w2 =>
      by_cases c : p.1 = x
      · refine .inl ⟨p.2, v, _, by unfold lookS; rw [if_pos c], ?_, h1, w1⟩
        have e1 : Value.isStrOf x e.key = true := by rw [hk]; simp [Value.isStrOf, c]
        rw [List.find?_cons, e1]
        simp [hv]
      · have e1 : Value.isStrOf x e.key = false := by
          rw [hk]
          simp only [Value.isStrOf]
          exact beq_eq_false_iff_ne.mpr c
        have ih := find_ent (x := x) he h2 w2
        have e2 : lookS (p :: r) x = lookS r x := by
          show (if p.1 = x then _ else _) = _
          rw [if_neg c]
        rw [e2, List.find?_cons, e1]
        exact ih
def KD (K : PySem.W.Frag) (w : World) (mg : Str → Option Value) (D : Str) (ks : List Str) (vs : List V) : Prop := ∃ a es n us, mg D = some (.ref a) ∧ List.lookup a K = some { cls := .type "dict", data := .dict es n } ∧ PySem.W.KeysLit w.params es.toList ∧ (a == sysModules) = false ∧ EntP es.toList ks us ∧ Vals vs us
section
variable {X : Cx} {C : Wc}
theorem pe_kget {D : Str} {a : Addr} {es : Array DictEntry} {n : Nat} {e f : Expr} {p apos cpos : Pos} {ty tx : TE} (hm : X.mg D = some (.ref a)) (hl : List.lookup a X.K = some { cls := .type "dict", data := .dict es n }) (hk : PySem.W.KeysLit X.w.params es.toList) (low : (a == sysModules) = false)
    (he : PE X e ty) (hf : PE X f tx) (m : L2.M2 X (.Name D p) "get" apos e f cpos) (hg : Gl X D := by rfl) (hdb : (D == ("__debug__" : Str)) = false := by decide) :
    PE X (.Call (.Attribute (.Name D p) "get" apos) [e, f] [] cpos) (fun σ H Q => ty σ H fun y H2 => tx σ H2 fun z H3 => ∃ x, y = .str x ∧ ((∃ u v, findBy Value.isStrOf es x = some u ∧ L2.RelV v u ∧ Q v H3) ∨ (findBy Value.isStrOf es x = none ∧ Q z H3))) := by
  constructor
  intro pins s σ H Q I h
  refine wpAny_Call_method m.base m.few m.line F.plainAttrs_dict F.slot_dict_get F.type_dict_get ?_
  refine thn ((pe_glob (v := .ref a) hg hm rfl hdb).run pins s σ H (fun x H1 => x = .ref a ∧ H1 = H) I ⟨rfl, rfl⟩) ?_
  rintro u s1 ⟨x, H1, I1, rx, rfl, rfl⟩
  cases rx
  have mp := PySem.W.mapOf_K (prog := X.prog) I1.kIn hl hk
  obtain ⟨o, es', ep, ho, hx, hd, _⟩ := mp
  refine ⟨⟨o, ho, hx.1⟩, fun b e => by cases e; exact ⟨o, ho, hx.2.1⟩, ?_⟩
  rw [m.trees]
  refine wpAny_dict_get2 (K := Str) (knd := PySem.strKind X.prog X.w) low ?_
  refine thn (he.run pins s1 σ H1 _ I1 h) ?_
  rintro yv s2 ⟨y, H2, I2, ry, q2⟩
  refine thn (hf.run pins s2 σ H2 _ I2 q2) ?_
  rintro zv s3 ⟨z, H3, I3, rz, x, rfl, q⟩
  obtain ⟨t, rfl⟩ := ry
  refine ⟨x, _, strKind_is X.prog X.w x t, PySem.W.mapOf_K I3.kIn hl hk, ?_⟩
  rcases q with ⟨u, v, e1, rv, q⟩ | ⟨e1, q⟩
  · simp only [e1, Option.getD_some]
    exact ⟨v, H3, I3.tok _, rv, q⟩
  · simp only [e1, Option.getD_none]
    exact ⟨z, H3, I3.tok _, rz, q⟩
def mKget (ents : List (Str × PV)) (k z : ME) : ME := fun σ st => (k σ st).bind fun x s1 => (z σ s1).bind fun y s2 => match x with
  | .str x => .ok ((lookS ents x).getD y) s2
  | _ => .no
theorem e_kget {D : Str} {ents : List (Str × PV)} {vs : List V} {e f : Expr} {p apos cpos : Pos} {mk mz : ME} (hK : X.K = C.K) (hd : KD X.K X.w X.mg D (ents.map (·.1)) vs) (r : ∀ ρ H, VRs C.K ρ H (ents.map (·.2)) vs) (he : PE X e (tE C mk)) (hf : PE X f (tE C mz)) (m : L2.M2 X (.Name D p) "get" apos e f cpos) (hg : Gl X D := by rfl) (hdb : (D == ("__debug__" : Str)) = false := by decide) :
    PE X (.Call (.Attribute (.Name D p) "get" apos) [e, f] [] cpos) (tE C (mKget ents mk mz)) := by
  obtain ⟨a, es, n, us, hm, hl, hk, low, en, hw⟩ := hd
  refine (pe_kget hm hl hk low he hf m hg hdb).weak fun σ H Q ⟨ρ, st, σh, S, R, p⟩ => ⟨ρ, st, σh, S, R, (Post.bind p).imp fun ρ1 H1 x s1 _ u1 S1 ⟨s1', S1', p1⟩ v hv => ⟨ρ1, s1', σh, S1', R.up u1, (Post.bind p1).imp fun ρ2 H2 y s2 _ u2 S2 ⟨s2', S2', p2⟩ w hw2 => ?_⟩⟩
  cases x with
  | str x =>
    rw [VR.str_iff] at hv
    subst hv
    have fe : findBy Value.isStrOf es x = (es.toList.find? fun e => Value.isStrOf x e.key).map (·.val) := by
      unfold findBy
      rw [← Array.find?_toList]
    refine ⟨x, rfl, ?_⟩
    rcases find_ent (K := C.K) (ρ := ρ2) (H := H2) (x := x) en (r ρ2 H2) hw with ⟨pv, v', u, l1, l2, l3, l4⟩ | ⟨l1, l2⟩
    · refine .inl ⟨u, v', by rw [fe, l2], l4, ?_⟩
      dsimp only at p2
      rw [l1] at p2
      exact p2 ρ2 H2 Up.refl S2' _ l3
    · refine .inr ⟨by rw [fe, l2], ?_⟩
      dsimp only at p2
      rw [l1] at p2
      exact p2 ρ2 H2 Up.refl S2' _ hw2
  | _ => exact p2.elim
def KDv (K : PySem.W.Frag) (w : World) (mg : Str → Option Value) (D : Str) (ents : List (Str × PV)) : Prop := ∃ vs, KD K w mg D (ents.map (·.1)) vs ∧ ∀ ρ H, VRs K ρ H (ents.map (·.2)) vs
theorem e_kgetv {D : Str} {ents : List (Str × PV)} {e f : Expr} {p apos cpos : Pos} {mk mz : ME} (hK : X.K = C.K) (hd : KDv X.K X.w X.mg D ents) (he : PE X e (tE C mk)) (hf : PE X f (tE C mz)) (m : L2.M2 X (.Name D p) "get" apos e f cpos) (hg : Gl X D := by rfl) (hdb : (D == ("__debug__" : Str)) = false := by decide) :
    PE X (.Call (.Attribute (.Name D p) "get" apos) [e, f] [] cpos) (tE C (mKget ents mk mz)) := by
  obtain ⟨vs, h1, h2⟩ := hd
  exact e_kget hK h1 (hK ▸ h2) he hf m hg hdb
end
@[simp] theorem mKget_ap {ents : List (Str × PV)} {k z : ME} {σ : Slots} {st : Store} : mKget ents k z σ st = (k σ st).bind fun x s1 => (z σ s1).bind fun y s2 => match x with
  | .str x => .ok ((lookS ents x).getD y) s2
  | _ => .no := rfl
theorem vr_ktup {K : PySem.W.Frag} {ρ : List Addr} {H : Hp} {t : Addr} {d : Option Addr} {us : Array Value} {n : Nat} {sl : Array (Option Value)} {xs : List PV} {vs : List V} (hl : K.lookup t = some ⟨.type "tuple", d, .seq us n, sl⟩) (hz : us.size ≤ sizeLine) (hv : Vals vs us.toList) (r : VRs K ρ H xs vs) : VR K ρ H (.tup xs) (.ref t) :=
  VR.tup_iff.mpr ⟨t, vs, rfl, .inr ⟨_, us, n, hl, rfl, rfl, hz, hv⟩, r⟩
end Sm

namespace Lw
open PySem Sm
abbrev N_f_law_stream : List Str := ["script", "start", "seed", "number", "digits"]
def L1_f_law_stream : MS := (mAsg (mOp addF (mOp modF (mOp powF (mOp addF (mOp mulF (mVar 2) (mC (.int 40127))) (mVar 3)) (mC (.int 3))) (mC (.int 2147483629))) (mC (.int 1))) (gNm 2))
def m_f_law_stream : MS := (mSeq (mAsg (mOp addF (mC (.int 11)) (mVar 1)) (gNm 2))
    (mSeq (mFor (mItL (mVar 0)) (gNm 3) L1_f_law_stream)
    (mSeq (mAsg (mC (.int 0)) (gNm 4))
    (mSeq (mIfS (mAndT (mTest (mOp ltF (mVar 1) (mCall lenF (mCons (mVar 0) mNil)))) (mTest (mOp geF (mOp ixF (mVar 0) (mVar 1)) (mOp powF (mC (.int 10)) (mC (.int 18)))))) (mAsg (mOp subF (mOp ixF (mVar 0) (mVar 1)) (mOp powF (mC (.int 10)) (mC (.int 18)))) (gNm 4)) mNext)
    (mRet (mLst (mCons (mVar 4) (mCons (mVar 2) mNil))))))))
def g_f_law_stream : MC := gOf N_f_law_stream m_f_law_stream
abbrev N_f_law_draw : List Str := ["stream", "size", "found"]
def m_f_law_draw : MS := (mSeq (mIfS (mTest (mOp geF (mOp ixF (mVar 0) (mC (.int 0))) (mVar 1))) (mSeq (mAsg (mOp modF (mOp ixF (mVar 0) (mC (.int 0))) (mVar 1)) (gNm 2))
    (mSeq (mAsg (mOp fdivF (mOp ixF (mVar 0) (mC (.int 0))) (mVar 1)) (gIx (mVar 0) (mC (.int 0))))
    (mRet (mVar 2)))) mNext)
    (mSeq (mAsg (mOp modF (mOp addF (mOp mulF (mOp ixF (mVar 0) (mC (.int 1))) (mC (.int 48271))) (mC (.int 12345))) (mC (.int 2147483647))) (gIx (mVar 0) (mC (.int 1))))
    (mRet (mOp modF (mOp fdivF (mOp modF (mOp powF (mOp modF (mOp powF (mOp ixF (mVar 0) (mC (.int 1))) (mC (.int 3))) (mC (.int 2147483629))) (mC (.int 5))) (mC (.int 1000000007))) (mC (.int 7))) (mVar 1)))))
def g_f_law_draw : MC := gOf N_f_law_draw m_f_law_draw
abbrev N_f_law_choose : List Str := ["stream", "items"]
def m_f_law_choose : MS := (mRet (mOp ixF (mVar 1) (mFn 2 g_f_law_draw (mCons (mVar 0) (mCons (mCall lenF (mCons (mVar 1) mNil)) mNil)))))
def g_f_law_choose : MC := gOf N_f_law_choose m_f_law_choose
end Lw

namespace Lw
open PySem Sm
/-- a source of draws at n -/
def Stm (st : Store) (n : Nat) : Prop := ∃ d s : Int, st[n]? = some (.lst [.int d, .int s]) ∧ 0 ≤ d ∧ 0 ≤ s ∧ s < 2147483648
/-- all but the source is as it was -/
structure Gx (n : Nat) (st st' : Store) : Prop where
  le : st.length ≤ st'.length
  old : ∀ i, i < st.length → i ≠ n → st'[i]? = st[i]?
  stm : Stm st' n
/-- all is as it was -/
structure Ex (st st' : Store) : Prop where
  le : st.length ≤ st'.length
  old : ∀ i, i < st.length → st'[i]? = st[i]?
theorem Ex.refl {st : Store} : Ex st st := ⟨Nat.le_refl _, fun _ _ => rfl⟩
theorem Ex.trans {a b c : Store} (h : Ex a b) (g : Ex b c) : Ex a c := ⟨Nat.le_trans h.le g.le, fun i hi => (g.old i (Nat.lt_of_lt_of_le hi h.le)).trans (h.old i hi)⟩
theorem Ex.push {st : Store} {c : Cell} : Ex st (st ++ [c]) := ⟨by simp, fun i hi => List.getElem?_append_left hi⟩
theorem lt_of_some {α : Type} {l : List α} {n : Nat} {x : α} (h : l[n]? = some x) : n < l.length := (List.getElem?_eq_some_iff.mp h).1
theorem Stm.lt {st : Store} {n : Nat} (h : Stm st n) : n < st.length := by obtain ⟨d, s, h, _⟩ := h; exact lt_of_some h
theorem Ex.stm {a b : Store} {n : Nat} (h : Ex a b) (s : Stm a n) : Stm b n := by
  have hl := s.lt
  obtain ⟨d, z, e, r⟩ := s
  exact ⟨d, z, by rw [h.old n hl]; exact e, r⟩
theorem Gx.refl {st : Store} {n : Nat} (s : Stm st n) : Gx n st st := ⟨Nat.le_refl _, fun _ _ _ => rfl, s⟩
theorem Gx.trans {a b c : Store} {n : Nat} (h : Gx n a b) (g : Gx n b c) : Gx n a c := ⟨Nat.le_trans h.le g.le, fun i hi hn => (g.old i (Nat.lt_of_lt_of_le hi h.le) hn).trans (h.old i hi hn), g.stm⟩
theorem Ex.gx {a b : Store} {n : Nat} (h : Ex a b) (s : Stm a n) : Gx n a b := ⟨h.le, fun i hi _ => h.old i hi, h.stm s⟩
theorem Gx.get {a b : Store} {n i : Nat} {c : Cell} (h : Gx n a b) (hi : i ≠ n) (e : a[i]? = some c) : b[i]? = some c := by rw [h.old i (lt_of_some e) hi]; exact e
theorem Ex.get {a b : Store} {i : Nat} {c : Cell} (h : Ex a b) (e : a[i]? = some c) : b[i]? = some c := by rw [h.old i (lt_of_some e)]; exact e
theorem log2_lt {i : Int} {n : Nat} (h : i.natAbs < 2 ^ n) (hn : 0 < n) : i.natAbs.log2 < n := by
  by_cases h0 : i.natAbs = 0
  · rw [h0]; simpa using hn
  · exact (Nat.log2_lt h0).mpr h
theorem pow_of {i : Int} {n : Nat} {k : Nat} (h : i.natAbs < 2 ^ n) (hn : 0 < n) (hk : n * k ≤ 134217728) : powOk i (k : Int) = true := by
  have := log2_lt h hn
  unfold powOk
  rw [Bool.and_eq_true, decide_eq_true_eq, Int.toNat_natCast]
  refine ⟨Int.natCast_nonneg k, ?_⟩
  have h2 : (i.natAbs.log2 + 1) * k ≤ n * k := Nat.mul_le_mul_right k (by omega)
  exact Nat.ble_eq_true_of_le (Nat.le_trans h2 hk)
theorem fmod_pos {i j : Int} (h : 0 < j) : i.fmod j = i % j := Int.fmod_eq_emod_of_nonneg i (by omega)
theorem fdiv_pos {i j : Int} (h : 0 < j) : i.fdiv j = i / j := Int.fdiv_eq_ediv_of_nonneg i (by omega)
theorem draw_a {st : Store} {n : Nat} {z d s : Int} (e : st[n]? = some (.lst [.int d, .int s])) (h0 : 0 < z) (h1 : z < 1099511627776) (hd : z ≤ d) : g_f_law_draw [.ref n, .int z] st = .ok (.int (d % z)) (st.set n (.lst [.int (d / z), .int s])) := by
  have eL : getL st n = some [.int d, .int s] := getL_lst e
  have eM : getM st n = some [.int d, .int s] := getM_lst e
  have zne : z ≠ 0 := by omega
  have hc : L2.CDivW d z := L2.wide_div (b := 40) h0 (by omega) (by decide) (by decide)
  simp [g_f_law_draw, gOf, m_f_law_draw, startS, eL, eM, hd, zne, hc, fmod_pos h0, fdiv_pos h0]
theorem draw_b {st : Store} {n : Nat} {z d s x y u v : Int} (e : st[n]? = some (.lst [.int d, .int s])) (h0 : 0 < z) (hd : ¬ z ≤ d) (c1 : L2.CMul s 48271) (hx : (s * 48271 + 12345) % 2147483647 = x) (c2 : powOk x 3 = true) (hy : x ^ 3 % 2147483629 = y)
    (c3 : powOk y 5 = true) (hu : y ^ 5 % 1000000007 = u) (hv : u / 7 = v) : g_f_law_draw [.ref n, .int z] st = .ok (.int (v % z)) (st.set n (.lst [.int d, .int x])) := by
  have hl := lt_of_some e
  have eL : getL st n = some [.int d, .int s] := getL_lst e
  have eM : getM st n = some [.int d, .int s] := getM_lst e
  have e2 : getL (st.set n (.lst [.int d, .int x])) n = some [.int d, .int x] := getL_lst (List.getElem?_set_self hl)
  have zne : z ≠ 0 := by omega
  have c4 : L2.CDivN u 7 := ⟨by decide, by decide⟩
  have f1 : Int.fmod (s * 48271 + 12345) 2147483647 = x := by rw [fmod_pos (by decide)]; exact hx
  have f2 : Int.fmod (x ^ 3) 2147483629 = y := by rw [fmod_pos (by decide)]; exact hy
  have f3 : Int.fmod (y ^ 5) 1000000007 = u := by rw [fmod_pos (by decide)]; exact hu
  have f4 : Int.fdiv u 7 = v := by rw [fdiv_pos (by decide)]; exact hv
  simp [g_f_law_draw, gOf, m_f_law_draw, startS, eL, eM, hd, zne, c1, f1, e2, c2, f2, c3, f3, c4, f4, fmod_pos h0]
theorem drawW {st : Store} {n : Nat} {z : Int} (h : Stm st n) (h0 : 0 < z) (h1 : z < 1099511627776) : ∃ v st', g_f_law_draw [.ref n, .int z] st = .ok (.int v) st' ∧ 0 ≤ v ∧ v < z ∧ Gx n st st' ∧ st'.length = st.length := by
  have hl := h.lt
  obtain ⟨d, s, e, d0, s0, s1⟩ := h
  have zne : z ≠ 0 := by omega
  by_cases hd : z ≤ d
  · exact ⟨d % z, _, draw_a e h0 h1 hd, Int.emod_nonneg _ zne, Int.emod_lt_of_pos _ h0, ⟨by simp, fun i hi hn => by rw [List.getElem?_set_ne (Ne.symm hn)], ⟨d / z, s, by rw [List.getElem?_set_self hl], Int.ediv_nonneg d0 (by omega), s0, s1⟩⟩, by simp⟩
  · have q : 0 ≤ (s * 48271 + 12345) % 2147483647 ∧ (s * 48271 + 12345) % 2147483647 < 2147483648 := by omega
    generalize hx : (s * 48271 + 12345) % 2147483647 = x at q
    have q2 : 0 ≤ x ^ 3 % 2147483629 ∧ x ^ 3 % 2147483629 < 2147483648 := by omega
    generalize hy : x ^ 3 % 2147483629 = y at q2
    have c1 : L2.CMul s 48271 := .inl ⟨by omega, by omega⟩
    have c2 : powOk x 3 = true := pow_of (n := 31) (k := 3) (by omega) (by decide) (by decide)
    have c3 : powOk y 5 = true := pow_of (n := 31) (k := 5) (by omega) (by decide) (by decide)
    exact ⟨_, _, draw_b e h0 hd c1 hx c2 hy c3 rfl rfl, Int.emod_nonneg _ zne, Int.emod_lt_of_pos _ h0, ⟨by simp, fun i hi hn => by rw [List.getElem?_set_ne (Ne.symm hn)], ⟨d, x, by rw [List.getElem?_set_self hl], d0, q.1, by omega⟩⟩, by simp⟩
theorem draw {st : Store} {n : Nat} {z : Int} (h : Stm st n) (h0 : 0 < z) (h1 : z < 1073741824) : ∃ v st', g_f_law_draw [.ref n, .int z] st = .ok (.int v) st' ∧ 0 ≤ v ∧ v < z ∧ Gx n st st' ∧ st'.length = st.length := drawW h h0 (by omega)
/-- one of a list -/
theorem choose {st : Store} {n m : Nat} {xs : List PV} (h : Stm st n) (hm : getL st m = some xs) (hn : m ≠ n) (h0 : xs ≠ []) (h1 : xs.length < 1000000) : ∃ x st', g_f_law_choose [.ref n, .ref m] st = .ok x st' ∧ x ∈ xs ∧ Gx n st st' ∧ st'.length = st.length := by
  have hp : 0 < xs.length := List.length_pos_iff.mpr h0
  obtain ⟨v, st', e, v0, v1, G, le⟩ := draw h (z := (xs.length : Nat)) (by omega) (by omega)
  obtain ⟨k, rfl⟩ : ∃ k : Nat, v = (k : Int) := ⟨v.toNat, by omega⟩
  have hk : k < xs.length := by omega
  refine ⟨xs[k], st', ?_, List.getElem_mem hk, G, le⟩
  have hm' : getL st' m = some xs := by
    unfold getL at hm ⊢
    cases e : st[m]? with
    | none => rw [e] at hm; cases hm
    | some c => rw [e] at hm; rw [G.get hn e]; exact hm
  simp [g_f_law_choose, gOf, m_f_law_choose, startS, mFn_ap, hm, e, hm', atI_cast, hk]
end Lw

namespace Lw
open PySem Sm
/-- a script's ints -/
def Bits (ns : List Int) : Prop := ∀ z ∈ ns, z.natAbs < 2 ^ 1048576
theorem bits_of {ns : List Int} (h : ∀ z ∈ ns, Builtin.Int.intBits z ≤ 1048576) : Bits ns := fun z hz => by
  have q := h z hz
  unfold Builtin.Int.intBits at q
  split at q
  · rename_i e
    have : z = 0 := by simpa using e
    subst this
    exact Nat.two_pow_pos _
  · rename_i e
    have h0 : z.natAbs ≠ 0 := fun e' => e (by simp; omega)
    exact (Nat.log2_lt h0).mp (by omega)
theorem seed_small {a z : Int} {n : Nat} (ha : a.natAbs < 2 ^ 47) (hz : z.natAbs < 2 ^ n) (hn : 47 ≤ n) : (a + z).natAbs < 2 ^ (n + 1) := by
  have h1 : 2 ^ 47 ≤ 2 ^ n := Nat.pow_le_pow_right (by decide) hn
  have h2 : (a + z).natAbs ≤ a.natAbs + z.natAbs := Int.natAbs_add_le a z
  rw [Nat.pow_succ]
  omega
theorem stream_step {m : Nat} {i s z x y : Int} {o : Option PV} {st : Store} (c1 : L2.CMul s 40127) (c2 : powOk (s * 40127 + z) 3 = true) (h : ((s * 40127 + z) ^ 3) % 2147483629 + 1 = y) :
    L1_f_law_stream [some (.ref m), some (.int i), some (.int s), some (.int z), none] st
      = .nx [some (.ref m), some (.int i), some (.int y), some (.int z), none] st := by
  have f1 : Int.fmod ((s * 40127 + z) ^ 3) 2147483629 + 1 = y := by rw [fmod_pos (by decide)]; exact h
  simp [L1_f_law_stream, c1, c2, f1]
theorem stream_loop {m : Nat} {i : Int} {all : List PV} {st : Store} (ha : getL st m = some all) : ∀ (r : List Int) (s : Int) (o : Option PV), 0 ≤ s → s < 2147483648 → Bits r →
    ∃ s' o', loopF (gNm 3) L1_f_law_stream (some m) all (r.map .int) [some (.ref m), some (.int i), some (.int s), o, none] st
      = .nx [some (.ref m), some (.int i), some (.int s'), o', none] st ∧ 0 ≤ s' ∧ s' < 2147483648
  | [], s, o, h0, h1, _ => ⟨s, o, by rw [List.map_nil, loopF, if_pos (stays_some ha)], h0, h1⟩
  | z :: r, s, o, h0, h1, hb => by
    have c1 : L2.CMul s 40127 := .inl ⟨by omega, by omega⟩
    have hs := seed_small (a := s * 40127) (by omega) (hb z (by simp)) (by decide)
    have c2 : powOk (s * 40127 + z) 3 = true := pow_of (k := 3) hs (by decide) (by decide)
    have q : 0 ≤ ((s * 40127 + z) ^ 3) % 2147483629 + 1 ∧ ((s * 40127 + z) ^ 3) % 2147483629 + 1 < 2147483648 := by omega
    have e := stream_step (m := m) (i := i) (x := 0) (o := o) (st := st) c1 c2 rfl
    obtain ⟨s', o', e2, r2⟩ := stream_loop ha r _ (some (.int z)) q.1 q.2 (fun x hx => hb x (by simp [hx]))
    refine ⟨s', o', ?_, r2⟩
    rw [List.map_cons, loopF, if_pos (stays_some ha)]
    simp only [gNm_ap, List.set_cons_succ, List.set_cons_zero]
    rw [e]
    exact e2
theorem ten18 : (10 : Int) ^ (18 : Int).toNat = 1000000000000000000 := by decide
theorem stream {m i : Nat} {ns : List Int} {st : Store} (hm : getL st m = some (ns.map .int)) (hi : i < 2000) (hb : Bits ns) : ∃ st', g_f_law_stream [.ref m, .int (i : Int)] st = .ok (.ref st.length) st' ∧ Ex st st' ∧ Stm st' st.length ∧ st'.length = st.length + 1 := by
  obtain ⟨s, o, e, s0, s1⟩ := stream_loop (i := (i : Int)) hm ns (11 + (i : Int)) none (by omega) (by omega) hb
  have p18 : powOk 10 18 = true := by decide +kernel
  have fin : ∀ d : Int, 0 ≤ d → Ex st (st ++ [.lst [.int d, .int s]]) ∧ Stm (st ++ [.lst [.int d, .int s]]) st.length ∧ (st ++ [Cell.lst [.int d, .int s]]).length = st.length + 1 := fun d hd => ⟨Ex.push, ⟨d, s, by simp, hd, s0, s1⟩, by simp⟩
  by_cases h1 : i < ns.length
  · by_cases h2 : 1000000000000000000 ≤ ns[i]
    · refine ⟨st ++ [.lst [.int (ns[i] - 1000000000000000000), .int s]], ?_, fin _ (by omega)⟩
      simp [g_f_law_stream, gOf, m_f_law_stream, startS, hm, e, h1, atI_cast, p18, ten18, h2, size_small]
    · refine ⟨st ++ [.lst [.int 0, .int s]], ?_, fin _ (by omega)⟩
      simp [g_f_law_stream, gOf, m_f_law_stream, startS, hm, e, h1, atI_cast, p18, ten18, h2, size_small]
  · refine ⟨st ++ [.lst [.int 0, .int s]], ?_, fin _ (by omega)⟩
    simp [g_f_law_stream, gOf, m_f_law_stream, startS, hm, e, h1, size_small]
end Lw

namespace Sm
open PySem
/-! ### plain data: None, ints, texts, tuples of such -/
mutual
def dOf : PV → PyData
  | .non => .none
  | .bl b => .bool b
  | .int i => .int i
  | .str x => .str x
  | .tup xs => .tuple (dOfs xs)
  | .ref _ => .none
def dOfs : List PV → List PyData
  | [] => []
  | x :: xs => dOf x :: dOfs xs
end
mutual
/-- no object but tuples, no truth value, texts of real signs -/
def plainP : PV → Bool
  | .non => true
  | .bl _ => false
  | .int _ => true
  | .str x => PyData.strOk x
  | .tup xs => plainPs xs
  | .ref _ => false
def plainPs : List PV → Bool
  | [] => true
  | x :: xs => plainP x && plainPs xs
end
mutual
theorem toDw_plain {f : Nat → Option PyData} : ∀ {x : PV}, plainP x = true → toDw f x = some (dOf x)
  | .non, _ => rfl
  | .bl _, h => by simp [plainP] at h
  | .int _, _ => rfl
  | .str _, _ => rfl
  | .tup xs, h => by
    rw [plainP] at h
    rw [toDw, toDsw_plain h, dOf]
    rfl
  | .ref _, h => by simp [plainP] at h
theorem toDsw_plain {f : Nat → Option PyData} : ∀ {xs : List PV}, plainPs xs = true → toDsw f xs = some (dOfs xs)
  | [], _ => rfl
  | x :: xs, h => by
    rw [plainPs, Bool.and_eq_true] at h
    rw [toDsw, toDw_plain h.1, toDsw_plain h.2, dOfs]
    rfl
end
mutual
theorem lay_plain : ∀ {x : PV}, plainP x = true → (dOf x).canLay0 = true
  | .non, _ => by simp [dOf, PyData.canLay0]
  | .bl _, h => by simp [plainP] at h
  | .int _, _ => by simp [dOf, PyData.canLay0]
  | .str _, h => by rw [plainP] at h; rw [dOf, PyData.canLay0, h]
  | .tup xs, h => by
    rw [plainP] at h
    rw [dOf, PyData.canLay0]
    exact lays_plain h
  | .ref _, h => by simp [plainP] at h
theorem lays_plain : ∀ {xs : List PV}, plainPs xs = true → PyData.canLayAll0 (dOfs xs) = true
  | [], _ => by simp [dOfs, PyData.canLayAll0]
  | x :: xs, h => by
    rw [plainPs, Bool.and_eq_true] at h
    rw [dOfs, PyData.canLayAll0, lay_plain h.1, lays_plain h.2]
    rfl
end
mutual
theorem eqv_same : ∀ {x y : PV}, plainP x = true → plainP y = true → PyData.eqv (dOf x) (dOf y) = same x y
  | .non, y, _, g => by cases y <;> simp [plainP, dOf, PyData.eqv, same] at g ⊢
  | .bl _, _, h, _ => by simp [plainP] at h
  | .int i, y, _, g => by
    cases y <;> simp [plainP, dOf, PyData.eqv, same] at g ⊢
    rename_i j
    by_cases e : i = j <;> simp [e]
  | .str i, y, _, g => by
    cases y <;> simp [plainP, dOf, PyData.eqv, same] at g ⊢
    rename_i j
    by_cases e : i = j <;> simp [e]
  | .tup xs, y, h, g => by
    cases y with
    | tup ys =>
      rw [plainP] at h g
      rw [dOf, dOf, PyData.eqv, same]
      exact eqv_sames h g
    | non => simp [dOf, PyData.eqv, same]
    | bl _ => simp [plainP] at g
    | int _ => simp [dOf, PyData.eqv, same]
    | str _ => simp [dOf, PyData.eqv, same]
    | ref _ => simp [plainP] at g
  | .ref _, _, h, _ => by simp [plainP] at h
theorem eqv_sames : ∀ {xs ys : List PV}, plainPs xs = true → plainPs ys = true → PyData.eqvAll (dOfs xs) (dOfs ys) = sames xs ys
  | [], ys, _, _ => by cases ys <;> simp [dOfs, PyData.eqvAll, sames]
  | x :: xs, ys, h, g => by
    cases ys with
    | nil => simp [dOfs, PyData.eqvAll, sames]
    | cons y ys =>
      rw [plainPs, Bool.and_eq_true] at h g
      rw [dOfs, dOfs, PyData.eqvAll, sames, eqv_same h.1 g.1, eqv_sames h.2 g.2]
end
/-- .. of a bounded depth -/
def okP (x : PV) : Bool := plainP x && decide ((dOf x).depth ≤ 60)
def okPs (xs : List PV) : Bool := plainPs xs && decide (PyData.depthAll (dOfs xs) ≤ 60)
theorem okP_shaped {x : PV} (h : okP x = true) : SeqAt.shaped (dOf x) = true := by
  unfold okP at h
  rw [Bool.and_eq_true, decide_eq_true_eq] at h
  unfold SeqAt.shaped
  rw [lay_plain h.1, Bool.true_and, decide_eq_true_eq]
  omega
theorem okPs_shaped {xs : List PV} (h : okPs xs = true) : SeqAt.shaped (.list (dOfs xs)) = true := by
  unfold okPs at h
  rw [Bool.and_eq_true, decide_eq_true_eq] at h
  unfold SeqAt.shaped
  rw [show PyData.canLay0 (.list (dOfs xs)) = true by rw [PyData.canLay0]; exact lays_plain h.1, Bool.true_and, decide_eq_true_eq, PyData.depth]
  omega
theorem okPs_nil : okPs [] = true := by decide
theorem okPs_cons {x : PV} {xs : List PV} (h : okP x = true) (g : okPs xs = true) : okPs (x :: xs) = true := by
  unfold okP at h
  unfold okPs at g ⊢
  rw [Bool.and_eq_true, decide_eq_true_eq] at h g ⊢
  refine ⟨by rw [plainPs, h.1, g.1]; rfl, ?_⟩
  rw [dOfs, PyData.depthAll]
  omega
theorem okPs_all : ∀ {xs : List PV}, (∀ x ∈ xs, okP x = true) → okPs xs = true
  | [], _ => okPs_nil
  | x :: xs, h => okPs_cons (h x (by simp)) (okPs_all fun y hy => h y (by simp [hy]))
theorem okPs_plain {xs : List PV} (h : okPs xs = true) : plainPs xs = true := by
  unfold okPs at h
  rw [Bool.and_eq_true] at h
  exact h.1
theorem okP_plain {x : PV} (h : okP x = true) : plainP x = true := by
  unfold okP at h
  rw [Bool.and_eq_true] at h
  exact h.1
section
variable {st : Store} {neg : Bool} {n m : Nat}
theorem eq_plain {x y : PV} (h : okP x = true) (g : okP y = true) : eqF neg x y st = .ok (.bl (if neg then !same x y else same x y)) st := by
  have key : eqDF neg x y st = .ok (.bl (if neg then !same x y else same x y)) st := by
    unfold eqDF toD
    rw [toDw_plain (okP_plain h), toDw_plain (okP_plain g)]
    dsimp only
    rw [if_pos ⟨okP_shaped h, okP_shaped g⟩, eqv_same (okP_plain h) (okP_plain g)]
  unfold eqF
  split
  · simp [same]
  · simp [same]
  · simp [plainP, okP] at h
  · exact key
theorem toD_ref {xs : List PV} (h : getL st n = some xs) (g : okPs xs = true) : toD st (.ref n) = some (.list (dOfs xs)) := by
  unfold toD
  rw [toDw, refD, h, Option.bind_some, toDsw_plain (okPs_plain g)]
  rfl
theorem eq_list {xs ys : List PV} (h : getL st n = some xs) (hx : okPs xs = true) (g : getL st m = some ys) (hy : okPs ys = true) : eqF neg (.ref n) (.ref m) st = .ok (.bl (if neg then !sames xs ys else sames xs ys)) st := by
  show eqDF neg (.ref n) (.ref m) st = _
  unfold eqDF
  rw [toD_ref h hx, toD_ref g hy]
  dsimp only
  rw [if_pos ⟨okPs_shaped hx, okPs_shaped hy⟩, PyData.eqv, eqv_sames (okPs_plain hx) (okPs_plain hy)]
theorem any_same {x : PV} (hx : plainP x = true) : ∀ {xs : List PV}, plainPs xs = true → ((dOfs xs).any fun z => PyData.eqv z (dOf x)) = xs.any fun y => same y x
  | [], _ => rfl
  | y :: ys, h => by
    rw [plainPs, Bool.and_eq_true] at h
    rw [dOfs, List.any_cons, List.any_cons, eqv_same h.1 hx, any_same hx h.2]
theorem in_list {x : PV} {xs : List PV} (h : getL st n = some xs) (hx : okP x = true) (hs : okPs xs = true) : inF neg x (.ref n) st = .ok (.bl (if neg then !(xs.any fun y => same y x) else xs.any fun y => same y x)) st := by
  unfold inF
  dsimp only
  rw [toD_ref h hs, show toD st x = some (dOf x) from toDw_plain (okP_plain hx)]
  dsimp only
  rw [if_pos ⟨okP_shaped hx, okPs_shaped hs⟩, any_same (okP_plain hx) (okPs_plain hs)]
end
end Sm

namespace Sm
open PySem
def rangeI (lo : Int) (n : Nat) : List Int := (List.range n).map fun i => lo + (i : Nat)
theorem rangeP_eq (lo : Int) (n : Nat) : rangeP lo n = (rangeI lo n).map .int := by simp [rangeP, rangeI]
theorem set_same {st : Store} {d : Nat} {c : Cell} (h : st[d]? = some c) : st.set d c = st := by
  apply List.ext_getElem?
  intro i
  by_cases hi : d = i
  · subst hi
    rw [List.getElem?_set_self (Lw.lt_of_some h), h]
  · rw [List.getElem?_set_ne hi]
theorem set_end {st : Store} {c e : Cell} : (st ++ [c]).set st.length e = st ++ [e] := by
  apply List.ext_getElem?
  intro i
  by_cases hi : st.length = i
  · subst hi
    rw [List.getElem?_set_self (by simp)]
    simp
  · rw [List.getElem?_set_ne hi]
    by_cases h : i < st.length
    · rw [List.getElem?_append_left h, List.getElem?_append_left h]
    · rw [List.getElem?_eq_none (by simp; omega), List.getElem?_eq_none (by simp; omega)]
theorem get_end {st : Store} {c : Cell} : (st ++ [c])[st.length]? = some c := by simp
end Sm
namespace Lw
open PySem Sm
/-- all but the object at d is as it was -/
structure Fx (d : Nat) (st st' : Store) : Prop where
  le : st.length ≤ st'.length
  old : ∀ i, i < st.length → i ≠ d → st'[i]? = st[i]?
theorem Fx.refl {d : Nat} {st : Store} : Fx d st st := ⟨Nat.le_refl _, fun _ _ _ => rfl⟩
theorem Fx.trans {d : Nat} {a b c : Store} (h : Fx d a b) (g : Fx d b c) : Fx d a c := ⟨Nat.le_trans h.le g.le, fun i hi hn => (g.old i (Nat.lt_of_lt_of_le hi h.le) hn).trans (h.old i hi hn)⟩
theorem Fx.set {d : Nat} {st : Store} {c : Cell} : Fx d st (st.set d c) := ⟨by simp, fun i hi hn => by rw [List.getElem?_set_ne (Ne.symm hn)]⟩
theorem Ex.fx {d : Nat} {a b : Store} (h : Ex a b) : Fx d a b := ⟨h.le, fun i hi _ => h.old i hi⟩
theorem Fx.get {d i : Nat} {a b : Store} {c : Cell} (h : Fx d a b) (hi : i ≠ d) (e : a[i]? = some c) : b[i]? = some c := by rw [h.old i (lt_of_some e) hi]; exact e
/-- what was made new has been changed alone -/
theorem Fx.ex {d : Nat} {a b : Store} (h : Fx d a b) (hd : a.length ≤ d) : Ex a b := ⟨h.le, fun i hi => h.old i hi (by omega)⟩
theorem Fx.ex_of {d : Nat} {a b c : Store} (h : Ex a b) (g : Fx d b c) (hd : a.length ≤ d) : Ex a c := ⟨Nat.le_trans h.le g.le, fun i hi => (g.old i (Nat.lt_of_lt_of_le hi h.le) (by omega)).trans (h.old i hi)⟩
theorem Gx.len_lt {n : Nat} {a b : Store} (h : Gx n a b) : n < b.length := h.stm.lt
theorem Gx.ex {n : Nat} {a b c : Store} (h : Gx n a b) (g : Ex b c) : Gx n a c := h.trans (g.gx h.stm)
end Lw

namespace Lx
open PySem Sm
abbrev N_f_law_cell : List Str := ["stream", "rows", "columns"]
def m_f_law_cell : MS := (mRet (mTup (mCons (mFn 2 Lw.g_f_law_draw (mCons (mVar 0) (mCons (mVar 1) mNil))) (mCons (mFn 2 Lw.g_f_law_draw (mCons (mVar 0) (mCons (mVar 2) mNil))) mNil))))
def g_f_law_cell : MC := gOf N_f_law_cell m_f_law_cell
abbrev N_f_law_area : List Str := ["stream", "rows", "columns", "top", "left"]
def m_f_law_area : MS := (mSeq (mAsg (mFn 3 g_f_law_cell (mCons (mVar 0) (mCons (mVar 1) (mCons (mVar 2) mNil)))) (gTp 2 (gCons (gNm 3) (gCons (gNm 4) gNil))))
    (mRet (mTup (mCons (mVar 3) (mCons (mVar 4) (mCons (mCall minF (mCons (mC (.int 11)) (mCons (mOp addF (mVar 3) (mFn 2 Lw.g_f_law_draw (mCons (mVar 0) (mCons (mC (.int 3)) mNil)))) mNil))) (mCons (mCall minF (mCons (mC (.int 11)) (mCons (mOp addF (mVar 4) (mFn 2 Lw.g_f_law_draw (mCons (mVar 0) (mCons (mC (.int 3)) mNil)))) mNil))) mNil)))))))
def g_f_law_area : MC := gOf N_f_law_area m_f_law_area
abbrev N_f_law_reference : List Str := ["stream", "rows", "columns", "kind"]
def m_f_law_reference : MS := (mSeq (mIfS (mTest (mOp (eqF false) (mFn 2 Lw.g_f_law_draw (mCons (mVar 0) (mCons (mC (.int 12)) mNil))) (mC (.int 0)))) (mAsg (mTup (mCons (mC (.int 12)) (mCons (mC (.int 12)) mNil))) (gTp 2 (gCons (gNm 1) (gCons (gNm 2) gNil)))) mNext)
    (mSeq (mAsg (mFn 2 Lw.g_f_law_draw (mCons (mVar 0) (mCons (mC (.int 12)) mNil))) (gNm 3))
    (mSeq (mIfS (mTest (mOp ltF (mVar 3) (mC (.int 5)))) (mRet (mOp addF (mTup (mCons (mC (.str (Str.ofString "cell"))) mNil)) (mFn 3 g_f_law_cell (mCons (mVar 0) (mCons (mVar 1) (mCons (mVar 2) mNil)))))) mNext)
    (mSeq (mIfS (mTest (mOp ltF (mVar 3) (mC (.int 9)))) (mRet (mOp addF (mTup (mCons (mC (.str (Str.ofString "range"))) mNil)) (mFn 3 g_f_law_area (mCons (mVar 0) (mCons (mVar 1) (mCons (mVar 2) mNil)))))) mNext)
    (mRet (mIf (mTest (mOp ltF (mVar 3) (mC (.int 11)))) (mOp addF (mTup (mCons (mC (.str (Str.ofString "spill"))) mNil)) (mFn 3 g_f_law_cell (mCons (mVar 0) (mCons (mVar 1) (mCons (mVar 2) mNil))))) (mTup (mCons (mC (.str (Str.ofString "badref"))) mNil))))))))
def g_f_law_reference : MC := gOf N_f_law_reference m_f_law_reference
abbrev N_f_law_array : List Str := ["stream", "rows", "columns", "depth", "kind", "sizes", "first", "operator", "second"]
abbrev N_f_law_scalar : List Str := ["stream", "rows", "columns", "depth", "kind", "first", "operator", "name", "places"]
def m_f_law_array (r_f_law_array r_f_law_scalar : MC) : MS := (mSeq (mAsg (mFn 2 Lw.g_f_law_draw (mCons (mVar 0) (mCons (mC (.int 12)) mNil))) (gNm 4))
    (mSeq (mIfS (mOrT (mTest (mOp (eqF false) (mVar 3) (mC (.int 0)))) (mTest (mOp ltF (mVar 4) (mC (.int 3))))) (mRet (mFn 3 g_f_law_reference (mCons (mVar 0) (mCons (mVar 1) (mCons (mVar 2) mNil))))) mNext)
    (mSeq (mIfS (mTest (mOp ltF (mVar 4) (mC (.int 5)))) (mSeq (mAsg (mTup (mCons (mFn 4 r_f_law_scalar (mCons (mVar 0) (mCons (mVar 1) (mCons (mVar 2) (mCons (mOp subF (mVar 3) (mC (.int 1))) mNil))))) (mCons (mFn 4 r_f_law_scalar (mCons (mVar 0) (mCons (mVar 1) (mCons (mVar 2) (mCons (mOp subF (mVar 3) (mC (.int 1))) mNil))))) mNil))) (gNm 5))
    (mRet (mTup (mCons (mC (.str (Str.ofString "call"))) (mCons (mC (.str (Str.ofString "SEQ"))) (mCons (mSl (mVar 5) none (some (mOp addF (mC (.int 1)) (mFn 2 Lw.g_f_law_draw (mCons (mVar 0) (mCons (mC (.int 2)) mNil)))))) mNil)))))) mNext)
    (mSeq (mAsg (mFn 4 r_f_law_array (mCons (mVar 0) (mCons (mVar 1) (mCons (mVar 2) (mCons (mOp subF (mVar 3) (mC (.int 1))) mNil))))) (gNm 6))
    (mSeq (mIfS (mTest (mOp ltF (mVar 4) (mC (.int 7)))) (mRet (mTup (mCons (mC (.str (Str.ofString "call"))) (mCons (mFn 2 Lw.g_f_law_choose (mCons (mVar 0) (mCons (mLst (mCons (mC (.str (Str.ofString "TRANSPOSE"))) (mCons (mC (.str (Str.ofString "SORT"))) mNil))) mNil))) (mCons (mTup (mCons (mVar 6) mNil)) mNil))))) mNext)
    (mSeq (mIfS (mTest (mOp ltF (mVar 4) (mC (.int 9)))) (mSeq (mAsg (mFn 2 Lw.g_f_law_choose (mCons (mVar 0) (mCons (mLst (mCons (mC (.str (Str.ofString "+"))) (mCons (mC (.str (Str.ofString "*"))) (mCons (mC (.str (Str.ofString "-"))) (mCons (mC (.str (Str.ofString "<"))) mNil))))) mNil))) (gNm 7))
    (mRet (mTup (mCons (mC (.str (Str.ofString "binary"))) (mCons (mVar 7) (mCons (mVar 6) (mCons (mFn 4 r_f_law_array (mCons (mVar 0) (mCons (mVar 1) (mCons (mVar 2) (mCons (mOp subF (mVar 3) (mC (.int 1))) mNil))))) mNil))))))) mNext)
    (mSeq (mIfS (mTest (mOp (eqF false) (mVar 4) (mC (.int 9)))) (mRet (mTup (mCons (mC (.str (Str.ofString "call"))) (mCons (mFn 2 Lw.g_f_law_choose (mCons (mVar 0) (mCons (mLst (mCons (mC (.str (Str.ofString "TAKE"))) (mCons (mC (.str (Str.ofString "DROP"))) mNil))) mNil))) (mCons (mTup (mCons (mVar 6) (mCons (mFn 4 r_f_law_scalar (mCons (mVar 0) (mCons (mVar 1) (mCons (mVar 2) (mCons (mOp subF (mVar 3) (mC (.int 1))) mNil))))) mNil))) mNil))))) mNext)
    (mSeq (mAsg (mFn 4 r_f_law_array (mCons (mVar 0) (mCons (mVar 1) (mCons (mVar 2) (mCons (mOp subF (mVar 3) (mC (.int 1))) mNil))))) (gNm 8))
    (mSeq (mIfS (mTest (mOp (eqF false) (mVar 4) (mC (.int 10)))) (mRet (mTup (mCons (mC (.str (Str.ofString "call"))) (mCons (mFn 2 Lw.g_f_law_choose (mCons (mVar 0) (mCons (mLst (mCons (mC (.str (Str.ofString "STACK"))) (mCons (mC (.str (Str.ofString "BESIDE"))) (mCons (mC (.str (Str.ofString "FILTER"))) (mCons (mC (.str (Str.ofString "IFERROR"))) mNil))))) mNil))) (mCons (mTup (mCons (mVar 6) (mCons (mVar 8) mNil))) mNil))))) mNext)
    (mRet (mTup (mCons (mC (.str (Str.ofString "call"))) (mCons (mC (.str (Str.ofString "IF"))) (mCons (mTup (mCons (mFn 4 r_f_law_scalar (mCons (mVar 0) (mCons (mVar 1) (mCons (mVar 2) (mCons (mOp subF (mVar 3) (mC (.int 1))) mNil))))) (mCons (mVar 6) (mCons (mVar 8) mNil)))) mNil))))))))))))))
def m_f_law_scalar (r_f_law_array r_f_law_scalar : MC) : MS := (mSeq (mAsg (mFn 2 Lw.g_f_law_draw (mCons (mVar 0) (mCons (mC (.int 12)) mNil))) (gNm 4))
    (mSeq (mIfS (mOrT (mTest (mOp ltF (mVar 4) (mC (.int 4)))) (mAndT (mTest (mOp (eqF false) (mVar 3) (mC (.int 0)))) (mTest (mOp ltF (mVar 4) (mC (.int 7)))))) (mRet (mTup (mCons (mC (.str (Str.ofString "number"))) (mCons (mFn 2 Lw.g_f_law_choose (mCons (mVar 0) (mCons (mLst (mCons (mC (.int 0)) (mCons (mC (.int 1)) (mCons (mC (.int 2)) (mCons (mC (.int 3)) (mCons (mC (.int 1)) (mCons (mC (.int 2)) (mCons (mC (.int 4)) (mCons (mC (.int 13)) mNil))))))))) mNil))) mNil)))) mNext)
    (mSeq (mIfS (mOrT (mTest (mOp ltF (mVar 4) (mC (.int 7)))) (mTest (mOp (eqF false) (mVar 3) (mC (.int 0))))) (mRet (mOp addF (mTup (mCons (mC (.str (Str.ofString "cell"))) mNil)) (mFn 3 g_f_law_cell (mCons (mVar 0) (mCons (mVar 1) (mCons (mVar 2) mNil)))))) mNext)
    (mSeq (mIfS (mTest (mOp ltF (mVar 4) (mC (.int 9)))) (mSeq (mAsg (mFn 4 r_f_law_scalar (mCons (mVar 0) (mCons (mVar 1) (mCons (mVar 2) (mCons (mOp subF (mVar 3) (mC (.int 1))) mNil))))) (gNm 5))
    (mSeq (mAsg (mFn 2 Lw.g_f_law_choose (mCons (mVar 0) (mCons (mLst (mCons (mC (.str (Str.ofString "+"))) (mCons (mC (.str (Str.ofString "-"))) (mCons (mC (.str (Str.ofString "*"))) (mCons (mC (.str (Str.ofString "/"))) (mCons (mC (.str (Str.ofString "<"))) (mCons (mC (.str (Str.ofString "<="))) (mCons (mC (.str (Str.ofString "="))) mNil)))))))) mNil))) (gNm 6))
    (mRet (mTup (mCons (mC (.str (Str.ofString "binary"))) (mCons (mVar 6) (mCons (mVar 5) (mCons (mFn 4 r_f_law_scalar (mCons (mVar 0) (mCons (mVar 1) (mCons (mVar 2) (mCons (mOp subF (mVar 3) (mC (.int 1))) mNil))))) mNil)))))))) mNext)
    (mSeq (mIfS (mTest (mOp (eqF false) (mVar 4) (mC (.int 9)))) (mRet (mTup (mCons (mC (.str (Str.ofString "negate"))) (mCons (mFn 4 r_f_law_scalar (mCons (mVar 0) (mCons (mVar 1) (mCons (mVar 2) (mCons (mOp subF (mVar 3) (mC (.int 1))) mNil))))) mNil)))) mNext)
    (mSeq (mIfS (mTest (mOp (eqF false) (mVar 4) (mC (.int 10)))) (mSeq (mAsg (mFn 2 Lw.g_f_law_choose (mCons (mVar 0) (mCons (mLst (mCons (mC (.str (Str.ofString "SUM"))) (mCons (mC (.str (Str.ofString "COUNT"))) (mCons (mC (.str (Str.ofString "MAX"))) (mCons (mC (.str (Str.ofString "MIN"))) (mCons (mC (.str (Str.ofString "ROWS"))) (mCons (mC (.str (Str.ofString "COLUMNS"))) mNil))))))) mNil))) (gNm 7))
    (mRet (mTup (mCons (mC (.str (Str.ofString "call"))) (mCons (mVar 7) (mCons (mTup (mCons (mFn 4 r_f_law_array (mCons (mVar 0) (mCons (mVar 1) (mCons (mVar 2) (mCons (mOp subF (mVar 3) (mC (.int 1))) mNil))))) mNil)) mNil)))))) mNext)
    (mSeq (mAsg (mTup (mCons (mTup (mCons (mC (.str (Str.ofString "number"))) (mCons (mOp addF (mC (.int 1)) (mFn 2 Lw.g_f_law_draw (mCons (mVar 0) (mCons (mC (.int 3)) mNil)))) mNil))) (mCons (mTup (mCons (mC (.str (Str.ofString "number"))) (mCons (mOp addF (mC (.int 1)) (mFn 2 Lw.g_f_law_draw (mCons (mVar 0) (mCons (mC (.int 2)) mNil)))) mNil))) mNil))) (gNm 8))
    (mRet (mTup (mCons (mC (.str (Str.ofString "call"))) (mCons (mC (.str (Str.ofString "INDEX"))) (mCons (mOp addF (mTup (mCons (mFn 4 r_f_law_array (mCons (mVar 0) (mCons (mVar 1) (mCons (mVar 2) (mCons (mOp subF (mVar 3) (mC (.int 1))) mNil))))) mNil)) (mVar 8)) mNil))))))))))))
mutual
def g_f_law_array : Nat → MC
  | 0 => fun _ _ => .no
  | n + 1 => gOf N_f_law_array (m_f_law_array (g_f_law_array n) (g_f_law_scalar n))
def g_f_law_scalar : Nat → MC
  | 0 => fun _ _ => .no
  | n + 1 => gOf N_f_law_scalar (m_f_law_scalar (g_f_law_array n) (g_f_law_scalar n))
end
abbrev N_f_law_formula : List Str := ["stream", "rows", "columns", "depth"]
def m_f_law_formula : MS := (mSeq (mIfS (mTest (mOp (eqF false) (mFn 2 Lw.g_f_law_draw (mCons (mVar 0) (mCons (mC (.int 3)) mNil))) (mC (.int 0)))) (mRet (mFn 4 (g_f_law_scalar 6) (mCons (mVar 0) (mCons (mVar 1) (mCons (mVar 2) (mCons (mVar 3) mNil)))))) mNext)
    (mRet (mFn 4 (g_f_law_array 6) (mCons (mVar 0) (mCons (mVar 1) (mCons (mVar 2) (mCons (mVar 3) mNil)))))))
def g_f_law_formula : MC := gOf N_f_law_formula m_f_law_formula
end Lx

namespace Lx
open PySem Sm Lw
abbrev q (s : String) : PV := .str (Str.ofString s)
/-! ### what is drawn: expressions -/
inductive Lf : PV → Prop
  | num {n : Int} : 0 ≤ n → n < 16 → Lf (.tup [q "number", .int n])
  | cell {r c : Int} : 0 ≤ r → r < 12 → 0 ≤ c → c < 12 → Lf (.tup [q "cell", .int r, .int c])
  | range {t l b r : Int} : 0 ≤ t → t ≤ b → b < 12 → 0 ≤ l → l ≤ r → r < 12 → Lf (.tup [q "range", .int t, .int l, .int b, .int r])
  | spill {r c : Int} : 0 ≤ r → r < 12 → 0 ≤ c → c < 12 → Lf (.tup [q "spill", .int r, .int c])
  | bad : Lf (.tup [q "badref"])
def ops : List Str := ["+", "-", "*", "/", "<", "<=", "="].map Str.ofString
def table : List (Str × Nat) := [("SUM", 1), ("COUNT", 1), ("MAX", 1), ("MIN", 1), ("ROWS", 1), ("COLUMNS", 1), ("TRANSPOSE", 1), ("SORT", 1), ("SEQ", 1), ("SEQ", 2), ("IFERROR", 2), ("FILTER", 2), ("TAKE", 2), ("DROP", 2), ("STACK", 2), ("BESIDE", 2), ("IF", 3), ("INDEX", 3)].map fun p => (Str.ofString p.1, p.2)
inductive Nd : PV → List PV → Prop
  | neg {a : PV} : Nd (.tup [q "negate", a]) [a]
  | bin {o : Str} {a b : PV} : o ∈ ops → Nd (.tup [q "binary", .str o, a, b]) [a, b]
  | call {o : Str} {as : List PV} : (o, as.length) ∈ table → Nd (.tup [q "call", .str o, .tup as]) as
def Xq : Nat → PV → Prop
  | 0, _ => False
  | n + 1, x => Lf x ∨ ∃ ks, Nd x ks ∧ ∀ k ∈ ks, Xq n k
theorem Xq.lf {n : Nat} {x : PV} (h : Lf x) : Xq (n + 1) x := .inl h
theorem Xq.nd {n : Nat} {x : PV} {ks : List PV} (h : Nd x ks) (k : ∀ y ∈ ks, Xq n y) : Xq (n + 1) x := .inr ⟨ks, h, k⟩
theorem Xq.up : ∀ {n : Nat} {x : PV}, Xq n x → Xq (n + 1) x
  | 0, _, h => h.elim
  | n + 1, _, .inl h => .inl h
  | n + 1, _, .inr ⟨ks, h, k⟩ => .inr ⟨ks, h, fun y hy => Xq.up (k y hy)⟩
theorem Xq.mono {n m : Nat} {x : PV} (h : Xq n x) (l : n ≤ m) : Xq m x := by
  obtain ⟨k, rfl⟩ := Nat.le.dest l
  clear l
  induction k with
  | zero => exact h
  | succ k ih => exact Xq.up ih
/-! ### drawn -/
section
variable {st : Store} {m : Nat} {R C : Int}
theorem cell_ap (S : Stm st m) (hR : 1 ≤ R ∧ R ≤ 12) (hC : 1 ≤ C ∧ C ≤ 12) : ∃ r c st', g_f_law_cell [.ref m, .int R, .int C] st = .ok (.tup [.int r, .int c]) st' ∧ (0 ≤ r ∧ r < R) ∧ (0 ≤ c ∧ c < C) ∧ Gx m st st' := by
  obtain ⟨r, s1, e1, r0, r1, G1, _⟩ := draw S (z := R) (by omega) (by omega)
  obtain ⟨c, s2, e2, c0, c1, G2, _⟩ := draw G1.stm (z := C) (by omega) (by omega)
  exact ⟨r, c, s2, by simp [g_f_law_cell, gOf, m_f_law_cell, startS, mFn_ap, e1, e2, size_small], ⟨r0, r1⟩, ⟨c0, c1⟩, G1.trans G2⟩
theorem area_ap (S : Stm st m) (hR : 1 ≤ R ∧ R ≤ 12) (hC : 1 ≤ C ∧ C ≤ 12) : ∃ t l b r st', g_f_law_area [.ref m, .int R, .int C] st = .ok (.tup [.int t, .int l, .int b, .int r]) st' ∧ (0 ≤ t ∧ t < R ∧ t ≤ b ∧ b < 12) ∧ (0 ≤ l ∧ l < C ∧ l ≤ r ∧ r < 12) ∧ Gx m st st' := by
  obtain ⟨t, l, s1, e1, ht, hl, G1⟩ := cell_ap S hR hC
  obtain ⟨u, s2, e2, u0, u1, G2, _⟩ := draw G1.stm (z := 3) (by decide) (by decide)
  obtain ⟨v, s3, e3, v0, v1, G3, _⟩ := draw G2.stm (z := 3) (by decide) (by decide)
  refine ⟨t, l, if t + u < 11 then t + u else 11, if l + v < 11 then l + v else 11, s3, ?_, ?_, ?_, (G1.trans G2).trans G3⟩
  · simp [g_f_law_area, gOf, m_f_law_area, startS, mFn_ap, e1, e2, e3, size_small]
  · split <;> omega
  · split <;> omega
theorem reference_ap (S : Stm st m) (hR : 1 ≤ R ∧ R ≤ 12) (hC : 1 ≤ C ∧ C ≤ 12) : ∃ x st', g_f_law_reference [.ref m, .int R, .int C] st = .ok x st' ∧ Lf x ∧ Gx m st st' := by
  obtain ⟨z, s1, e1, z0, z1, G1, _⟩ := draw S (z := 12) (by decide) (by decide)
  obtain ⟨k, s2, e2, k0, k1, G2, _⟩ := draw G1.stm (z := 12) (by decide) (by decide)
  obtain ⟨R', C', hR', hC', fix⟩ : ∃ R' C' : Int, (1 ≤ R' ∧ R' ≤ 12) ∧ (1 ≤ C' ∧ C' ≤ 12) ∧ ((z = 0 ∧ R' = 12 ∧ C' = 12) ∨ (z ≠ 0 ∧ R' = R ∧ C' = C)) := by
    by_cases hz : z = 0
    · exact ⟨12, 12, by decide, by decide, .inl ⟨hz, rfl, rfl⟩⟩
    · exact ⟨R, C, hR, hC, .inr ⟨hz, rfl, rfl⟩⟩
  by_cases h5 : k < 5
  · obtain ⟨r, c, s3, e3, hr, hc, G3⟩ := cell_ap G2.stm hR' hC'
    refine ⟨_, s3, ?_, .cell hr.1 (by omega) hc.1 (by omega), (G1.trans G2).trans G3⟩
    rcases fix with ⟨hz, rfl, rfl⟩ | ⟨hz, rfl, rfl⟩ <;> simp [g_f_law_reference, gOf, m_f_law_reference, startS, mFn_ap, e1, hz, e2, h5, e3, size_small]
  · by_cases h9 : k < 9
    · obtain ⟨t, l, b, r, s3, e3, ht, hl, G3⟩ := area_ap G2.stm hR' hC'
      refine ⟨_, s3, ?_, .range ht.1 ht.2.2.1 ht.2.2.2 hl.1 hl.2.2.1 hl.2.2.2, (G1.trans G2).trans G3⟩
      rcases fix with ⟨hz, rfl, rfl⟩ | ⟨hz, rfl, rfl⟩ <;> simp [g_f_law_reference, gOf, m_f_law_reference, startS, mFn_ap, e1, hz, e2, h5, h9, e3, size_small]
    · by_cases h11 : k < 11
      · obtain ⟨r, c, s3, e3, hr, hc, G3⟩ := cell_ap G2.stm hR' hC'
        refine ⟨_, s3, ?_, .spill hr.1 (by omega) hc.1 (by omega), (G1.trans G2).trans G3⟩
        rcases fix with ⟨hz, rfl, rfl⟩ | ⟨hz, rfl, rfl⟩ <;> simp [g_f_law_reference, gOf, m_f_law_reference, startS, mFn_ap, e1, hz, e2, h5, h9, h11, e3, size_small]
      · refine ⟨_, s2, ?_, .bad, G1.trans G2⟩
        rcases fix with ⟨hz, rfl, rfl⟩ | ⟨hz, rfl, rfl⟩ <;> simp [g_f_law_reference, gOf, m_f_law_reference, startS, mFn_ap, e1, hz, e2, h5, h9, h11, size_small]
/-- one of a list that is written on the spot -/
theorem pick (S : Stm st m) (xs : List PV) (h0 : xs ≠ []) (h1 : xs.length < 1000000) : ∃ x st', g_f_law_choose [.ref m, .ref st.length] (st ++ [.lst xs]) = .ok x st' ∧ x ∈ xs ∧ Gx m st st' := by
  have X : Ex st (st ++ [.lst xs]) := Ex.push
  obtain ⟨x, s1, e1, hx, G1, _⟩ := choose (st := st ++ [.lst xs]) (n := m) (m := st.length) (xs := xs) (X.stm S) (getL_lst (by simp)) (Nat.ne_of_gt S.lt) h0 h1
  exact ⟨x, s1, e1, hx, (X.gx S).trans G1⟩
end
end Lx

namespace Lx
open PySem Sm Lw
/-- the two promises at one level, for one depth -/
def Grow (m : Nat) (R C : Int) (k d : Nat) : Prop :=
  (∀ st, Stm st m → ∃ x st', g_f_law_array k [.ref m, .int R, .int C, .int (d : Int)] st = .ok x st' ∧ Xq (d + 1) x ∧ Gx m st st') ∧
  (∀ st, Stm st m → ∃ x st', g_f_law_scalar k [.ref m, .int R, .int C, .int (d : Int)] st = .ok x st' ∧ Xq (d + 1) x ∧ Gx m st st')
theorem in_ops {x : PV} (h : x ∈ [PV.str (Str.ofString "+"), .str (Str.ofString "-"), .str (Str.ofString "*"), .str (Str.ofString "/"), .str (Str.ofString "<"), .str (Str.ofString "<="), .str (Str.ofString "=")]) : ∃ o, x = .str o ∧ o ∈ ops := by
  simp only [List.mem_cons, List.not_mem_nil, or_false] at h
  rcases h with rfl | rfl | rfl | rfl | rfl | rfl | rfl <;> exact ⟨_, rfl, by decide +kernel⟩
theorem num_of {x : PV} (h : x ∈ [PV.int 0, .int 1, .int 2, .int 3, .int 1, .int 2, .int 4, .int 13]) : ∃ n : Int, x = .int n ∧ 0 ≤ n ∧ n < 16 := by
  simp only [List.mem_cons, List.not_mem_nil, or_false] at h
  rcases h with rfl | rfl | rfl | rfl | rfl | rfl | rfl | rfl <;> exact ⟨_, rfl, by decide, by decide⟩
section
variable {m : Nat} {R C : Int}
theorem scalar_low {st : Store} {n : Nat} {v D : Int} {s1 : Store} (hR : 1 ≤ R ∧ R ≤ 12) (hC : 1 ≤ C ∧ C ≤ 12) (e1 : g_f_law_draw [.ref m, .int 12] st = .ok (.int v) s1) (S1 : Stm s1 m) (h : v < 4 ∨ (D = 0 ∧ v < 7)) :
    ∃ x st', g_f_law_scalar (n + 1) [.ref m, .int R, .int C, .int D] st = .ok x st' ∧ Lf x ∧ Gx m s1 st' := by
  obtain ⟨x, s2, e2, hx, G2⟩ := pick S1 [PV.int 0, .int 1, .int 2, .int 3, .int 1, .int 2, .int 4, .int 13] (by simp) (by decide)
  obtain ⟨z, rfl, z0, z1⟩ := num_of hx
  refine ⟨_, s2, ?_, .num z0 z1, G2⟩
  by_cases h4 : v < 4
  · simp [g_f_law_scalar, gOf, m_f_law_scalar, startS, mFn_ap, e1, h4, e2, size_small]
  · obtain ⟨hD, h7⟩ := h.resolve_left h4
    simp [g_f_law_scalar, gOf, m_f_law_scalar, startS, mFn_ap, e1, h4, hD, h7, e2, size_small]
theorem scalar_cell {st : Store} {n : Nat} {v D : Int} {s1 : Store} (hR : 1 ≤ R ∧ R ≤ 12) (hC : 1 ≤ C ∧ C ≤ 12) (e1 : g_f_law_draw [.ref m, .int 12] st = .ok (.int v) s1) (S1 : Stm s1 m) (n1 : ¬ (v < 4 ∨ (D = 0 ∧ v < 7))) (h : v < 7 ∨ D = 0) :
    ∃ x st', g_f_law_scalar (n + 1) [.ref m, .int R, .int C, .int D] st = .ok x st' ∧ Lf x ∧ Gx m s1 st' := by
  obtain ⟨r, c, s2, e2, hr, hc, G2⟩ := cell_ap S1 hR hC
  refine ⟨_, s2, ?_, .cell hr.1 (by omega) hc.1 (by omega), G2⟩
  have h4 : ¬ v < 4 := fun z => n1 (.inl z)
  by_cases h7 : v < 7
  · have hD : ¬ D = 0 := fun z => n1 (.inr ⟨z, h7⟩)
    simp [g_f_law_scalar, gOf, m_f_law_scalar, startS, mFn_ap, e1, h4, hD, h7, e2, size_small]
  · have hD : D = 0 := h.resolve_left h7
    simp [g_f_law_scalar, gOf, m_f_law_scalar, startS, mFn_ap, e1, h4, hD, h7, e2, size_small]
theorem scalar_high {st : Store} {n e : Nat} {v D : Int} {s1 : Store} (e1 : g_f_law_draw [.ref m, .int 12] st = .ok (.int v) s1) (S1 : Stm s1 m) (h7 : ¬ v < 7) (h12 : v < 12) (hD : D - 1 = (e : Int)) (hD0 : ¬ D = 0) (ih : Grow m R C n e) :
    ∃ x st', g_f_law_scalar (n + 1) [.ref m, .int R, .int C, .int D] st = .ok x st' ∧ Xq (e + 2) x ∧ Gx m s1 st' := by
  have h4 : ¬ v < 4 := by omega
  by_cases h9 : v < 9
  · obtain ⟨x, s2, e2, X2, G2⟩ := ih.2 s1 S1
    obtain ⟨o, s3, e3, ho, G3⟩ := pick G2.stm [PV.str (Str.ofString "+"), .str (Str.ofString "-"), .str (Str.ofString "*"), .str (Str.ofString "/"), .str (Str.ofString "<"), .str (Str.ofString "<="), .str (Str.ofString "=")] (by simp) (by decide)
    obtain ⟨w, rfl, hw⟩ := in_ops ho
    obtain ⟨y, s4, e4, X4, G4⟩ := ih.2 s3 G3.stm
    refine ⟨_, s4, ?_, .nd (.bin (a := x) (b := y) hw) (by simp only [List.mem_cons, List.not_mem_nil, or_false]; rintro k (rfl | rfl) <;> assumption), (G2.trans G3).trans G4⟩
    simp [g_f_law_scalar, gOf, m_f_law_scalar, startS, mFn_ap, e1, h4, h7, h9, hD0, hD, e2, e3, e4, size_small]
  · by_cases h : v = 9
    · subst h
      obtain ⟨x, s2, e2, X2, G2⟩ := ih.2 s1 S1
      refine ⟨_, s2, ?_, .nd (.neg (a := x)) (by simp only [List.mem_cons, List.not_mem_nil, or_false]; rintro k rfl; assumption), G2⟩
      simp [g_f_law_scalar, gOf, m_f_law_scalar, startS, mFn_ap, e1, hD0, hD, e2, size_small]
    · by_cases h' : v = 10
      · subst h'
        obtain ⟨o, s2, e2, ho, G2⟩ := pick S1 [PV.str (Str.ofString "SUM"), .str (Str.ofString "COUNT"), .str (Str.ofString "MAX"), .str (Str.ofString "MIN"), .str (Str.ofString "ROWS"), .str (Str.ofString "COLUMNS")] (by simp) (by decide)
        obtain ⟨x, s3, e3, X3, G3⟩ := ih.1 s2 G2.stm
        obtain ⟨w, rfl, hw⟩ : ∃ w, o = .str w ∧ (w, [x].length) ∈ table := by
          simp only [List.mem_cons, List.not_mem_nil, or_false] at ho
          rcases ho with rfl | rfl | rfl | rfl | rfl | rfl <;> exact ⟨_, rfl, by show (_, 1) ∈ table; decide +kernel⟩
        refine ⟨_, s3, ?_, .nd (.call hw) (by simp only [List.mem_cons, List.not_mem_nil, or_false]; rintro k rfl; assumption), G2.trans G3⟩
        simp [g_f_law_scalar, gOf, m_f_law_scalar, startS, mFn_ap, e1, hD0, hD, e2, e3, size_small]
      · obtain ⟨a, s2, e2, a0, a1, G2, _⟩ := draw S1 (z := 3) (by decide) (by decide)
        obtain ⟨b, s3, e3, b0, b1, G3, _⟩ := draw G2.stm (z := 2) (by decide) (by decide)
        obtain ⟨x, s4, e4, X4, G4⟩ := ih.1 s3 G3.stm
        refine ⟨_, s4, ?_, .nd (.call (o := Str.ofString "INDEX") (as := [x, .tup [q "number", .int (1 + a)], .tup [q "number", .int (1 + b)]]) (by show (_, 3) ∈ table; decide +kernel)) (by simp only [List.mem_cons, List.not_mem_nil, or_false]; rintro k (rfl | rfl | rfl) <;> first | exact X4 | exact .lf (.num (by omega) (by omega))), (G2.trans G3).trans G4⟩
        simp [g_f_law_scalar, gOf, m_f_law_scalar, startS, mFn_ap, e1, h4, h7, h9, h, h', hD0, hD, e2, e3, e4, size_small]
theorem array_low {st : Store} {n : Nat} {v D : Int} {s1 : Store} (hR : 1 ≤ R ∧ R ≤ 12) (hC : 1 ≤ C ∧ C ≤ 12) (e1 : g_f_law_draw [.ref m, .int 12] st = .ok (.int v) s1) (S1 : Stm s1 m) (h : D = 0 ∨ v < 3) :
    ∃ x st', g_f_law_array (n + 1) [.ref m, .int R, .int C, .int D] st = .ok x st' ∧ Lf x ∧ Gx m s1 st' := by
  obtain ⟨x, s2, e2, hx, G2⟩ := reference_ap S1 hR hC
  refine ⟨_, s2, ?_, hx, G2⟩
  by_cases hD : D = 0
  · simp [g_f_law_array, gOf, m_f_law_array, startS, mFn_ap, e1, hD, e2, size_small]
  · have h3 : v < 3 := h.resolve_left hD
    simp [g_f_law_array, gOf, m_f_law_array, startS, mFn_ap, e1, hD, h3, e2, size_small]
theorem array_high {st : Store} {n e : Nat} {v D : Int} {s1 : Store} (e1 : g_f_law_draw [.ref m, .int 12] st = .ok (.int v) s1) (S1 : Stm s1 m) (h3 : ¬ v < 3) (h12 : v < 12) (hD : D - 1 = (e : Int)) (hD0 : ¬ D = 0) (ih : Grow m R C n e) :
    ∃ x st', g_f_law_array (n + 1) [.ref m, .int R, .int C, .int D] st = .ok x st' ∧ Xq (e + 2) x ∧ Gx m s1 st' := by
  by_cases h5 : v < 5
  · obtain ⟨x, s2, e2, X2, G2⟩ := ih.2 s1 S1
    obtain ⟨y, s3, e3, X3, G3⟩ := ih.2 s2 G2.stm
    obtain ⟨u, s4, e4, u0, u1, G4, _⟩ := draw G3.stm (z := 2) (by decide) (by decide)
    have c1 : cutP [x, y] none (some 1) = [x] := rfl
    have c2 : cutP [x, y] none (some 2) = [x, y] := rfl
    by_cases hu : u = 0
    · subst hu
      refine ⟨_, s4, ?_, .nd (.call (o := Str.ofString "SEQ") (as := [x]) (by show (_, 1) ∈ table; decide +kernel)) (by simp only [List.mem_cons, List.not_mem_nil, or_false]; rintro k rfl; assumption), (G2.trans G3).trans G4⟩
      simp [g_f_law_array, gOf, m_f_law_array, startS, mFn_ap, e1, h3, h5, hD0, hD, e2, e3, e4, c1, size_small]
    · obtain rfl : u = 1 := by omega
      refine ⟨_, s4, ?_, .nd (.call (o := Str.ofString "SEQ") (as := [x, y]) (by show (_, 2) ∈ table; decide +kernel)) (by simp only [List.mem_cons, List.not_mem_nil, or_false]; rintro k (rfl | rfl) <;> assumption), (G2.trans G3).trans G4⟩
      simp [g_f_law_array, gOf, m_f_law_array, startS, mFn_ap, e1, h3, h5, hD0, hD, e2, e3, e4, c2, size_small]
  · obtain ⟨x, s2, e2, X2, G2⟩ := ih.1 s1 S1
    by_cases h7 : v < 7
    · obtain ⟨o, s3, e3, ho, G3⟩ := pick G2.stm [PV.str (Str.ofString "TRANSPOSE"), .str (Str.ofString "SORT")] (by simp) (by decide)
      obtain ⟨w, rfl, hw⟩ : ∃ w, o = .str w ∧ (w, [x].length) ∈ table := by
        simp only [List.mem_cons, List.not_mem_nil, or_false] at ho
        rcases ho with rfl | rfl <;> exact ⟨_, rfl, by show (_, 1) ∈ table; decide +kernel⟩
      refine ⟨_, s3, ?_, .nd (.call hw) (by simp only [List.mem_cons, List.not_mem_nil, or_false]; rintro k rfl; assumption), G2.trans G3⟩
      simp [g_f_law_array, gOf, m_f_law_array, startS, mFn_ap, e1, h3, h5, h7, hD0, hD, e2, e3, size_small]
    · by_cases h9 : v < 9
      · obtain ⟨o, s3, e3, ho, G3⟩ := pick G2.stm [PV.str (Str.ofString "+"), .str (Str.ofString "*"), .str (Str.ofString "-"), .str (Str.ofString "<")] (by simp) (by decide)
        obtain ⟨w, rfl, hw⟩ : ∃ w, o = .str w ∧ w ∈ ops := by
          simp only [List.mem_cons, List.not_mem_nil, or_false] at ho
          rcases ho with rfl | rfl | rfl | rfl <;> exact ⟨_, rfl, by decide +kernel⟩
        obtain ⟨y, s4, e4, X4, G4⟩ := ih.1 s3 G3.stm
        refine ⟨_, s4, ?_, .nd (.bin (a := x) (b := y) hw) (by simp only [List.mem_cons, List.not_mem_nil, or_false]; rintro k (rfl | rfl) <;> assumption), (G2.trans G3).trans G4⟩
        simp [g_f_law_array, gOf, m_f_law_array, startS, mFn_ap, e1, h3, h5, h7, h9, hD0, hD, e2, e3, e4, size_small]
      · by_cases h : v = 9
        · subst h
          obtain ⟨o, s3, e3, ho, G3⟩ := pick G2.stm [PV.str (Str.ofString "TAKE"), .str (Str.ofString "DROP")] (by simp) (by decide)
          obtain ⟨y, s4, e4, X4, G4⟩ := ih.2 s3 G3.stm
          obtain ⟨w, rfl, hw⟩ : ∃ w, o = .str w ∧ (w, [x, y].length) ∈ table := by
            simp only [List.mem_cons, List.not_mem_nil, or_false] at ho
            rcases ho with rfl | rfl <;> exact ⟨_, rfl, by show (_, 2) ∈ table; decide +kernel⟩
          refine ⟨_, s4, ?_, .nd (.call hw) (by simp only [List.mem_cons, List.not_mem_nil, or_false]; rintro k (rfl | rfl) <;> assumption), (G2.trans G3).trans G4⟩
          simp [g_f_law_array, gOf, m_f_law_array, startS, mFn_ap, e1, hD0, hD, e2, e3, e4, size_small]
        · obtain ⟨y, s3, e3, X3, G3⟩ := ih.1 s2 G2.stm
          by_cases h' : v = 10
          · subst h'
            obtain ⟨o, s4, e4, ho, G4⟩ := pick G3.stm [PV.str (Str.ofString "STACK"), .str (Str.ofString "BESIDE"), .str (Str.ofString "FILTER"), .str (Str.ofString "IFERROR")] (by simp) (by decide)
            obtain ⟨w, rfl, hw⟩ : ∃ w, o = .str w ∧ (w, [x, y].length) ∈ table := by
              simp only [List.mem_cons, List.not_mem_nil, or_false] at ho
              rcases ho with rfl | rfl | rfl | rfl <;> exact ⟨_, rfl, by show (_, 2) ∈ table; decide +kernel⟩
            refine ⟨_, s4, ?_, .nd (.call hw) (by simp only [List.mem_cons, List.not_mem_nil, or_false]; rintro k (rfl | rfl) <;> assumption), (G2.trans G3).trans G4⟩
            simp [g_f_law_array, gOf, m_f_law_array, startS, mFn_ap, e1, hD0, hD, e2, e3, e4, size_small]
          · obtain ⟨z, s4, e4, X4, G4⟩ := ih.2 s3 G3.stm
            refine ⟨_, s4, ?_, .nd (.call (o := Str.ofString "IF") (as := [z, x, y]) (by show (_, 3) ∈ table; decide +kernel)) (by simp only [List.mem_cons, List.not_mem_nil, or_false]; rintro k (rfl | rfl | rfl) <;> assumption), (G2.trans G3).trans G4⟩
            simp [g_f_law_array, gOf, m_f_law_array, startS, mFn_ap, e1, h3, h5, h7, h9, h, h', hD0, hD, e2, e3, e4, size_small]
theorem grow (hR : 1 ≤ R ∧ R ≤ 12) (hC : 1 ≤ C ∧ C ≤ 12) : ∀ k d : Nat, d < k → Grow m R C k d
  | 0, _, h => absurd h (Nat.not_lt_zero _)
  | n + 1, d, h => by
    refine ⟨fun st S => ?_, fun st S => ?_⟩
    · obtain ⟨v, s1, e1, v0, v1, G1, _⟩ := draw S (z := 12) (by decide) (by decide)
      by_cases hl : (d : Int) = 0 ∨ v < 3
      · obtain ⟨x, s2, e2, X2, G2⟩ := array_low (n := n) hR hC e1 G1.stm hl
        exact ⟨x, s2, e2, .lf X2, G1.trans G2⟩
      · match d, h, hl with
        | 0, _, hl => exact absurd (.inl rfl) hl
        | e + 1, h, hl =>
          obtain ⟨x, s2, e2, X2, G2⟩ := array_high e1 G1.stm (fun z => hl (.inr z)) v1 (e := e) (by omega) (fun z => hl (.inl z)) (grow hR hC n e (by omega))
          exact ⟨x, s2, e2, X2, G1.trans G2⟩
    · obtain ⟨v, s1, e1, v0, v1, G1, _⟩ := draw S (z := 12) (by decide) (by decide)
      by_cases hl : v < 4 ∨ ((d : Int) = 0 ∧ v < 7)
      · obtain ⟨x, s2, e2, X2, G2⟩ := scalar_low (n := n) hR hC e1 G1.stm hl
        exact ⟨x, s2, e2, .lf X2, G1.trans G2⟩
      · by_cases hc : v < 7 ∨ (d : Int) = 0
        · obtain ⟨x, s2, e2, X2, G2⟩ := scalar_cell (n := n) hR hC e1 G1.stm hl hc
          exact ⟨x, s2, e2, .lf X2, G1.trans G2⟩
        · match d, h, hc with
          | 0, _, hc => exact absurd (.inr rfl) hc
          | e + 1, h, hc =>
            obtain ⟨x, s2, e2, X2, G2⟩ := scalar_high e1 G1.stm (fun z => hc (.inl z)) v1 (e := e) (by omega) (fun z => hc (.inr z)) (grow hR hC n e (by omega))
            exact ⟨x, s2, e2, X2, G1.trans G2⟩
end
end Lx
namespace Lx
open PySem Sm Lw
theorem formula_ap {st : Store} {m d : Nat} {R C : Int} (S : Stm st m) (hR : 1 ≤ R ∧ R ≤ 12) (hC : 1 ≤ C ∧ C ≤ 12) (hd : d < 6) : ∃ x st', g_f_law_formula [.ref m, .int R, .int C, .int (d : Int)] st = .ok x st' ∧ Xq (d + 1) x ∧ Gx m st st' := by
  obtain ⟨v, s1, e1, v0, v1, G1, _⟩ := draw S (z := 3) (by decide) (by decide)
  have g := grow (m := m) hR hC 6 d hd
  by_cases h : v = 0
  · obtain ⟨x, s2, e2, X2, G2⟩ := g.2 s1 G1.stm
    exact ⟨x, s2, by simp [g_f_law_formula, gOf, m_f_law_formula, startS, mFn_ap, e1, h, e2], X2, G1.trans G2⟩
  · obtain ⟨x, s2, e2, X2, G2⟩ := g.1 s1 G1.stm
    exact ⟨x, s2, by simp [g_f_law_formula, gOf, m_f_law_formula, startS, mFn_ap, e1, h, e2], X2, G1.trans G2⟩
end Lx

namespace Lx
open PySem Sm Lw
/-! ### the parts of what is drawn -/
def kids : PV → List PV
  | .tup (.str k :: r) => if k = Str.ofString "negate" then (match r with | [a] => [a] | _ => []) else if k = Str.ofString "binary" then (match r with | [_, a, b] => [a, b] | _ => []) else if k = Str.ofString "call" then (match r with | [_, .tup as] => as | _ => []) else []
  | _ => []
section
variable {x : PV} {ks : List PV}
@[simp] theorem k_nn : (Str.ofString "number" = Str.ofString "negate") = False := eq_false (by decide +kernel)
@[simp] theorem k_nb : (Str.ofString "number" = Str.ofString "binary") = False := eq_false (by decide +kernel)
@[simp] theorem k_nc : (Str.ofString "number" = Str.ofString "call") = False := eq_false (by decide +kernel)
@[simp] theorem k_cn : (Str.ofString "cell" = Str.ofString "negate") = False := eq_false (by decide +kernel)
@[simp] theorem k_cb : (Str.ofString "cell" = Str.ofString "binary") = False := eq_false (by decide +kernel)
@[simp] theorem k_cc : (Str.ofString "cell" = Str.ofString "call") = False := eq_false (by decide +kernel)
@[simp] theorem k_rn : (Str.ofString "range" = Str.ofString "negate") = False := eq_false (by decide +kernel)
@[simp] theorem k_rb : (Str.ofString "range" = Str.ofString "binary") = False := eq_false (by decide +kernel)
@[simp] theorem k_rc : (Str.ofString "range" = Str.ofString "call") = False := eq_false (by decide +kernel)
@[simp] theorem k_sn : (Str.ofString "spill" = Str.ofString "negate") = False := eq_false (by decide +kernel)
@[simp] theorem k_sb : (Str.ofString "spill" = Str.ofString "binary") = False := eq_false (by decide +kernel)
@[simp] theorem k_sc : (Str.ofString "spill" = Str.ofString "call") = False := eq_false (by decide +kernel)
@[simp] theorem k_dn : (Str.ofString "badref" = Str.ofString "negate") = False := eq_false (by decide +kernel)
@[simp] theorem k_db : (Str.ofString "badref" = Str.ofString "binary") = False := eq_false (by decide +kernel)
@[simp] theorem k_dc : (Str.ofString "badref" = Str.ofString "call") = False := eq_false (by decide +kernel)
@[simp] theorem k_bn : (Str.ofString "binary" = Str.ofString "negate") = False := eq_false (by decide +kernel)
@[simp] theorem k_an : (Str.ofString "call" = Str.ofString "negate") = False := eq_false (by decide +kernel)
@[simp] theorem k_ab : (Str.ofString "call" = Str.ofString "binary") = False := eq_false (by decide +kernel)
theorem Lf.kids (h : Lf x) : kids x = [] := by cases h <;> simp [Lx.kids]
theorem Nd.kids (h : Nd x ks) : kids x = ks := by cases h <;> simp [Lx.kids]
theorem table_le : ∀ p ∈ table, p.2 ≤ 3 := by decide +kernel
theorem Nd.few (h : Nd x ks) : ks.length ≤ 3 := by
  cases h with
  | neg => simp
  | bin _ => simp
  | call h => exact table_le _ h
theorem Xq.kid {n : Nat} (h : Xq (n + 1) x) : (∀ y ∈ kids x, Xq n y) ∧ (kids x).length ≤ 3 := by
  rcases h with h | ⟨ks, h, k⟩
  · rw [h.kids]; simp
  · rw [h.kids]; exact ⟨k, h.few⟩
theorem Xq.form {n : Nat} (h : Xq (n + 1) x) : Lf x ∨ Nd x (Lx.kids x) := by
  rcases h with h | ⟨ks, h, k⟩
  · exact .inl h
  · rw [h.kids]; exact .inr h
end
/-! ### what can be shown: plain, without truth values, small -/
def Fine (k w : Nat) (x : PV) : Prop := plainP x = true ∧ (dOf x).showable = true ∧ (dOf x).leavesShort 13 = true ∧ (dOf x).depth ≤ k ∧ (dOf x).weight ≤ w
def Fines (k w : Nat) (xs : List PV) : Prop := plainPs xs = true ∧ PyData.showableAll (dOfs xs) = true ∧ PyData.leavesShortAll 13 (dOfs xs) = true ∧ PyData.depthAll (dOfs xs) ≤ k ∧ PyData.weightAll (dOfs xs) ≤ w
theorem Fines.nil {k w : Nat} : Fines k w [] := ⟨rfl, rfl, rfl, Nat.zero_le _, Nat.zero_le _⟩
theorem Fines.cons {k w v u : Nat} {x : PV} {xs : List PV} (h : Fine k w x) (g : Fines k v xs) (e : w + 1 + v ≤ u) : Fines k u (x :: xs) := by
  obtain ⟨h1, h2, h3, h4, h5⟩ := h
  obtain ⟨g1, g2, g3, g4, g5⟩ := g
  refine ⟨?_, ?_, ?_, ?_, ?_⟩
  · rw [plainPs, h1, g1]; rfl
  · rw [dOfs, PyData.showableAll, h2, g2]; rfl
  · rw [dOfs, PyData.leavesShortAll, h3, g3]; rfl
  · rw [dOfs, PyData.depthAll]; omega
  · rw [dOfs, PyData.weightAll]; omega
theorem Fine.tup {k w : Nat} {xs : List PV} (h : Fines k w xs) : Fine (k + 1) w (.tup xs) := by
  obtain ⟨h1, h2, h3, h4, h5⟩ := h
  refine ⟨?_, ?_, ?_, ?_, ?_⟩
  · rw [plainP, h1]
  · rw [dOf, PyData.showable, h2]
  · rw [dOf, PyData.leavesShort, h3]
  · rw [dOf, PyData.depth]; omega
  · rw [dOf, PyData.weight]; exact h5
theorem Fine.more {k w k' w' : Nat} {x : PV} (h : Fine k w x) (a : k ≤ k') (b : w ≤ w') : Fine k' w' x := ⟨h.1, h.2.1, h.2.2.1, Nat.le_trans h.2.2.2.1 a, Nat.le_trans h.2.2.2.2 b⟩
theorem Fines.more {k w k' w' : Nat} {xs : List PV} (h : Fines k w xs) (a : k ≤ k') (b : w ≤ w') : Fines k' w' xs := ⟨h.1, h.2.1, h.2.2.1, Nat.le_trans h.2.2.2.1 a, Nat.le_trans h.2.2.2.2 b⟩
theorem small_int : ∀ n : Fin 16, Fine 0 4 (.int (n.val : Int)) := by
  intro n
  refine ⟨rfl, ?_, ?_, ?_, ?_⟩ <;> revert n <;> decide +kernel
theorem fine_int {k : Nat} {i : Int} (h0 : 0 ≤ i) (h1 : i < 16) : Fine k 4 (.int i) := by
  obtain ⟨n, rfl⟩ : ∃ n : Nat, i = (n : Int) := ⟨i.toNat, by omega⟩
  exact (small_int ⟨n, by omega⟩).more (Nat.zero_le _) (Nat.le_refl _)
theorem fine_str {k : Nat} {s : Str} (h : PyData.strOk s = true) (hl : s.cps.size ≤ 12) : Fine k 12 (.str s) := by
  refine ⟨by rw [plainP, h], rfl, ?_, Nat.zero_le _, ?_⟩
  · rw [dOf, PyData.leavesShort, List.all_eq_true]
    intro c hc
    unfold PyData.strOk at h
    rw [Array.all_eq_true'] at h
    have := h c (Array.mem_toList_iff.mp hc)
    rw [decide_eq_true_eq] at this ⊢
    exact Nat.lt_trans this (by decide)
  · rw [dOf, PyData.weight]; exact hl
theorem ops_ok : ∀ o ∈ ops, PyData.strOk o = true ∧ o.cps.size ≤ 12 := by decide +kernel
theorem table_ok : ∀ p ∈ table, PyData.strOk p.1 = true ∧ p.1.cps.size ≤ 12 := by decide +kernel
theorem Lf.fine {x : PV} {k : Nat} (h : Lf x) : Fine (k + 1) 40 x := by
  cases h with
  | num h0 h1 => exact .tup (.cons (fine_str (by decide +kernel) (by decide +kernel)) (.cons (fine_int h0 h1) .nil (v := 0) (Nat.le_refl _)) (by decide))
  | cell a b c d => exact .tup (.cons (fine_str (by decide +kernel) (by decide +kernel)) (.cons (fine_int a (by omega)) (.cons (fine_int c (by omega)) .nil (v := 0) (Nat.le_refl _)) (Nat.le_refl _)) (by decide))
  | spill a b c d => exact .tup (.cons (fine_str (by decide +kernel) (by decide +kernel)) (.cons (fine_int a (by omega)) (.cons (fine_int c (by omega)) .nil (v := 0) (Nat.le_refl _)) (Nat.le_refl _)) (by decide))
  | range a b c d e f => exact .tup (.cons (fine_str (by decide +kernel) (by decide +kernel)) (.cons (fine_int a (by omega)) (.cons (fine_int d (by omega)) (.cons (fine_int (by omega) (by omega)) (.cons (fine_int (by omega) (by omega)) .nil (v := 0) (Nat.le_refl _)) (Nat.le_refl _)) (Nat.le_refl _)) (Nat.le_refl _)) (by decide))
  | bad => exact .tup (.cons (fine_str (by decide +kernel) (by decide +kernel)) .nil (v := 0) (by decide))
theorem fines_all {k w : Nat} : ∀ {xs : List PV}, (∀ y ∈ xs, Fine k w y) → Fines k (xs.length * (w + 1)) xs
  | [], _ => .nil
  | x :: xs, h => .cons (h x (by simp)) (fines_all fun y hy => h y (by simp [hy])) (by rw [List.length_cons, Nat.succ_mul]; omega)
def wide : Nat → Nat
  | 0 => 0
  | n + 1 => 3 * wide n + 60
theorem Xq.fine : ∀ {n : Nat} {x : PV}, Xq n x → Fine (2 * n) (wide n) x
  | 0, _, h => h.elim
  | n + 1, x, .inl h => (h.fine (k := 0)).more (by omega) (by show _ ≤ 3 * wide n + 60; omega)
  | n + 1, x, .inr ⟨ks, h, k⟩ => by
    have F : ∀ y ∈ ks, Fine (2 * n) (wide n) y := fun y hy => Xq.fine (k y hy)
    cases h with
    | neg => exact (Fine.tup (.cons (fine_str (by decide +kernel) (by decide +kernel)) (.cons (F _ (by simp)) .nil (v := 0) (Nat.le_refl _)) (Nat.le_refl _))).more (by omega) (by show _ ≤ 3 * wide n + 60; omega)
    | bin ho =>
      have o := ops_ok _ ho
      exact (Fine.tup (.cons (fine_str (by decide +kernel) (by decide +kernel)) (.cons (fine_str o.1 o.2) (.cons (F _ (by simp)) (.cons (F _ (by simp)) .nil (v := 0) (Nat.le_refl _)) (Nat.le_refl _)) (Nat.le_refl _)) (Nat.le_refl _))).more (by omega) (by show _ ≤ 3 * wide n + 60; omega)
    | call ho =>
      have o := table_ok _ ho
      have l := table_le _ ho
      have m : ks.length * (wide n + 1) ≤ 3 * (wide n + 1) := Nat.mul_le_mul_right _ l
      exact (Fine.tup (.cons (fine_str (by decide +kernel) (by decide +kernel)) (.cons (fine_str o.1 o.2) (.cons (Fine.tup (fines_all F)) .nil (v := 0) (Nat.le_refl _)) (Nat.le_refl _)) (Nat.le_refl _))).more (by omega) (by show _ ≤ 3 * wide n + 60; omega)
theorem Fine.okP {k w : Nat} {x : PV} (h : Fine k w x) (hk : k ≤ 60) : okP x = true := by
  unfold Sm.okP
  rw [Bool.and_eq_true, decide_eq_true_eq]
  exact ⟨h.1, Nat.le_trans h.2.2.2.1 hk⟩
theorem Fine.shows {k w : Nat} {x : PV} (h : Fine k w x) (hk : k ≤ 60) (hw : w ≤ 1048576) : shows (dOf x) = true := by
  unfold Sm.shows
  rw [h.2.1, PyData.hasDict_of_canLay _ (lay_plain h.1)]
  simp only [Bool.true_and, Bool.not_false, Bool.and_eq_true, decide_eq_true_eq]
  exact ⟨Nat.le_trans h.2.2.2.1 hk, PyData.shown_fits (B := 13) (by decide) (by decide) h.2.2.1 (Nat.le_trans h.2.2.2.2 (by simpa using hw))⟩
theorem Fines.shows {k w : Nat} {xs : List PV} (h : Fines k w xs) (hk : k ≤ 59) (hw : w ≤ 1048576) : shows (.list (dOfs xs)) = true := by
  have nd : PyData.hasDict (.list (dOfs xs)) = false := PyData.hasDict_of_canLay _ (by rw [PyData.canLay0]; exact lays_plain h.1)
  unfold Sm.shows
  rw [nd, show PyData.showable (.list (dOfs xs)) = true by rw [PyData.showable]; exact h.2.1]
  simp only [Bool.true_and, Bool.not_false, Bool.and_eq_true, decide_eq_true_eq]
  exact ⟨by rw [PyData.depth]; have := h.2.2.2.1; omega, PyData.shown_fits (B := 13) (by decide) (by decide) (by rw [PyData.leavesShort]; exact h.2.2.1) (by rw [PyData.weight]; exact Nat.le_trans h.2.2.2.2 (by simpa using hw))⟩
section
variable {st : Store} {k w : Nat}
theorem repr_x {x : PV} (h : Fine k w x) (hk : k ≤ 60) (hw : w ≤ 1048576) : reprF [x] st = .ok (.str (dOf x).shown) st := by
  have t : toD st x = some (dOf x) := toDw_plain h.1
  simp only [reprF, t, h.shows hk hw, if_true]
theorem repr_l {n : Nat} {xs : List PV} (e : getL st n = some xs) (h : Fines k w xs) (hk : k ≤ 59) (hw : w ≤ 1048576) : reprF [.ref n] st = .ok (.str (PyData.list (dOfs xs)).shown) st := by
  have t : toD st (.ref n) = some (.list (dOfs xs)) := by
    unfold toD
    rw [toDw, refD, e]
    show (toDsw _ xs).map PyData.list = _
    rw [toDsw_plain h.1]
    rfl
  simp only [reprF, t, h.shows hk hw, if_true]
end
end Lx

namespace Ls
open PySem Sm
abbrev N_f_law_scalar_drawn : List Str := ["stream", "limit", "some", "codes"]
def m_f_law_scalar_drawn : MS := (mSeq (mAsg (mOp powF (mC (.int 10)) (mC (.int 9))) (gNm 1))
    (mSeq (mAsg (mLst (mCons (mC (.int 0)) (mCons (mC (.int 1)) (mCons (mC (.int 2)) (mCons (mC (.int 3)) (mCons (mUn negF (mC (.int 1))) (mCons (mUn negF (mC (.int 2))) (mCons (mC (.int 5)) (mCons (mVar 1) (mCons (mOp subF (mC (.int 0)) (mVar 1)) (mCons (mOp subF (mVar 1) (mFn 2 Lw.g_f_law_draw (mCons (mVar 0) (mCons (mC (.int 9)) mNil)))) (mCons (mOp subF (mFn 2 Lw.g_f_law_draw (mCons (mVar 0) (mCons (mC (.int 9)) mNil))) (mVar 1)) (mCons (mC .non) mNil))))))))))))) (gNm 2))
    (mSeq (mAsg (mOp addF (mVar 2) (mLst (mCons (mOp subF (mFn 2 Lw.g_f_law_draw (mCons (mVar 0) (mCons (mOp mulF (mC (.int 2)) (mVar 1)) mNil))) (mVar 1)) (mCons (mOp subF (mFn 2 Lw.g_f_law_draw (mCons (mVar 0) (mCons (mC (.int 60000)) mNil))) (mC (.int 30000))) (mCons (mC .non) mNil))))) (gNm 2))
    (mSeq (mAsg (mLst (mCons (mC (.str (Str.ofString "#DIV"))) (mCons (mC (.str (Str.ofString "#EMPTY"))) (mCons (mC (.str (Str.ofString "#NUM"))) (mCons (mC (.str (Str.ofString "#REF"))) (mCons (mC (.str (Str.ofString "#SHAPE"))) (mCons (mC (.str (Str.ofString "#SIZE"))) (mCons (mC (.str (Str.ofString "#SPILL"))) mNil)))))))) (gNm 3))
    (mSeq (mIfS (mTest (mOp (eqF false) (mFn 2 Lw.g_f_law_draw (mCons (mVar 0) (mCons (mC (.int 5)) mNil))) (mC (.int 0)))) (mRet (mFn 2 Lw.g_f_law_choose (mCons (mVar 0) (mCons (mVar 3) mNil)))) mNext)
    (mRet (mFn 2 Lw.g_f_law_choose (mCons (mVar 0) (mCons (mVar 2) mNil)))))))))
def g_f_law_scalar_drawn : MC := gOf N_f_law_scalar_drawn m_f_law_scalar_drawn
end Ls

namespace Ls
open PySem Sm Lw
def codes : List Str := ["#DIV", "#EMPTY", "#NUM", "#REF", "#SHAPE", "#SIZE", "#SPILL"].map Str.ofString
/-- a scalar -/
inductive Sc : PV → Prop
  | num {i : Int} : -1000000000 ≤ i → i ≤ 1000000000 → Sc (.int i)
  | blank : Sc .non
  | code {s : Str} : s ∈ codes → Sc (.str s)
theorem ten9 : (10 : Int) ^ (9 : Int).toNat = 1000000000 := by decide
theorem scalar_drawn {st : Store} {m : Nat} (S : Stm st m) : ∃ x st', g_f_law_scalar_drawn [.ref m] st = .ok x st' ∧ Sc x ∧ Gx m st st' := by
  obtain ⟨a, s1, e1, a0, a1, G1, _⟩ := draw S (z := 9) (by decide) (by decide)
  obtain ⟨b, s2, e2, b0, b1, G2, _⟩ := draw G1.stm (z := 9) (by decide) (by decide)
  obtain ⟨L1, hL1⟩ : ∃ L1, [PV.int 0, .int 1, .int 2, .int 3, .int (-1), .int (-2), .int 5, .int 1000000000, .int (-1000000000), .int (1000000000 - a), .int (b - 1000000000), .non] = L1 := ⟨_, rfl⟩
  obtain ⟨s3, h3⟩ : ∃ s3, s2 ++ [Cell.lst L1] = s3 := ⟨_, rfl⟩
  have X3 : Ex s2 s3 := h3 ▸ Ex.push
  obtain ⟨c, s4, e4, c0, c1, G4, _⟩ := drawW (X3.stm G2.stm) (z := 2000000000) (by decide) (by decide)
  obtain ⟨d, s5, e5, d0, d1, G5, _⟩ := draw G4.stm (z := 60000) (by decide) (by decide)
  obtain ⟨M1, hM1⟩ : ∃ M1, [PV.int (c - 1000000000), .int (d - 30000), .non] = M1 := ⟨_, rfl⟩
  obtain ⟨s6, h6⟩ : ∃ s6, s5 ++ [Cell.lst M1] = s6 := ⟨_, rfl⟩
  have X6 : Ex s5 s6 := h6 ▸ Ex.push
  have n2 : s2.length ≠ m := Nat.ne_of_gt G2.stm.lt
  have g2 : getM s6 s2.length = some L1 := getM_lst (X6.get ((G4.trans G5).get n2 (h3 ▸ get_end)))
  have g5 : getM s6 s5.length = some M1 := getM_lst (h6 ▸ get_end)
  have lz : (L1 ++ M1).length ≤ sizeLine := size_small (by rw [← hL1, ← hM1]; exact (show (15 : Nat) ≤ 1000000 by decide))
  have z1 : L1.length ≤ sizeLine := size_small (by rw [← hL1]; exact (show (12 : Nat) ≤ 1000000 by decide))
  have z2 : M1.length ≤ sizeLine := size_small (by rw [← hM1]; exact (show (3 : Nat) ≤ 1000000 by decide))
  obtain ⟨s7, h7⟩ : ∃ s7, s6 ++ [Cell.lst (L1 ++ M1)] = s7 := ⟨_, rfl⟩
  have X7 : Ex s6 s7 := h7 ▸ Ex.push
  have e7 : newL (L1 ++ M1) s6 = .ok (.ref s6.length) s7 := by rw [newL, if_pos lz, h7]
  obtain ⟨D, hD⟩ : ∃ D, [PV.str (Str.ofString "#DIV"), .str (Str.ofString "#EMPTY"), .str (Str.ofString "#NUM"), .str (Str.ofString "#REF"), .str (Str.ofString "#SHAPE"), .str (Str.ofString "#SIZE"), .str (Str.ofString "#SPILL")] = D := ⟨_, rfl⟩
  have z3 : D.length ≤ sizeLine := size_small (by rw [← hD]; exact (show (7 : Nat) ≤ 1000000 by decide))
  obtain ⟨s8, h8⟩ : ∃ s8, s7 ++ [Cell.lst D] = s8 := ⟨_, rfl⟩
  have X8 : Ex s7 s8 := h8 ▸ Ex.push
  have G8 : Gx m st s8 := ((((G1.trans G2).trans (X3.gx G2.stm)).trans (G4.trans G5)).ex X6).ex (X7.trans X8)
  obtain ⟨v, s9, e9, v0, v1, G9, _⟩ := draw G8.stm (z := 5) (by decide) (by decide)
  have n6 : s6.length ≠ m := Nat.ne_of_gt (X6.stm G5.stm).lt
  have n7 : s7.length ≠ m := Nat.ne_of_gt (X7.stm (X6.stm G5.stm)).lt
  have k6 : getL s9 s6.length = some (L1 ++ M1) := getL_lst (G9.get n6 (X8.get (h7 ▸ get_end)))
  have k7 : getL s9 s7.length = some D := getL_lst (G9.get n7 (h8 ▸ get_end))
  have p9 : powOk 10 9 = true := by decide +kernel
  have cm : L2.CMul 2 1000000000 := .inl ⟨by decide, by decide⟩
  by_cases hv : v = 0
  · obtain ⟨x, s10, e10, hx, G10, _⟩ := choose G9.stm k7 n7 (by rw [← hD]; simp) (by rw [← hD]; exact (show (7 : Nat) < 1000000 by decide))
    refine ⟨x, s10, ?_, ?_, (G8.trans G9).trans G10⟩
    · simp [g_f_law_scalar_drawn, gOf, m_f_law_scalar_drawn, startS, mFn_ap, p9, ten9, e1, e2, hL1, h3, e4, cm, e5, hM1, h6, g2, g5, e7, hD, h8, e9, hv, e10, z1, z2, z3]
    · rw [← hD] at hx
      simp only [List.mem_cons, List.not_mem_nil, or_false] at hx
      rcases hx with rfl | rfl | rfl | rfl | rfl | rfl | rfl <;> exact .code (by decide +kernel)
  · obtain ⟨x, s10, e10, hx, G10, _⟩ := choose G9.stm k6 n6 (by rw [← hL1]; simp) (by rw [← hL1, ← hM1]; exact (show (15 : Nat) < 1000000 by decide))
    refine ⟨x, s10, ?_, ?_, (G8.trans G9).trans G10⟩
    · simp [g_f_law_scalar_drawn, gOf, m_f_law_scalar_drawn, startS, mFn_ap, p9, ten9, e1, e2, hL1, h3, e4, cm, e5, hM1, h6, g2, g5, e7, hD, h8, e9, hv, e10, z1, z2, z3]
    · rw [← hL1, ← hM1] at hx
      simp only [List.mem_append, List.mem_cons, List.not_mem_nil, or_false] at hx
      rcases hx with (rfl | rfl | rfl | rfl | rfl | rfl | rfl | rfl | rfl | rfl | rfl | rfl) | rfl | rfl | rfl <;> first | exact .blank | exact .num (by omega) (by omega)
end Ls

namespace K11e
open PySem Sm
abbrev N_f_law_floor : List Str := ["left", "right", "count"]
def m_f_law_floor : MS := (mSeq (mAsg (mOp fdivF (mCall absF (mCons (mVar 0) mNil)) (mCall absF (mCons (mVar 1) mNil))) (gNm 2))
    (mSeq (mIfS (mTest (mOp (eqF false) (mOp ltF (mVar 0) (mC (.int 0))) (mOp ltF (mVar 1) (mC (.int 0))))) (mRet (mVar 2)) mNext)
    (mRet (mOp subF (mOp subF (mC (.int 0)) (mVar 2)) (mCall intF (mCons (mOp (eqF true) (mOp mulF (mVar 2) (mCall absF (mCons (mVar 1) mNil))) (mCall absF (mCons (mVar 0) mNil))) mNil))))))
def g_f_law_floor : MC := gOf N_f_law_floor m_f_law_floor
abbrev N_f_law_expected : List Str := ["operator", "left", "right", "operand", "first", "second", "holds", "total"]
def L1_f_law_expected : MS := (mIfS (mTru (mIsi .str (mVar 3))) (mRet (mVar 3)) mNext)
def m_f_law_expected : MS := (mSeq (mFor (mItL (mLst (mCons (mVar 1) (mCons (mVar 2) mNil)))) (gNm 3) L1_f_law_expected)
    (mSeq (mPar 4 5 (mCons (mOrX (mVar 1) (mC (.int 0))) (mCons (mOrX (mVar 2) (mC (.int 0))) mNil)))
    (mSeq (mIfS (mTest (mOp (inF false) (mVar 0) (mTup (mCons (mC (.str (Str.ofString "<"))) (mCons (mC (.str (Str.ofString "<="))) (mCons (mC (.str (Str.ofString "="))) mNil)))))) (mSeq (mAsg (mOp dixF (mDict (((mC (.str (Str.ofString "<"))), (mOp ltF (mVar 4) (mVar 5))) :: (((mC (.str (Str.ofString "<="))), (mOrV (mOp ltF (mVar 4) (mVar 5)) (mOp (eqF false) (mVar 4) (mVar 5)))) :: (((mC (.str (Str.ofString "="))), (mOp (eqF false) (mVar 4) (mVar 5))) :: [])))) (mVar 0)) (gNm 6))
    (mRet (mCall intF (mCons (mVar 6) mNil)))) mNext)
    (mSeq (mIfS (mTest (mOp (eqF false) (mVar 0) (mC (.str (Str.ofString "/"))))) (mSeq (mIfS (mTest (mOp (eqF false) (mVar 5) (mC (.int 0)))) (mRet (mC (.str (Str.ofString "#DIV")))) mNext)
    (mRet (mFn 2 g_f_law_floor (mCons (mVar 4) (mCons (mVar 5) mNil))))) mNext)
    (mSeq (mAsg (mOp dixF (mDict (((mC (.str (Str.ofString "+"))), (mOp addF (mVar 4) (mVar 5))) :: (((mC (.str (Str.ofString "-"))), (mOp subF (mVar 4) (mVar 5))) :: (((mC (.str (Str.ofString "*"))), (mOp mulF (mVar 4) (mVar 5))) :: [])))) (mVar 0)) (gNm 7))
    (mSeq (mIfS (mTest (mOp gtF (mCall absF (mCons (mVar 7) mNil)) (mOp powF (mC (.int 10)) (mC (.int 9))))) (mRet (mC (.str (Str.ofString "#NUM")))) mNext)
    (mRet (mVar 7))))))))
def g_f_law_expected : MC := gOf N_f_law_expected m_f_law_expected
end K11e

namespace Sm
open PySem L2
section
variable {σ : Slots} {st : Store}
@[simp] theorem abs_int {i : Int} : absF [.int i] st = .ok (.int (if i < 0 then -i else i)) st := rfl
@[simp] theorem mPairs_nil : mPairs [] σ st = .ok [] st := rfl
@[simp] theorem mPairs_cons {a b : ME} {r : List (ME × ME)} : mPairs ((a, b) :: r) σ st = (a σ st).bind fun x s1 => (b σ s1).bind fun y s2 => (mPairs r σ s2).bind fun ps s3 => match keyP x with
    | some k => .ok ((k, y) :: ps) s3
    | none => .no := rfl
@[simp] theorem keyP_str {s : Str} : keyP (.str s) = some (.inr s) := rfl
@[simp] theorem keyP_int {i : Int} : keyP (.int i) = some (.inl i) := rfl
/-- three entries, then one of them -/
theorem put3 {k1 k2 k3 : Key} {a b c : PV} (h12 : k1 ≠ k2) (h13 : k1 ≠ k3) (h23 : k2 ≠ k3) : mergeP [] [(k1, a), (k2, b), (k3, c)] = [(k1, a), (k2, b), (k3, c)] := by
  have h21 : ¬ k1 = k2 := h12
  have h31 : ¬ k1 = k3 := h13
  have h32 : ¬ k2 = k3 := h23
  simp [mergeP, putP, h21, h31, h32]
theorem dict_ap {ms : List (ME × ME)} {kvs out : List (Key × PV)} (h : mPairs ms σ (st ++ [.dk []]) = .ok kvs (st ++ [.dk []])) (hl : kvs.length ≤ 15) (hm : mergeP [] kvs = out) : mDict ms σ st = .ok (.ref st.length) (st ++ [.dk out]) := by
  unfold mDict
  rw [h]
  show (match getK (st ++ [Cell.dk []]) st.length with | some [] => _ | _ => _) = _
  rw [getK_dk (by simp : (st ++ [Cell.dk []])[st.length]? = some (.dk []))]
  dsimp only
  rw [if_pos hl, hm, set_end]
theorem dix_ap {n : Nat} {kvs : List (Key × PV)} {k : Key} {x z : PV} (h : st[n]? = some (.dk kvs)) (hk : keyP x = some k) (hv : valP kvs k = some z) : dixF (.ref n) x st = .ok z st := by
  unfold dixF
  rw [hk]
  dsimp only
  rw [getK_dk h]
  show (match valP kvs k with | some z => _ | none => _) = _
  rw [hv]
end
end Sm
namespace K11e
open PySem Sm Lw Ls
theorem neg_div {A B : Int} (hB : 0 < B) : (-A) / B = 0 - A / B - (if (A / B) * B = A then 0 else 1) := by
  have h := Int.mul_ediv_add_emod A B
  have h0 := Int.emod_nonneg A (show B ≠ 0 by omega)
  have h1 := Int.emod_lt_of_pos A hB
  generalize A / B = c at *
  generalize A % B = m at *
  by_cases hm : m = 0
  · have e : c * B = A := by rw [Int.mul_comm]; omega
    rw [if_pos e]
    refine ((Int.ediv_emod_unique hB (r := 0)).mpr ⟨?_, by omega, hB⟩).1
    rw [show 0 - c - 0 = -c by omega, Int.mul_neg]
    omega
  · have e : ¬ c * B = A := by rw [Int.mul_comm]; omega
    rw [if_neg e]
    refine ((Int.ediv_emod_unique hB (r := B - m)).mpr ⟨?_, by omega, by omega⟩).1
    rw [show 0 - c - 1 = -c - 1 by omega, Int.mul_sub, Int.mul_neg]
    omega
def ab (i : Int) : Int := if i < 0 then -i else i
theorem ab_lt {i : Int} (h : -1000000000 ≤ i ∧ i ≤ 1000000000) : 0 ≤ ab i ∧ ab i ≤ 1000000000 := by unfold ab; split <;> omega
theorem floor_eq {i j : Int} (hj : j ≠ 0) : i.fdiv j = if decide (i < 0) = decide (j < 0) then ab i / ab j else 0 - ab i / ab j - (if (ab i / ab j) * ab j = ab i then 0 else 1) := by
  unfold ab
  by_cases hi : i < 0 <;> by_cases hj' : j < 0
  · simp only [hi, hj', if_true]
    rw [← Int.neg_fdiv_neg, Int.fdiv_eq_ediv_of_nonneg _ (by omega)]
  · simp only [hi, hj', if_true, if_false, decide_true, decide_false, Bool.true_eq_false]
    rw [← neg_div (by omega : 0 < j), Int.neg_neg, Int.fdiv_eq_ediv_of_nonneg _ (by omega)]
  · simp only [hi, hj', if_true, if_false, decide_true, decide_false, Bool.false_eq_true]
    rw [← neg_div (by omega : 0 < -j), ← Int.neg_fdiv_neg, Int.fdiv_eq_ediv_of_nonneg _ (by omega)]
  · simp only [hi, hj', if_false, if_true]
    rw [Int.fdiv_eq_ediv_of_nonneg _ (by omega)]
theorem floor_ap {st : Store} {i j : Int} (hi : -1000000000 ≤ i ∧ i ≤ 1000000000) (hj : -1000000000 ≤ j ∧ j ≤ 1000000000) (h0 : j ≠ 0) : g_f_law_floor [.int i, .int j] st = .ok (.int (i.fdiv j)) st := by
  have ai := ab_lt hi
  have aj := ab_lt hj
  have aj0 : 0 < ab j := by unfold ab; split <;> omega
  have fd : (ab i).fdiv (ab j) = ab i / ab j := Int.fdiv_eq_ediv_of_nonneg _ (by omega)
  have cd : L2.CDivN (ab i) (ab j) := ⟨by omega, by omega⟩
  have q0 : 0 ≤ ab i / ab j := Int.ediv_nonneg ai.1 aj.1
  have q1 : ab i / ab j ≤ ab i := Int.ediv_le_self _ ai.1
  have cm : L2.CMul (ab i / ab j) (ab j) := .inl ⟨by omega, by omega⟩
  have e1 : (if i < 0 then -i else i) = ab i := rfl
  have e2 : (if j < 0 then -j else j) = ab j := rfl
  rw [floor_eq h0]
  generalize ab i = A at *
  generalize ab j = B at *
  by_cases hs : decide (i < 0) = decide (j < 0)
  · rw [if_pos hs]
    simp [g_f_law_floor, gOf, m_f_law_floor, startS, e1, e2, cd, fd, hs]
  · rw [if_neg hs]
    by_cases hc : A / B * B = A
    · simp [g_f_law_floor, gOf, m_f_law_floor, startS, e1, e2, cd, fd, hs, cm, hc]
    · simp [g_f_law_floor, gOf, m_f_law_floor, startS, e1, e2, cd, fd, hs, cm, hc]
end K11e

namespace K05
open PySem PySem.Spec PyProof.Rows L2 Sm
/-! ### the text -/
def topS (i : Nat) : Stmt := PySem.Challenge.pw_spillsheet_k05_what_is_an_expression.main.body.getD i (.Pass ⟨0, 0, 0, 0⟩)
abbrev s_f_is_integer_between : Stmt := topS 2
abbrev N_f_is_integer_between : List Str := ["value", "least", "most"]
abbrev p_f_is_integer_between : List Str := ["value", "least", "most"]
theorem sc_f_is_integer_between : FnScope N_f_is_integer_between p_f_is_integer_between (defScope s_f_is_integer_between) := ⟨rfl, rfl, rfl, by decide +kernel, rfl, by decide +kernel, by decide +kernel⟩
def m_f_is_integer_between : MS := (mRet (mAndV (mIsi .int (mVar 0)) (mAndV (mNotV (mIsi .bl (mVar 0))) (mChain leF leF (mVar 1) (mVar 0) (mVar 2)))))
def g_f_is_integer_between : MC := gOf N_f_is_integer_between m_f_is_integer_between
abbrev s_f_is_index : Stmt := topS 5
abbrev N_f_is_index : List Str := ["value"]
abbrev p_f_is_index : List Str := ["value"]
theorem sc_f_is_index : FnScope N_f_is_index p_f_is_index (defScope s_f_is_index) := ⟨rfl, rfl, rfl, by decide +kernel, rfl, by decide +kernel, by decide +kernel⟩
def m_f_is_index : MS := (mRet (mFn 3 g_f_is_integer_between (mCons (mVar 0) (mCons (mC (.int 0)) (mCons (mOp subF (mC (.int (12))) (mC (.int 1))) mNil)))))
def g_f_is_index : MC := gOf N_f_is_index m_f_is_index
abbrev s_f_is_cell : Stmt := topS 6
abbrev N_f_is_cell : List Str := ["value", "part"]
abbrev p_f_is_cell : List Str := ["value"]
theorem sc_f_is_cell : FnScope N_f_is_cell p_f_is_cell (defScope s_f_is_cell) := ⟨rfl, rfl, rfl, by decide +kernel, rfl, by decide +kernel, by decide +kernel⟩
def m_f_is_cell : MS := (mRet (mAndV (mIsi .tup (mVar 0)) (mAndV (mOp (eqF false) (mCall lenF (mCons (mVar 0) mNil)) (mC (.int 2))) (mCall allF (mCons (mLc (mItT (mVar 0)) (gNm 1) mYes (mFn 1 g_f_is_index (mCons (mVar 1) mNil)) [1]) mNil)))))
def g_f_is_cell : MC := gOf N_f_is_cell m_f_is_cell
abbrev s_f_is_area : Stmt := topS 7
abbrev N_f_is_area : List Str := ["value", "part", "top", "left", "bottom", "right"]
abbrev p_f_is_area : List Str := ["value"]
theorem sc_f_is_area : FnScope N_f_is_area p_f_is_area (defScope s_f_is_area) := ⟨rfl, rfl, rfl, by decide +kernel, rfl, by decide +kernel, by decide +kernel⟩
def m_f_is_area : MS := (mSeq (mIfS (mOrT (mNotT (mTru (mIsi .tup (mVar 0)))) (mOrT (mTest (mOp (eqF true) (mCall lenF (mCons (mVar 0) mNil)) (mC (.int 4)))) (mNotT (mTru (mCall allF (mCons (mLc (mItT (mVar 0)) (gNm 1) mYes (mFn 1 g_f_is_index (mCons (mVar 1) mNil)) [1]) mNil)))))) (mRet (mC (.bl false))) mNext)
    (mSeq (mAsg (mVar 0) (gTp 4 (gCons (gNm 2) (gCons (gNm 3) (gCons (gNm 4) (gCons (gNm 5) gNil))))))
    (mRet (mAndV (mOp leF (mVar 2) (mVar 4)) (mOp leF (mVar 3) (mVar 5))))))
def g_f_is_area : MC := gOf N_f_is_area m_f_is_area
abbrev s_f_subexpressions_of : Stmt := topS 13
abbrev N_f_subexpressions_of : List Str := ["expression", "kind"]
abbrev p_f_subexpressions_of : List Str := ["expression"]
theorem sc_f_subexpressions_of : FnScope N_f_subexpressions_of p_f_subexpressions_of (defScope s_f_subexpressions_of) := ⟨rfl, rfl, rfl, by decide +kernel, rfl, by decide +kernel, by decide +kernel⟩
def m_f_subexpressions_of : MS := (mSeq (mAsg (mOp ixF (mVar 0) (mC (.int 0))) (gNm 1))
    (mSeq (mIfS (mTest (mOp (eqF false) (mVar 1) (mC (.str (Str.ofString "negate"))))) (mRet (mLst (mCons (mOp ixF (mVar 0) (mC (.int 1))) mNil))) mNext)
    (mSeq (mIfS (mTest (mOp (eqF false) (mVar 1) (mC (.str (Str.ofString "binary"))))) (mRet (mLst (mCons (mOp ixF (mVar 0) (mC (.int 2))) (mCons (mOp ixF (mVar 0) (mC (.int 3))) mNil)))) mNext)
    (mSeq (mIfS (mTest (mOp (eqF false) (mVar 1) (mC (.str (Str.ofString "call"))))) (mRet (mCall listF (mCons (mOp ixF (mVar 0) (mC (.int 2))) mNil))) mNext)
    (mRet (mLst mNil))))))
def g_f_subexpressions_of : MC := gOf N_f_subexpressions_of m_f_subexpressions_of
abbrev s_f_one_level_deeper : Stmt := topS 14
abbrev N_f_one_level_deeper : List Str := ["level", "expression", "part"]
abbrev p_f_one_level_deeper : List Str := ["level"]
theorem sc_f_one_level_deeper : FnScope N_f_one_level_deeper p_f_one_level_deeper (defScope s_f_one_level_deeper) := ⟨rfl, rfl, rfl, by decide +kernel, rfl, by decide +kernel, by decide +kernel⟩
def m_f_one_level_deeper : MS := (mRet (mLc2 (mItL (mVar 0)) (gNm 1) mYes (mItL (mFn 1 g_f_subexpressions_of (mCons (mVar 1) mNil))) (gNm 2) mYes (mVar 2) [1, 2] [2]))
def g_f_one_level_deeper : MC := gOf N_f_one_level_deeper m_f_one_level_deeper
abbrev s_f_takes_arguments : Stmt := topS 16
abbrev N_f_takes_arguments : List Str := ["name", "arguments"]
abbrev p_f_takes_arguments : List Str := ["name", "arguments"]
theorem sc_f_takes_arguments : FnScope N_f_takes_arguments p_f_takes_arguments (defScope s_f_takes_arguments) := ⟨rfl, rfl, rfl, by decide +kernel, rfl, by decide +kernel, by decide +kernel⟩
def m_f_takes_arguments : MS := (mSeq (mIfS (mOrT (mNotT (mTru (mIsi .str (mVar 0)))) (mNotT (mTru (mIsi .tup (mVar 1))))) (mRet (mC (.bl false))) mNext)
    (mRet (mOp (inF false) (mCall lenF (mCons (mVar 1) mNil)) (mKget [(Str.ofString "SUM", .tup [.int (1)]), (Str.ofString "COUNT", .tup [.int (1)]), (Str.ofString "MAX", .tup [.int (1)]), (Str.ofString "MIN", .tup [.int (1)]), (Str.ofString "ROWS", .tup [.int (1)]), (Str.ofString "COLUMNS", .tup [.int (1)]), (Str.ofString "TRANSPOSE", .tup [.int (1)]), (Str.ofString "SORT", .tup [.int (1)]), (Str.ofString "SEQ", .tup [.int (1), .int (2)]), (Str.ofString "IFERROR", .tup [.int (2)]), (Str.ofString "FILTER", .tup [.int (2)]), (Str.ofString "TAKE", .tup [.int (2)]), (Str.ofString "DROP", .tup [.int (2)]), (Str.ofString "STACK", .tup [.int (2)]), (Str.ofString "BESIDE", .tup [.int (2)]), (Str.ofString "IF", .tup [.int (3)]), (Str.ofString "INDEX", .tup [.int (3)])] (mVar 0) (mTup mNil)))))
def g_f_takes_arguments : MC := gOf N_f_takes_arguments m_f_takes_arguments
abbrev s_f_is_well_formed : Stmt := topS 15
abbrev N_f_is_well_formed : List Str := ["value", "kind", "fields"]
abbrev p_f_is_well_formed : List Str := ["value"]
theorem sc_f_is_well_formed : FnScope N_f_is_well_formed p_f_is_well_formed (defScope s_f_is_well_formed) := ⟨rfl, rfl, rfl, by decide +kernel, rfl, by decide +kernel, by decide +kernel⟩
def m_f_is_well_formed : MS := (mSeq (mIfS (mOrT (mNotT (mTru (mIsi .tup (mVar 0)))) (mTest (mOp eqT (mCall lenF (mCons (mVar 0) mNil)) (mC (.int 0))))) (mRet (mC (.bl false))) mNext)
    (mSeq (mAsg (mOp ixF (mVar 0) (mC (.int 0))) (gNm 1))
    (mSeq (mAsg (mSl (mVar 0) (some (mC (.int 1))) none) (gNm 2))
    (mSeq (mIfS (mTest (mOp eqT (mVar 1) (mC (.str (Str.ofString "number"))))) (mRet (mAndV (mOp eqT (mCall lenF (mCons (mVar 2) mNil)) (mC (.int 1))) (mFn 3 g_f_is_integer_between (mCons (mOp ixF (mVar 2) (mC (.int 0))) (mCons (mC (.int 0)) (mCons (mC (.int (1000000000))) mNil)))))) mNext)
    (mSeq (mIfS (mOrT (mTest (mOp eqT (mVar 1) (mC (.str (Str.ofString "cell"))))) (mTest (mOp eqT (mVar 1) (mC (.str (Str.ofString "spill")))))) (mRet (mFn 1 g_f_is_cell (mCons (mVar 2) mNil))) mNext)
    (mSeq (mIfS (mTest (mOp eqT (mVar 1) (mC (.str (Str.ofString "range"))))) (mRet (mFn 1 g_f_is_area (mCons (mVar 2) mNil))) mNext)
    (mSeq (mIfS (mTest (mOp eqT (mVar 1) (mC (.str (Str.ofString "badref"))))) (mRet (mOp eqT (mCall lenF (mCons (mVar 2) mNil)) (mC (.int 0)))) mNext)
    (mSeq (mIfS (mTest (mOp eqT (mVar 1) (mC (.str (Str.ofString "negate"))))) (mRet (mOp eqT (mCall lenF (mCons (mVar 2) mNil)) (mC (.int 1)))) mNext)
    (mSeq (mIfS (mTest (mOp eqT (mVar 1) (mC (.str (Str.ofString "binary"))))) (mRet (mAndV (mOp eqT (mCall lenF (mCons (mVar 2) mNil)) (mC (.int 3))) (mOp inT (mOp ixF (mVar 2) (mC (.int 0))) (mC (.tup [.str (Str.ofString "+"), .str (Str.ofString "-"), .str (Str.ofString "*"), .str (Str.ofString "/"), .str (Str.ofString "<"), .str (Str.ofString "<="), .str (Str.ofString "=")]))))) mNext)
    (mRet (mAndV (mOp eqT (mVar 1) (mC (.str (Str.ofString "call")))) (mAndV (mOp eqT (mCall lenF (mCons (mVar 2) mNil)) (mC (.int 2))) (mFn 2 g_f_takes_arguments (mCons (mOp ixF (mVar 2) (mC (.int 0))) (mCons (mOp ixF (mVar 2) (mC (.int 1))) mNil)))))))))))))))
def g_f_is_well_formed : MC := gOf N_f_is_well_formed m_f_is_well_formed
abbrev s_f_is_expression : Stmt := topS 12
abbrev N_f_is_expression : List Str := ["value", "level", "_", "part"]
abbrev p_f_is_expression : List Str := ["value"]
theorem sc_f_is_expression : FnScope N_f_is_expression p_f_is_expression (defScope s_f_is_expression) := ⟨rfl, rfl, rfl, by decide +kernel, rfl, by decide +kernel, by decide +kernel⟩
def L1_f_is_expression : MS := (mSeq (mIfS (mNotT (mTru (mCall allF (mCons (mLc (mItL (mVar 1)) (gNm 3) mYes (mFn 1 g_f_is_well_formed (mCons (mVar 3) mNil)) [3]) mNil)))) (mRet (mC (.bl false))) mNext)
    (mAsg (mFn 1 g_f_one_level_deeper (mCons (mVar 1) mNil)) (gNm 1)))
def m_f_is_expression : MS := (mSeq (mAsg (mLst (mCons (mVar 0) mNil)) (gNm 1))
    (mSeq (mFor (mItR1 (mCons (mC (.int (12))) mNil)) (gNm 2) L1_f_is_expression)
    (mRet (mOp (eqF false) (mCall lenF (mCons (mVar 1) mNil)) (mC (.int 0))))))
def g_f_is_expression : MC := gOf N_f_is_expression m_f_is_expression
abbrev s_f_law_stream : Stmt := topS 18
abbrev N_f_law_stream : List Str := ["script", "start", "seed", "number", "digits"]
abbrev p_f_law_stream : List Str := ["script", "start"]
theorem sc_f_law_stream : FnScope N_f_law_stream p_f_law_stream (defScope s_f_law_stream) := ⟨rfl, rfl, rfl, by decide +kernel, rfl, by decide +kernel, by decide +kernel⟩
abbrev s_f_law_draw : Stmt := topS 19
abbrev N_f_law_draw : List Str := ["stream", "size", "found"]
abbrev p_f_law_draw : List Str := ["stream", "size"]
theorem sc_f_law_draw : FnScope N_f_law_draw p_f_law_draw (defScope s_f_law_draw) := ⟨rfl, rfl, rfl, by decide +kernel, rfl, by decide +kernel, by decide +kernel⟩
abbrev s_f_law_choose : Stmt := topS 20
abbrev N_f_law_choose : List Str := ["stream", "items"]
abbrev p_f_law_choose : List Str := ["stream", "items"]
theorem sc_f_law_choose : FnScope N_f_law_choose p_f_law_choose (defScope s_f_law_choose) := ⟨rfl, rfl, rfl, by decide +kernel, rfl, by decide +kernel, by decide +kernel⟩
abbrev s_f_law_cell : Stmt := topS 21
abbrev N_f_law_cell : List Str := ["stream", "rows", "columns"]
abbrev p_f_law_cell : List Str := ["stream", "rows", "columns"]
theorem sc_f_law_cell : FnScope N_f_law_cell p_f_law_cell (defScope s_f_law_cell) := ⟨rfl, rfl, rfl, by decide +kernel, rfl, by decide +kernel, by decide +kernel⟩
abbrev s_f_law_area : Stmt := topS 22
abbrev N_f_law_area : List Str := ["stream", "rows", "columns", "top", "left"]
abbrev p_f_law_area : List Str := ["stream", "rows", "columns"]
theorem sc_f_law_area : FnScope N_f_law_area p_f_law_area (defScope s_f_law_area) := ⟨rfl, rfl, rfl, by decide +kernel, rfl, by decide +kernel, by decide +kernel⟩
abbrev s_f_law_reference : Stmt := topS 23
abbrev N_f_law_reference : List Str := ["stream", "rows", "columns", "kind"]
abbrev p_f_law_reference : List Str := ["stream", "rows", "columns"]
theorem sc_f_law_reference : FnScope N_f_law_reference p_f_law_reference (defScope s_f_law_reference) := ⟨rfl, rfl, rfl, by decide +kernel, rfl, by decide +kernel, by decide +kernel⟩
abbrev s_f_law_array : Stmt := topS 24
abbrev N_f_law_array : List Str := ["stream", "rows", "columns", "depth", "kind", "sizes", "first", "operator", "second"]
abbrev p_f_law_array : List Str := ["stream", "rows", "columns", "depth"]
theorem sc_f_law_array : FnScope N_f_law_array p_f_law_array (defScope s_f_law_array) := ⟨rfl, rfl, rfl, by decide +kernel, rfl, by decide +kernel, by decide +kernel⟩
abbrev s_f_law_scalar : Stmt := topS 25
abbrev N_f_law_scalar : List Str := ["stream", "rows", "columns", "depth", "kind", "first", "operator", "name", "places"]
abbrev p_f_law_scalar : List Str := ["stream", "rows", "columns", "depth"]
theorem sc_f_law_scalar : FnScope N_f_law_scalar p_f_law_scalar (defScope s_f_law_scalar) := ⟨rfl, rfl, rfl, by decide +kernel, rfl, by decide +kernel, by decide +kernel⟩
abbrev s_f_law_formula : Stmt := topS 26
abbrev N_f_law_formula : List Str := ["stream", "rows", "columns", "depth"]
abbrev p_f_law_formula : List Str := ["stream", "rows", "columns", "depth"]
theorem sc_f_law_formula : FnScope N_f_law_formula p_f_law_formula (defScope s_f_law_formula) := ⟨rfl, rfl, rfl, by decide +kernel, rfl, by decide +kernel, by decide +kernel⟩
abbrev s_f_law_integer : Stmt := topS 29
abbrev N_f_law_integer : List Str := ["value", "least", "most"]
abbrev p_f_law_integer : List Str := ["value", "least", "most"]
theorem sc_f_law_integer : FnScope N_f_law_integer p_f_law_integer (defScope s_f_law_integer) := ⟨rfl, rfl, rfl, by decide +kernel, rfl, by decide +kernel, by decide +kernel⟩
def m_f_law_integer : MS := (mRet (mAndV (mIsi .int (mVar 0)) (mAndV (mNotV (mIsi .bl (mVar 0))) (mChain leF leF (mVar 1) (mVar 0) (mVar 2)))))
def g_f_law_integer : MC := gOf N_f_law_integer m_f_law_integer
abbrev s_f_law_cell_right : Stmt := topS 30
abbrev N_f_law_cell_right : List Str := ["parts"]
abbrev p_f_law_cell_right : List Str := ["parts"]
theorem sc_f_law_cell_right : FnScope N_f_law_cell_right p_f_law_cell_right (defScope s_f_law_cell_right) := ⟨rfl, rfl, rfl, by decide +kernel, rfl, by decide +kernel, by decide +kernel⟩
def m_f_law_cell_right : MS := (mRet (mAndV (mOp (eqF false) (mCall lenF (mCons (mVar 0) mNil)) (mC (.int 2))) (mAndX (mFn 3 g_f_law_integer (mCons (mOp ixF (mVar 0) (mC (.int 0))) (mCons (mC (.int 0)) (mCons (mC (.int 11)) mNil)))) (mFn 3 g_f_law_integer (mCons (mOp ixF (mVar 0) (mC (.int 1))) (mCons (mC (.int 0)) (mCons (mC (.int 11)) mNil)))))))
def g_f_law_cell_right : MC := gOf N_f_law_cell_right m_f_law_cell_right
abbrev s_f_law_due : Stmt := topS 31
abbrev N_f_law_due : List Str := ["value", "depth", "kind", "parts"]
abbrev p_f_law_due : List Str := ["value", "depth"]
theorem sc_f_law_due : FnScope N_f_law_due p_f_law_due (defScope s_f_law_due) := ⟨rfl, rfl, rfl, by decide +kernel, rfl, by decide +kernel, by decide +kernel⟩
abbrev s_f_law_call_right : Stmt := topS 32
abbrev N_f_law_call_right : List Str := ["parts", "depth", "counts", "name", "part"]
abbrev p_f_law_call_right : List Str := ["parts", "depth"]
theorem sc_f_law_call_right : FnScope N_f_law_call_right p_f_law_call_right (defScope s_f_law_call_right) := ⟨rfl, rfl, rfl, by decide +kernel, rfl, by decide +kernel, by decide +kernel⟩
def m_f_law_due (r_f_law_due r_f_law_call_right : MC) : MS := (mSeq (mIfS (mOrT (mNotT (mTru (mIsi .tup (mVar 0)))) (mOrT (mTest (mOp eqT (mCall lenF (mCons (mVar 0) mNil)) (mC (.int 0)))) (mOrT (mNotT (mTru (mIsi .str (mOp ixF (mVar 0) (mC (.int 0)))))) (mTest (mOp eqT (mVar 1) (mC (.int 0))))))) (mRet (mC (.bl false))) mNext)
    (mSeq (mPar 2 3 (mCons (mOp ixF (mVar 0) (mC (.int 0))) (mCons (mSl (mVar 0) (some (mC (.int 1))) none) mNil)))
    (mSeq (mIfS (mTest (mOp eqT (mVar 2) (mC (.str (Str.ofString "number"))))) (mRet (mAndV (mOp eqT (mCall lenF (mCons (mVar 3) mNil)) (mC (.int 1))) (mFn 3 g_f_law_integer (mCons (mOp ixF (mVar 3) (mC (.int 0))) (mCons (mC (.int 0)) (mCons (mOp powF (mC (.int 10)) (mC (.int 9))) mNil)))))) mNext)
    (mSeq (mIfS (mTest (mOp inT (mVar 2) (mTup (mCons (mC (.str (Str.ofString "cell"))) (mCons (mC (.str (Str.ofString "spill"))) mNil))))) (mRet (mFn 1 g_f_law_cell_right (mCons (mVar 3) mNil))) mNext)
    (mSeq (mIfS (mTest (mOp eqT (mVar 2) (mC (.str (Str.ofString "range"))))) (mSeq (mIfS (mOrT (mTest (mOp (eqF true) (mCall lenF (mCons (mVar 3) mNil)) (mC (.int 4)))) (mOrT (mNotT (mTru (mFn 1 g_f_law_cell_right (mCons (mSl (mVar 3) none (some (mC (.int 2)))) mNil)))) (mNotT (mTru (mFn 1 g_f_law_cell_right (mCons (mSl (mVar 3) (some (mC (.int 2))) none) mNil)))))) (mRet (mC (.bl false))) mNext)
    (mRet (mAndV (mOp leF (mOp ixF (mVar 3) (mC (.int 0))) (mOp ixF (mVar 3) (mC (.int 2)))) (mOp leF (mOp ixF (mVar 3) (mC (.int 1))) (mOp ixF (mVar 3) (mC (.int 3))))))) mNext)
    (mSeq (mIfS (mTest (mOp eqT (mVar 2) (mC (.str (Str.ofString "badref"))))) (mRet (mOp eqT (mVar 3) (mTup mNil))) mNext)
    (mSeq (mIfS (mTest (mOp eqT (mVar 2) (mC (.str (Str.ofString "negate"))))) (mRet (mAndV (mOp eqT (mCall lenF (mCons (mVar 3) mNil)) (mC (.int 1))) (mFn 2 r_f_law_due (mCons (mOp ixF (mVar 3) (mC (.int 0))) (mCons (mOp subF (mVar 1) (mC (.int 1))) mNil))))) mNext)
    (mSeq (mIfS (mTest (mOp eqT (mVar 2) (mC (.str (Str.ofString "binary"))))) (mSeq (mIfS (mOrT (mTest (mOp (eqF true) (mCall lenF (mCons (mVar 3) mNil)) (mC (.int 3)))) (mNotT (mTru (mIsi .str (mOp ixF (mVar 3) (mC (.int 0))))))) (mRet (mC (.bl false))) mNext)
    (mSeq (mIfS (mTest (mOp (inF true) (mOp ixF (mVar 3) (mC (.int 0))) (mTup (mCons (mC (.str (Str.ofString "+"))) (mCons (mC (.str (Str.ofString "-"))) (mCons (mC (.str (Str.ofString "*"))) (mCons (mC (.str (Str.ofString "/"))) (mCons (mC (.str (Str.ofString "<"))) (mCons (mC (.str (Str.ofString "<="))) (mCons (mC (.str (Str.ofString "="))) mNil)))))))))) (mRet (mC (.bl false))) mNext)
    (mRet (mAndX (mFn 2 r_f_law_due (mCons (mOp ixF (mVar 3) (mC (.int 1))) (mCons (mOp subF (mVar 1) (mC (.int 1))) mNil))) (mFn 2 r_f_law_due (mCons (mOp ixF (mVar 3) (mC (.int 2))) (mCons (mOp subF (mVar 1) (mC (.int 1))) mNil))))))) mNext)
    (mRet (mAndV (mOp eqT (mVar 2) (mC (.str (Str.ofString "call")))) (mFn 2 r_f_law_call_right (mCons (mVar 3) (mCons (mVar 1) mNil)))))))))))))
def L1_f_law_call_right (r_f_law_due r_f_law_call_right : MC) : MS := (mDput (mVar 2) (mVar 3) (mTup (mCons (mC (.int 1)) mNil)))
def L2_f_law_call_right (r_f_law_due r_f_law_call_right : MC) : MS := (mDput (mVar 2) (mVar 3) (mTup (mCons (mC (.int 2)) mNil)))
def m_f_law_call_right (r_f_law_due r_f_law_call_right : MC) : MS := (mSeq (mAsg (mDict (((mC (.str (Str.ofString "SEQ"))), (mTup (mCons (mC (.int 1)) (mCons (mC (.int 2)) mNil)))) :: (((mC (.str (Str.ofString "IF"))), (mTup (mCons (mC (.int 3)) mNil))) :: (((mC (.str (Str.ofString "INDEX"))), (mTup (mCons (mC (.int 3)) mNil))) :: [])))) (gNm 2))
    (mSeq (mFor (mItL (mLst (mCons (mC (.str (Str.ofString "SUM"))) (mCons (mC (.str (Str.ofString "COUNT"))) (mCons (mC (.str (Str.ofString "MAX"))) (mCons (mC (.str (Str.ofString "MIN"))) (mCons (mC (.str (Str.ofString "ROWS"))) (mCons (mC (.str (Str.ofString "COLUMNS"))) (mCons (mC (.str (Str.ofString "TRANSPOSE"))) (mCons (mC (.str (Str.ofString "SORT"))) mNil)))))))))) (gNm 3) (L1_f_law_call_right r_f_law_due r_f_law_call_right))
    (mSeq (mFor (mItL (mLst (mCons (mC (.str (Str.ofString "IFERROR"))) (mCons (mC (.str (Str.ofString "FILTER"))) (mCons (mC (.str (Str.ofString "TAKE"))) (mCons (mC (.str (Str.ofString "DROP"))) (mCons (mC (.str (Str.ofString "STACK"))) (mCons (mC (.str (Str.ofString "BESIDE"))) mNil)))))))) (gNm 3) (L2_f_law_call_right r_f_law_due r_f_law_call_right))
    (mSeq (mIfS (mOrT (mTest (mOp (eqF true) (mCall lenF (mCons (mVar 0) mNil)) (mC (.int 2)))) (mOrT (mNotT (mTru (mIsi .str (mOp ixF (mVar 0) (mC (.int 0)))))) (mNotT (mTru (mIsi .tup (mOp ixF (mVar 0) (mC (.int 1)))))))) (mRet (mC (.bl false))) mNext)
    (mSeq (mIfS (mTest (mOp (inF true) (mCall lenF (mCons (mOp ixF (mVar 0) (mC (.int 1))) mNil)) (mGet (mVar 2) (mOp ixF (mVar 0) (mC (.int 0))) (mTup mNil)))) (mRet (mC (.bl false))) mNext)
    (mRet (mOp eqT (mLc (mItT (mOp ixF (mVar 0) (mC (.int 1)))) (gNm 4) (mNotT (mTru (mFn 2 r_f_law_due (mCons (mVar 4) (mCons (mOp subF (mVar 1) (mC (.int 1))) mNil))))) (mVar 4) [4]) (mLst mNil))))))))
mutual
def g_f_law_due : Nat → MC
  | 0 => fun _ _ => .no
  | n + 1 => gOf N_f_law_due (m_f_law_due (g_f_law_due n) (g_f_law_call_right n))
def g_f_law_call_right : Nat → MC
  | 0 => fun _ _ => .no
  | n + 1 => gOf N_f_law_call_right (m_f_law_call_right (g_f_law_due n) (g_f_law_call_right n))
end
abbrev s_f_law_other : Stmt := topS 33
abbrev N_f_law_other : List Str := ["stream", "some"]
abbrev p_f_law_other : List Str := ["stream"]
theorem sc_f_law_other : FnScope N_f_law_other p_f_law_other (defScope s_f_law_other) := ⟨rfl, rfl, rfl, by decide +kernel, rfl, by decide +kernel, by decide +kernel⟩
def m_f_law_other : MS := (mSeq (mAsg (mLst (mCons (mC .non) (mCons (mC (.bl true)) (mCons (mC (.bl false)) (mCons (mC (.int 0)) (mCons (mC (.int 1)) (mCons (mC (.int 11)) (mCons (mC (.int 12)) (mCons (mUn negF (mC (.int 1))) (mCons (mOp powF (mC (.int 10)) (mC (.int 9))) (mCons (mOp addF (mOp powF (mC (.int 10)) (mC (.int 9))) (mC (.int 1))) (mCons (mC (.str (Str.ofString ""))) (mCons (mC (.str (Str.ofString "number"))) (mCons (mC (.str (Str.ofString "cell"))) (mCons (mC (.str (Str.ofString "spill"))) (mCons (mC (.str (Str.ofString "range"))) (mCons (mC (.str (Str.ofString "badref"))) mNil))))))))))))))))) (gNm 1))
    (mSeq (mAsg (mOp addF (mVar 1) (mLst (mCons (mC (.str (Str.ofString "negate"))) (mCons (mC (.str (Str.ofString "binary"))) (mCons (mC (.str (Str.ofString "call"))) (mCons (mC (.str (Str.ofString "SUM"))) (mCons (mC (.str (Str.ofString "sum"))) (mCons (mC (.str (Str.ofString "SEQ"))) (mCons (mC (.str (Str.ofString "IF"))) (mCons (mC (.str (Str.ofString "INDEX"))) (mCons (mC (.str (Str.ofString "TAKE"))) (mCons (mC (.str (Str.ofString "+"))) (mCons (mC (.str (Str.ofString "<="))) (mCons (mC (.str (Str.ofString ">"))) (mCons (mC (.str (Str.ofString "=="))) (mCons (mC (.str (Str.ofString "mod"))) mNil)))))))))))))))) (gNm 1))
    (mSeq (mAsg (mOp addF (mVar 1) (mLst (mCons (mTup mNil) (mCons (mLst mNil) (mCons mDnew (mCons (mTup (mCons (mC (.str (Str.ofString "number"))) (mCons (mC (.int 1)) mNil))) (mCons (mTup (mCons (mC (.str (Str.ofString "cell"))) (mCons (mC (.int 0)) (mCons (mC (.int 0)) mNil)))) (mCons (mTup (mCons (mC (.str (Str.ofString "badref"))) mNil)) (mCons (mTup (mCons (mTup (mCons (mC (.str (Str.ofString "number"))) (mCons (mC (.int 2)) mNil))) (mCons (mTup (mCons (mC (.str (Str.ofString "number"))) (mCons (mC (.int 3)) mNil))) mNil))) (mCons (mLst (mCons (mC (.int 1)) mNil)) (mCons (mTup (mCons (mC (.int 1)) mNil)) mNil))))))))))) (gNm 1))
    (mRet (mFn 2 Lw.g_f_law_choose (mCons (mVar 0) (mCons (mVar 1) mNil)))))))
def g_f_law_other : MC := gOf N_f_law_other m_f_law_other
abbrev s_f_law_bent : Stmt := topS 34
abbrev N_f_law_bent : List Str := ["stream", "value", "at", "way"]
abbrev p_f_law_bent : List Str := ["stream", "value"]
theorem sc_f_law_bent : FnScope N_f_law_bent p_f_law_bent (defScope s_f_law_bent) := ⟨rfl, rfl, rfl, by decide +kernel, rfl, by decide +kernel, by decide +kernel⟩
def m_f_law_bent (r_f_law_bent : MC) : MS := (mSeq (mIfS (mOrT (mNotT (mTru (mIsi .tup (mVar 1)))) (mOrT (mTest (mOp eqT (mVar 1) (mTup mNil))) (mTest (mOp eqT (mFn 2 Lw.g_f_law_draw (mCons (mVar 0) (mCons (mC (.int 8)) mNil))) (mC (.int 0)))))) (mRet (mFn 1 g_f_law_other (mCons (mVar 0) mNil))) mNext)
    (mSeq (mAsg (mFn 2 Lw.g_f_law_draw (mCons (mVar 0) (mCons (mCall lenF (mCons (mVar 1) mNil)) mNil))) (gNm 2))
    (mSeq (mAsg (mFn 2 Lw.g_f_law_draw (mCons (mVar 0) (mCons (mC (.int 11)) mNil))) (gNm 3))
    (mSeq (mIfS (mTest (mOp eqT (mVar 3) (mC (.int 0)))) (mRet (mOp addF (mSl (mVar 1) none (some (mVar 2))) (mSl (mVar 1) (some (mOp addF (mVar 2) (mC (.int 1)))) none))) mNext)
    (mSeq (mIfS (mTest (mOp eqT (mVar 3) (mC (.int 1)))) (mRet (mOp addF (mSl (mVar 1) none (some (mOp addF (mVar 2) (mC (.int 1))))) (mSl (mVar 1) (some (mVar 2)) none))) mNext)
    (mSeq (mIfS (mTest (mOp eqT (mVar 3) (mC (.int 2)))) (mRet (mOp addF (mOp addF (mSl (mVar 1) none (some (mVar 2))) (mTup (mCons (mFn 1 g_f_law_other (mCons (mVar 0) mNil)) mNil))) (mSl (mVar 1) (some (mVar 2)) none))) mNext)
    (mSeq (mIfS (mTest (mOp eqT (mVar 3) (mC (.int 3)))) (mRet (mOp addF (mOp addF (mSl (mVar 1) none (some (mVar 2))) (mTup (mCons (mFn 2 Lw.g_f_law_choose (mCons (mVar 0) (mCons (mVar 1) mNil))) mNil))) (mSl (mVar 1) (some (mOp addF (mVar 2) (mC (.int 1)))) none))) mNext)
    (mSeq (mIfS (mTest (mOp eqT (mVar 3) (mC (.int 4)))) (mRet (mCall listF (mCons (mVar 1) mNil))) mNext)
    (mRet (mOp addF (mOp addF (mSl (mVar 1) none (some (mVar 2))) (mTup (mCons (mFn 2 r_f_law_bent (mCons (mVar 0) (mCons (mOp ixF (mVar 1) (mVar 2)) mNil))) mNil))) (mSl (mVar 1) (some (mOp addF (mVar 2) (mC (.int 1)))) none)))))))))))
def g_f_law_bent : Nat → MC
  | 0 => fun _ _ => .no
  | n + 1 => gOf N_f_law_bent (m_f_law_bent (g_f_law_bent n))
abbrev s_f_law_right : Stmt := topS 35
abbrev N_f_law_right : List Str := ["value", "kept", "told"]
abbrev p_f_law_right : List Str := ["value"]
theorem sc_f_law_right : FnScope N_f_law_right p_f_law_right (defScope s_f_law_right) := ⟨rfl, rfl, rfl, by decide +kernel, rfl, by decide +kernel, by decide +kernel⟩
def m_f_law_right : MS := (mSeq (mAsg (mCall reprX (mCons (mVar 0) mNil)) (gNm 1))
    (mSeq (mAsg (mFn 1 g_f_is_expression (mCons (mVar 0) mNil)) (gNm 2))
    (mRet (mAndV (mIsi .bl (mVar 2)) (mAndV (mOp (eqF false) (mVar 2) (mFn 2 (g_f_law_due 26) (mCons (mVar 0) (mCons (mC (.int 12)) mNil)))) (mOp (eqF false) (mCall reprX (mCons (mVar 0) mNil)) (mVar 1)))))))
def g_f_law_right : MC := gOf N_f_law_right m_f_law_right
abbrev s_f_law : Stmt := topS 36
abbrev N_f_law : List Str := ["script", "start", "stream", "some", "turn", "number", "wrapped", "value", "bent"]
abbrev p_f_law : List Str := ["script"]
theorem sc_f_law : FnScope N_f_law p_f_law (defScope s_f_law) := ⟨rfl, rfl, rfl, by decide +kernel, rfl, by decide +kernel, by decide +kernel⟩
def L1_f_law : MS := (mSeq (mAsg (mTup (mCons (mC (.str (Str.ofString "number"))) (mCons (mC (.int 1)) mNil))) (gNm 5))
    (mSeq (mAsg (mLst (mCons (mTup (mCons (mC (.str (Str.ofString "negate"))) (mCons (mOp ixF (mVar 3) (mC (.int 1))) mNil))) (mCons (mTup (mCons (mC (.str (Str.ofString "call"))) (mCons (mC (.str (Str.ofString "SUM"))) (mCons (mTup (mCons (mOp ixF (mVar 3) (mC (.int 1))) mNil)) mNil)))) (mCons (mTup (mCons (mC (.str (Str.ofString "binary"))) (mCons (mC (.str (Str.ofString "+"))) (mCons (mVar 5) (mCons (mOp ixF (mVar 3) (mC (.int 1))) mNil))))) mNil)))) (gNm 6))
    (mSeq (mAsg (mOp addF (mVar 6) (mLst (mCons (mTup (mCons (mC (.str (Str.ofString "call"))) (mCons (mC (.str (Str.ofString "TAKE"))) (mCons (mTup (mCons (mVar 5) (mCons (mOp ixF (mVar 3) (mC (.int 1))) mNil))) mNil)))) (mCons (mTup (mCons (mC (.str (Str.ofString "call"))) (mCons (mC (.str (Str.ofString "IF"))) (mCons (mTup (mCons (mVar 5) (mCons (mVar 5) (mCons (mOp ixF (mVar 3) (mC (.int 1))) mNil)))) mNil)))) mNil)))) (gNm 6))
    (mAsg (mFn 2 Lw.g_f_law_choose (mCons (mVar 2) (mCons (mVar 6) mNil))) (gIx (mVar 3) (mC (.int 1)))))))
def L2_f_law : MS := (mSeq (mAsg (mFn 2 (g_f_law_bent 60) (mCons (mVar 2) (mCons (mVar 7) mNil))) (gNm 8))
    (mSeq (mIfS (mTest (mOp gtF (mVar 4) (mC (.int 4)))) (mAsg (mFn 2 (g_f_law_bent 60) (mCons (mVar 2) (mCons (mVar 8) mNil))) (gNm 8)) mNext)
    (mIfS (mNotT (mTru (mFn 1 g_f_law_right (mCons (mVar 8) mNil)))) (mRet (mC (.bl false))) mNext)))
def L3_f_law : MS := (mSeq (mIfS (mNotT (mTru (mFn 1 g_f_law_right (mCons (mVar 7) mNil)))) (mRet (mC (.bl false))) mNext)
    (mFor (mItR1 (mCons (mC (.int 8)) mNil)) (gNm 4) L2_f_law))
def L4_f_law : MS := (mSeq (mAsg (mFn 2 Lw.g_f_law_stream (mCons (mVar 0) (mCons (mVar 1) mNil))) (gNm 2))
    (mSeq (mAsg (mLst (mCons (mFn 4 Lx.g_f_law_formula (mCons (mVar 2) (mCons (mC (.int 12)) (mCons (mC (.int 12)) (mCons (mOp addF (mC (.int 1)) (mFn 2 Lw.g_f_law_draw (mCons (mVar 2) (mCons (mC (.int 4)) mNil)))) mNil))))) (mCons (mFn 4 Lx.g_f_law_formula (mCons (mVar 2) (mCons (mC (.int 12)) (mCons (mC (.int 12)) (mCons (mC (.int 2)) mNil))))) mNil))) (gNm 3))
    (mSeq (mFor (mItR1 (mCons (mOp addF (mC (.int 11)) (mFn 2 Lw.g_f_law_draw (mCons (mVar 2) (mCons (mC (.int 3)) mNil)))) mNil)) (gNm 4) L1_f_law)
    (mFor (mItL (mVar 3)) (gNm 7) L3_f_law))))
def L5_f_law : MS := (mIfS (mNotT (mTru (mFn 1 g_f_law_right (mCons (mVar 7) mNil)))) (mRet (mC (.bl false))) mNext)
def m_f_law : MS := (mSeq (mFor (mItR1 (mCons (mCall maxF (mCons (mC (.int 2)) (mCons (mCall minF (mCons (mC (.int 5)) (mCons (mCall lenF (mCons (mVar 0) mNil)) mNil))) mNil))) mNil)) (gNm 1) L4_f_law)
    (mSeq (mFor (mItL (mLst (mCons (mC .non) (mCons (mC (.int 5)) (mCons (mC (.bl true)) (mCons (mC (.str (Str.ofString "A1"))) (mCons (mC (.str (Str.ofString ""))) (mCons (mLst mNil) (mCons (mTup mNil) (mCons mDnew (mCons (mTup (mCons (mC (.str (Str.ofString "number"))) mNil)) (mCons (mTup (mCons (mC (.str (Str.ofString "number"))) (mCons (mC (.bl true)) mNil))) (mCons (mLst (mCons (mC (.str (Str.ofString "number"))) (mCons (mC (.int 1)) mNil))) (mCons (mTup (mCons (mC (.str (Str.ofString "badref"))) (mCons (mC (.int 0)) mNil))) mNil)))))))))))))) (gNm 7) L5_f_law)
    (mRet (mC (.bl true)))))
def g_f_law : MC := gOf N_f_law m_f_law
/-! ### what the top has written -/
abbrev kv_OPERATORS : List V := [.str (Str.ofString "+"), .str (Str.ofString "-"), .str (Str.ofString "*"), .str (Str.ofString "/"), .str (Str.ofString "<"), .str (Str.ofString "<="), .str (Str.ofString "=")]
theorem kvs_OPERATORS {K : PySem.W.Frag} : ∀ ρ H, VRs K ρ H [.str (Str.ofString "+"), .str (Str.ofString "-"), .str (Str.ofString "*"), .str (Str.ofString "/"), .str (Str.ofString "<"), .str (Str.ofString "<="), .str (Str.ofString "=")] kv_OPERATORS := fun ρ H => VRs.cons_iff.mpr ⟨_, _, rfl, VR.str_iff.mpr rfl, VRs.cons_iff.mpr ⟨_, _, rfl, VR.str_iff.mpr rfl, VRs.cons_iff.mpr ⟨_, _, rfl, VR.str_iff.mpr rfl, VRs.cons_iff.mpr ⟨_, _, rfl, VR.str_iff.mpr rfl, VRs.cons_iff.mpr ⟨_, _, rfl, VR.str_iff.mpr rfl, VRs.cons_iff.mpr ⟨_, _, rfl, VR.str_iff.mpr rfl, VRs.cons_iff.mpr ⟨_, _, rfl, VR.str_iff.mpr rfl, VRs.nil_iff.mpr rfl⟩⟩⟩⟩⟩⟩⟩
structure Txt (w : World) (K : PySem.W.Frag) (mg : Str → Option Value) (a : Nat → Addr) (fd : Nat → FuncData) : Prop where
  g_f_is_integer_between : mg "is_integer_between" = some (.ref (a 0))
  F_f_is_integer_between : Fun K "is_integer_between" "is_integer_between" s_f_is_integer_between (a 0) (fd 0)
  b_f_is_integer_between : Binds K (fd 0) p_f_is_integer_between []
  g_f_is_index : mg "is_index" = some (.ref (a 1))
  F_f_is_index : Fun K "is_index" "is_index" s_f_is_index (a 1) (fd 1)
  b_f_is_index : Binds K (fd 1) p_f_is_index []
  g_f_is_cell : mg "is_cell" = some (.ref (a 2))
  F_f_is_cell : Fun K "is_cell" "is_cell" s_f_is_cell (a 2) (fd 2)
  b_f_is_cell : Binds K (fd 2) p_f_is_cell []
  g_f_is_area : mg "is_area" = some (.ref (a 3))
  F_f_is_area : Fun K "is_area" "is_area" s_f_is_area (a 3) (fd 3)
  b_f_is_area : Binds K (fd 3) p_f_is_area []
  g_f_subexpressions_of : mg "subexpressions_of" = some (.ref (a 4))
  F_f_subexpressions_of : Fun K "subexpressions_of" "subexpressions_of" s_f_subexpressions_of (a 4) (fd 4)
  b_f_subexpressions_of : Binds K (fd 4) p_f_subexpressions_of []
  g_f_one_level_deeper : mg "_one_level_deeper" = some (.ref (a 5))
  F_f_one_level_deeper : Fun K "_one_level_deeper" "_one_level_deeper" s_f_one_level_deeper (a 5) (fd 5)
  b_f_one_level_deeper : Binds K (fd 5) p_f_one_level_deeper []
  g_f_takes_arguments : mg "_takes_arguments" = some (.ref (a 6))
  F_f_takes_arguments : Fun K "_takes_arguments" "_takes_arguments" s_f_takes_arguments (a 6) (fd 6)
  b_f_takes_arguments : Binds K (fd 6) p_f_takes_arguments []
  g_f_is_well_formed : mg "_is_well_formed" = some (.ref (a 7))
  F_f_is_well_formed : Fun K "_is_well_formed" "_is_well_formed" s_f_is_well_formed (a 7) (fd 7)
  b_f_is_well_formed : Binds K (fd 7) p_f_is_well_formed []
  g_f_is_expression : mg "is_expression" = some (.ref (a 8))
  F_f_is_expression : Fun K "is_expression" "is_expression" s_f_is_expression (a 8) (fd 8)
  b_f_is_expression : Binds K (fd 8) p_f_is_expression []
  g_f_law_stream : mg "_law_stream" = some (.ref (a 9))
  F_f_law_stream : Fun K "_law_stream" "_law_stream" s_f_law_stream (a 9) (fd 9)
  b_f_law_stream : Binds K (fd 9) p_f_law_stream []
  g_f_law_draw : mg "_law_draw" = some (.ref (a 10))
  F_f_law_draw : Fun K "_law_draw" "_law_draw" s_f_law_draw (a 10) (fd 10)
  b_f_law_draw : Binds K (fd 10) p_f_law_draw []
  g_f_law_choose : mg "_law_choose" = some (.ref (a 11))
  F_f_law_choose : Fun K "_law_choose" "_law_choose" s_f_law_choose (a 11) (fd 11)
  b_f_law_choose : Binds K (fd 11) p_f_law_choose []
  g_f_law_cell : mg "_law_cell" = some (.ref (a 12))
  F_f_law_cell : Fun K "_law_cell" "_law_cell" s_f_law_cell (a 12) (fd 12)
  b_f_law_cell : Binds K (fd 12) p_f_law_cell []
  g_f_law_area : mg "_law_area" = some (.ref (a 13))
  F_f_law_area : Fun K "_law_area" "_law_area" s_f_law_area (a 13) (fd 13)
  b_f_law_area : Binds K (fd 13) p_f_law_area []
  g_f_law_reference : mg "_law_reference" = some (.ref (a 14))
  F_f_law_reference : Fun K "_law_reference" "_law_reference" s_f_law_reference (a 14) (fd 14)
  b_f_law_reference : Binds K (fd 14) p_f_law_reference []
  g_f_law_array : mg "_law_array" = some (.ref (a 15))
  F_f_law_array : Fun K "_law_array" "_law_array" s_f_law_array (a 15) (fd 15)
  b_f_law_array : Binds K (fd 15) p_f_law_array []
  g_f_law_scalar : mg "_law_scalar" = some (.ref (a 16))
  F_f_law_scalar : Fun K "_law_scalar" "_law_scalar" s_f_law_scalar (a 16) (fd 16)
  b_f_law_scalar : Binds K (fd 16) p_f_law_scalar []
  g_f_law_formula : mg "_law_formula" = some (.ref (a 17))
  F_f_law_formula : Fun K "_law_formula" "_law_formula" s_f_law_formula (a 17) (fd 17)
  b_f_law_formula : Binds K (fd 17) p_f_law_formula []
  g_f_law_integer : mg "_law_integer" = some (.ref (a 18))
  F_f_law_integer : Fun K "_law_integer" "_law_integer" s_f_law_integer (a 18) (fd 18)
  b_f_law_integer : Binds K (fd 18) p_f_law_integer []
  g_f_law_cell_right : mg "_law_cell_right" = some (.ref (a 19))
  F_f_law_cell_right : Fun K "_law_cell_right" "_law_cell_right" s_f_law_cell_right (a 19) (fd 19)
  b_f_law_cell_right : Binds K (fd 19) p_f_law_cell_right []
  g_f_law_due : mg "_law_due" = some (.ref (a 20))
  F_f_law_due : Fun K "_law_due" "_law_due" s_f_law_due (a 20) (fd 20)
  b_f_law_due : Binds K (fd 20) p_f_law_due []
  g_f_law_call_right : mg "_law_call_right" = some (.ref (a 21))
  F_f_law_call_right : Fun K "_law_call_right" "_law_call_right" s_f_law_call_right (a 21) (fd 21)
  b_f_law_call_right : Binds K (fd 21) p_f_law_call_right []
  g_f_law_other : mg "_law_other" = some (.ref (a 22))
  F_f_law_other : Fun K "_law_other" "_law_other" s_f_law_other (a 22) (fd 22)
  b_f_law_other : Binds K (fd 22) p_f_law_other []
  g_f_law_bent : mg "_law_bent" = some (.ref (a 23))
  F_f_law_bent : Fun K "_law_bent" "_law_bent" s_f_law_bent (a 23) (fd 23)
  b_f_law_bent : Binds K (fd 23) p_f_law_bent []
  g_f_law_right : mg "_law_right" = some (.ref (a 24))
  F_f_law_right : Fun K "_law_right" "_law_right" s_f_law_right (a 24) (fd 24)
  b_f_law_right : Binds K (fd 24) p_f_law_right []
  g_f_law : mg "law" = some (.ref (a 25))
  F_f_law : Fun K "law" "law" s_f_law (a 25) (fd 25)
  b_f_law : Binds K (fd 25) p_f_law []
  z_all : mg "all" = none
  z_bool : mg "bool" = none
  z_int : mg "int" = none
  z_isinstance : mg "isinstance" = none
  z_len : mg "len" = none
  z_list : mg "list" = none
  z_max : mg "max" = none
  z_min : mg "min" = none
  z_range : mg "range" = none
  z_repr : mg "repr" = none
  z_str : mg "str" = none
  z_tuple : mg "tuple" = none
  kc_GRID_SIZE : ∃ t, mg "GRID_SIZE" = some (.int (12) t)
  kc_LARGEST_DEPTH : ∃ t, mg "LARGEST_DEPTH" = some (.int (12) t)
  kc_LARGEST_NUMBER : ∃ t, mg "LARGEST_NUMBER" = some (.int (1000000000) t)
  kc_OPERATORS : KT K mg "OPERATORS" kv_OPERATORS
  kd_FUNCTIONS : KDv K w mg "FUNCTIONS" [(Str.ofString "SUM", .tup [.int (1)]), (Str.ofString "COUNT", .tup [.int (1)]), (Str.ofString "MAX", .tup [.int (1)]), (Str.ofString "MIN", .tup [.int (1)]), (Str.ofString "ROWS", .tup [.int (1)]), (Str.ofString "COLUMNS", .tup [.int (1)]), (Str.ofString "TRANSPOSE", .tup [.int (1)]), (Str.ofString "SORT", .tup [.int (1)]), (Str.ofString "SEQ", .tup [.int (1), .int (2)]), (Str.ofString "IFERROR", .tup [.int (2)]), (Str.ofString "FILTER", .tup [.int (2)]), (Str.ofString "TAKE", .tup [.int (2)]), (Str.ofString "DROP", .tup [.int (2)]), (Str.ofString "STACK", .tup [.int (2)]), (Str.ofString "BESIDE", .tup [.int (2)]), (Str.ofString "IF", .tup [.int (3)]), (Str.ofString "INDEX", .tup [.int (3)])]
section
variable {P : Program} {w : World} {K : PySem.W.Frag} {mg : Str → Option Value} {base : Heap} {a : Nat → Addr} {fd : Nat → FuncData}
theorem ok_f_is_integer_between (T : Txt w K mg a fd) : FnG P w K mg base CX0 1 (a 0) (fd 0) p_f_is_integer_between (spS K 3 g_f_is_integer_between) := by
  refine fn_ok (m := m_f_is_integer_between) (cl := fun _ => 0) T.F_f_is_integer_between sc_f_is_integer_between fun cdv A outer s H E hG hr => ?_
  unfold m_f_is_integer_between
  exact (ss_one (s_ret (e_and (e_isi .int rfl T.z_isinstance T.z_int (by decide +kernel) (e_var 0)) (e_and (e_not (e_isi .bl rfl T.z_isinstance T.z_bool (by decide +kernel) (e_var 0))) (e_one (e_chain calm_ord calm_ord op_leS op_leS (e_var 1) (e_var 0) (e_var 2)))))))
theorem ok_f_is_index (T : Txt w K mg a fd) : FnG P w K mg base CX0 2 (a 1) (fd 1) p_f_is_index (spS K 1 g_f_is_index) := by
  have C_f_is_integer_between : FnG P w K mg base CX0 1 (a 0) (fd 0) p_f_is_integer_between (spS K 3 g_f_is_integer_between) := ok_f_is_integer_between T
  refine fn_ok (m := m_f_is_index) (cl := fun _ => 0) T.F_f_is_index sc_f_is_index fun cdv A outer s H E hG hr => ?_
  unfold m_f_is_index
  exact (ss_one (s_ret (e_call C_f_is_integer_between hG (hr.mono (by decide)) T.g_f_is_integer_between T.F_f_is_integer_between.kp T.b_f_is_integer_between (a_cons (e_var 0) (a_cons e_int (a_cons (e_op calm_sub op_subS (e_ki T.kc_GRID_SIZE) e_int) a_nil))))))
theorem ok_f_is_cell (T : Txt w K mg a fd) : FnG P w K mg base CX0 3 (a 2) (fd 2) p_f_is_cell (spS K 1 g_f_is_cell) := by
  have C_f_is_index : FnG P w K mg base CX0 2 (a 1) (fd 1) p_f_is_index (spS K 1 g_f_is_index) := ok_f_is_index T
  refine fn_ok (m := m_f_is_cell) (cl := fun _ => 0) T.F_f_is_cell sc_f_is_cell fun cdv A outer s H E hG hr => ?_
  unfold m_f_is_cell
  exact (ss_one (s_ret (e_and (e_isi .tup rfl T.z_isinstance T.z_tuple (by decide +kernel) (e_var 0)) (e_and (e_cmp calm_eq (op_eqS rfl hr.units) (e_cb (c_len rfl) T.z_len (by decide +kernel) (a_cons (e_var 0) a_nil)) e_int (nomark _)) (e_one (e_cb (c_all rfl rfl) T.z_all (by decide +kernel) (a_cons (e_lc (own := [("part", 1)]) (fun _ _ _ h => tYes_of h) rfl sc_f_is_cell.nd (i_tup rfl (e_var 0)) (blkOk_by (own := [("part", 1)]) (N := N_f_is_cell) (sc := defScope s_f_is_cell) (by decide +kernel)) (fun _ _ _ _ _ => (g_name (vs := [1]) sc_f_is_cell.nd rfl (by decide))) (fun _ _ _ _ _ => pts_nil) (fun _ _ _ _ _ => (e_call C_f_is_index hG (hr.mono (by decide)) T.g_f_is_index T.F_f_is_index.kp T.b_f_is_index (a_cons (e_var 1) a_nil)))) a_nil)))))))
theorem ok_f_is_area (T : Txt w K mg a fd) : FnG P w K mg base CX0 3 (a 3) (fd 3) p_f_is_area (spS K 1 g_f_is_area) := by
  have C_f_is_index : FnG P w K mg base CX0 2 (a 1) (fd 1) p_f_is_index (spS K 1 g_f_is_index) := ok_f_is_index T
  refine fn_ok (m := m_f_is_area) (cl := fun _ => 0) T.F_f_is_area sc_f_is_area fun cdv A outer s H E hG hr => ?_
  unfold m_f_is_area
  exact (ss_cons (s_if (t_w (w_or (t_not (t_tru rfl (e_isi .tup rfl T.z_isinstance T.z_tuple (by decide +kernel) (e_var 0)))) (w_or (t_cmp calm_eq (op_neS rfl hr.units) (e_cb (c_len rfl) T.z_len (by decide +kernel) (a_cons (e_var 0) a_nil)) e_int (nomark _)) (w_or1 (t_not (t_tru rfl (e_cb (c_all rfl rfl) T.z_all (by decide +kernel) (a_cons (e_lc (own := [("part", 1)]) (fun _ _ _ h => tYes_of h) rfl sc_f_is_area.nd (i_tup rfl (e_var 0)) (blkOk_by (own := [("part", 1)]) (N := N_f_is_area) (sc := defScope s_f_is_area) (by decide +kernel)) (fun _ _ _ _ _ => (g_name (vs := [1]) sc_f_is_area.nd rfl (by decide))) (fun _ _ _ _ _ => pts_nil) (fun _ _ _ _ _ => (e_call C_f_is_index hG (hr.mono (by decide)) T.g_f_is_index T.F_f_is_index.kp T.b_f_is_index (a_cons (e_var 1) a_nil)))) a_nil)))))))) (ss_one (s_ret e_bl)) ss_nil)
      (ss_cons (s_asg (e_var 0) (g_tup rfl rfl (gs_cons (g_name (vs := [2, 3, 4, 5]) sc_f_is_area.nd rfl (by decide)) (gs_cons (g_name (vs := [2, 3, 4, 5]) sc_f_is_area.nd rfl (by decide)) (gs_cons (g_name (vs := [2, 3, 4, 5]) sc_f_is_area.nd rfl (by decide)) (gs_cons (g_name (vs := [2, 3, 4, 5]) sc_f_is_area.nd rfl (by decide)) gs_nil))))))
      (ss_one (s_ret (e_and (e_cmp calm_ord op_leS (e_var 2) (e_var 4) (nomark _)) (e_one (e_cmp calm_ord op_leS (e_var 3) (e_var 5) (nomark _))))))))
theorem ok_f_subexpressions_of (T : Txt w K mg a fd) : FnG P w K mg base CX0 1 (a 4) (fd 4) p_f_subexpressions_of (spS K 1 g_f_subexpressions_of) := by
  refine fn_ok (m := m_f_subexpressions_of) (cl := fun _ => 0) T.F_f_subexpressions_of sc_f_subexpressions_of fun cdv A outer s H E hG hr => ?_
  unfold m_f_subexpressions_of
  exact (ss_cons (s_asg (e_ix rfl (e_var 0) e_int) (g_name (vs := [1]) sc_f_subexpressions_of.nd rfl (by decide)))
      (ss_cons (s_if (t_cmp calm_eq (op_eqS rfl hr.units) (e_var 1) e_str (nomark _)) (ss_one (s_ret (e_lst (a_cons (e_ix rfl (e_var 0) e_int) a_nil)))) ss_nil)
      (ss_cons (s_if (t_cmp calm_eq (op_eqS rfl hr.units) (e_var 1) e_str (nomark _)) (ss_one (s_ret (e_lst (a_cons (e_ix rfl (e_var 0) e_int) (a_cons (e_ix rfl (e_var 0) e_int) a_nil))))) ss_nil)
      (ss_cons (s_if (t_cmp calm_eq (op_eqS rfl hr.units) (e_var 1) e_str (nomark _)) (ss_one (s_ret (e_ct (c_list rfl) T.z_list (by decide +kernel) (a_cons (e_ix rfl (e_var 0) e_int) a_nil)))) ss_nil)
      (ss_one (s_ret (e_lst a_nil)))))))
theorem ok_f_one_level_deeper (T : Txt w K mg a fd) : FnG P w K mg base CX0 2 (a 5) (fd 5) p_f_one_level_deeper (spS K 1 g_f_one_level_deeper) := by
  have C_f_subexpressions_of : FnG P w K mg base CX0 1 (a 4) (fd 4) p_f_subexpressions_of (spS K 1 g_f_subexpressions_of) := ok_f_subexpressions_of T
  refine fn_ok (m := m_f_one_level_deeper) (cl := fun _ => 0) T.F_f_one_level_deeper sc_f_one_level_deeper fun cdv A outer s H E hG hr => ?_
  unfold m_f_one_level_deeper
  exact (ss_one (s_ret (e_lc2 (own := [("expression", 1), ("part", 2)]) (vs1 := [2]) (fun _ _ _ h => tYes_of h) (fun _ _ _ h => tYes_of h) rfl sc_f_one_level_deeper.nd (i_list rfl (e_var 0)) (blkOk_by (own := [("expression", 1), ("part", 2)]) (N := N_f_one_level_deeper) (sc := defScope s_f_one_level_deeper) (by decide +kernel)) (by decide) (fun _ _ _ _ _ => (g_name (vs := [1, 2]) sc_f_one_level_deeper.nd rfl (by decide))) (fun _ _ _ _ _ => pts_nil) (fun _ _ _ _ _ => (i_list rfl (e_call C_f_subexpressions_of hG (hr.mono (by decide)) T.g_f_subexpressions_of T.F_f_subexpressions_of.kp T.b_f_subexpressions_of (a_cons (e_var 1) a_nil)))) (fun _ _ _ _ _ => (g_name (vs := [2]) sc_f_one_level_deeper.nd rfl (by decide))) (fun _ _ _ _ _ => pts_nil) (fun _ _ _ _ _ => (e_var 2)))))
theorem ok_f_takes_arguments (T : Txt w K mg a fd) : FnG P w K mg base CX0 1 (a 6) (fd 6) p_f_takes_arguments (spS K 2 g_f_takes_arguments) := by
  refine fn_ok (m := m_f_takes_arguments) (cl := fun _ => 0) T.F_f_takes_arguments sc_f_takes_arguments fun cdv A outer s H E hG hr => ?_
  unfold m_f_takes_arguments
  exact (ss_cons (s_if (t_w (w_or (t_not (t_tru rfl (e_isi .str rfl T.z_isinstance T.z_str (by decide +kernel) (e_var 0)))) (w_or1 (t_not (t_tru rfl (e_isi .tup rfl T.z_isinstance T.z_tuple (by decide +kernel) (e_var 1))))))) (ss_one (s_ret e_bl)) ss_nil)
      (ss_one (s_ret (e_cmp calm_in (op_inS rfl (room65 hr)) (e_cb (c_len rfl) T.z_len (by decide +kernel) (a_cons (e_var 1) a_nil)) (e_kgetv rfl T.kd_FUNCTIONS (e_var 0) (e_tup a_nil) ⟨rfl, rfl, rfl, rfl⟩) rfl))))
theorem ok_f_is_well_formed (T : Txt w K mg a fd) : FnG P w K mg base CX0 4 (a 7) (fd 7) p_f_is_well_formed (spS K 1 g_f_is_well_formed) := by
  have C_f_is_cell : FnG P w K mg base CX0 3 (a 2) (fd 2) p_f_is_cell (spS K 1 g_f_is_cell) := ok_f_is_cell T
  have C_f_is_area : FnG P w K mg base CX0 3 (a 3) (fd 3) p_f_is_area (spS K 1 g_f_is_area) := ok_f_is_area T
  have C_f_takes_arguments : FnG P w K mg base CX0 1 (a 6) (fd 6) p_f_takes_arguments (spS K 2 g_f_takes_arguments) := ok_f_takes_arguments T
  have C_f_is_integer_between : FnG P w K mg base CX0 1 (a 0) (fd 0) p_f_is_integer_between (spS K 3 g_f_is_integer_between) := ok_f_is_integer_between T
  refine fn_ok (m := m_f_is_well_formed) (cl := fun _ => 0) T.F_f_is_well_formed sc_f_is_well_formed fun cdv A outer s H E hG hr => ?_
  unfold m_f_is_well_formed
  exact (ss_cons (s_if (t_w (w_or (t_not (t_tru rfl (e_isi .tup rfl T.z_isinstance T.z_tuple (by decide +kernel) (e_var 0)))) (w_or1 (t_cmp calm_eqT (op_eqT rfl hr.units) (e_cb (c_len rfl) T.z_len (by decide +kernel) (a_cons (e_var 0) a_nil)) e_int (nomark _))))) (ss_one (s_ret e_bl)) ss_nil)
      (ss_cons (s_asg (e_ix rfl (e_var 0) e_int) (g_name (vs := [1]) sc_f_is_well_formed.nd rfl (by decide)))
      (ss_cons (s_asg (e_slice rfl (e_var 0) (o_some e_int) o_none) (g_name (vs := [2]) sc_f_is_well_formed.nd rfl (by decide)))
      (ss_cons (s_if (t_cmp calm_eqT (op_eqT rfl hr.units) (e_var 1) e_str (nomark _)) (ss_one (s_ret (e_and (e_cmp calm_eqT (op_eqT rfl hr.units) (e_cb (c_len rfl) T.z_len (by decide +kernel) (a_cons (e_var 2) a_nil)) e_int (nomark _)) (e_one (e_call C_f_is_integer_between hG (hr.mono (by decide)) T.g_f_is_integer_between T.F_f_is_integer_between.kp T.b_f_is_integer_between (a_cons (e_ix rfl (e_var 2) e_int) (a_cons e_int (a_cons (e_ki T.kc_LARGEST_NUMBER) a_nil)))))))) ss_nil)
      (ss_cons (s_if (t_w (w_or (t_cmp calm_eqT (op_eqT rfl hr.units) (e_var 1) e_str (nomark _)) (w_or1 (t_cmp calm_eqT (op_eqT rfl hr.units) (e_var 1) e_str (nomark _))))) (ss_one (s_ret (e_call C_f_is_cell hG (hr.mono (by decide)) T.g_f_is_cell T.F_f_is_cell.kp T.b_f_is_cell (a_cons (e_var 2) a_nil)))) ss_nil)
      (ss_cons (s_if (t_cmp calm_eqT (op_eqT rfl hr.units) (e_var 1) e_str (nomark _)) (ss_one (s_ret (e_call C_f_is_area hG (hr.mono (by decide)) T.g_f_is_area T.F_f_is_area.kp T.b_f_is_area (a_cons (e_var 2) a_nil)))) ss_nil)
      (ss_cons (s_if (t_cmp calm_eqT (op_eqT rfl hr.units) (e_var 1) e_str (nomark _)) (ss_one (s_ret (e_cmp calm_eqT (op_eqT rfl hr.units) (e_cb (c_len rfl) T.z_len (by decide +kernel) (a_cons (e_var 2) a_nil)) e_int (nomark _)))) ss_nil)
      (ss_cons (s_if (t_cmp calm_eqT (op_eqT rfl hr.units) (e_var 1) e_str (nomark _)) (ss_one (s_ret (e_cmp calm_eqT (op_eqT rfl hr.units) (e_cb (c_len rfl) T.z_len (by decide +kernel) (a_cons (e_var 2) a_nil)) e_int (nomark _)))) ss_nil)
      (ss_cons (s_if (t_cmp calm_eqT (op_eqT rfl hr.units) (e_var 1) e_str (nomark _)) (ss_one (s_ret (e_and (e_cmp calm_eqT (op_eqT rfl hr.units) (e_cb (c_len rfl) T.z_len (by decide +kernel) (a_cons (e_var 2) a_nil)) e_int (nomark _)) (e_one (e_cmp calm_inT (op_inT rfl (room65 hr)) (e_ix rfl (e_var 2) e_int) (e_kt rfl T.kc_OPERATORS kvs_OPERATORS) rfl))))) ss_nil)
      (ss_one (s_ret (e_and (e_cmp calm_eqT (op_eqT rfl hr.units) (e_var 1) e_str (nomark _)) (e_and (e_cmp calm_eqT (op_eqT rfl hr.units) (e_cb (c_len rfl) T.z_len (by decide +kernel) (a_cons (e_var 2) a_nil)) e_int (nomark _)) (e_one (e_call C_f_takes_arguments hG (hr.mono (by decide)) T.g_f_takes_arguments T.F_f_takes_arguments.kp T.b_f_takes_arguments (a_cons (e_ix rfl (e_var 2) e_int) (a_cons (e_ix rfl (e_var 2) e_int) a_nil)))))))))))))))))
theorem ok_f_is_expression (T : Txt w K mg a fd) : FnG P w K mg base CX0 5 (a 8) (fd 8) p_f_is_expression (spS K 1 g_f_is_expression) := by
  have C_f_one_level_deeper : FnG P w K mg base CX0 2 (a 5) (fd 5) p_f_one_level_deeper (spS K 1 g_f_one_level_deeper) := ok_f_one_level_deeper T
  have C_f_is_well_formed : FnG P w K mg base CX0 4 (a 7) (fd 7) p_f_is_well_formed (spS K 1 g_f_is_well_formed) := ok_f_is_well_formed T
  refine fn_ok (m := m_f_is_expression) (cl := fun _ => 0) T.F_f_is_expression sc_f_is_expression fun cdv A outer s H E hG hr => ?_
  unfold m_f_is_expression L1_f_is_expression
  exact (ss_cons (s_asg (e_lst (a_cons (e_var 0) a_nil)) (g_name (vs := [1]) sc_f_is_expression.nd rfl (by decide)))
      (ss_cons (s_for PassesOwn.never rfl (i_range1 T.z_range (a_cons (e_ki T.kc_LARGEST_DEPTH) a_nil)) (g_name (vs := [2]) sc_f_is_expression.nd rfl (by decide)) (ss_cons (s_if (t_not (t_tru rfl (e_cb (c_all rfl rfl) T.z_all (by decide +kernel) (a_cons (e_lc (own := [("part", 3)]) (fun _ _ _ h => tYes_of h) rfl sc_f_is_expression.nd (i_list rfl (e_var 1)) (blkOk_by (own := [("part", 3)]) (N := N_f_is_expression) (sc := defScope s_f_is_expression) (by decide +kernel)) (fun _ _ _ _ _ => (g_name (vs := [3]) sc_f_is_expression.nd rfl (by decide))) (fun _ _ _ _ _ => pts_nil) (fun _ _ _ _ _ => (e_call C_f_is_well_formed hG (hr.mono (by decide)) T.g_f_is_well_formed T.F_f_is_well_formed.kp T.b_f_is_well_formed (a_cons (e_var 3) a_nil)))) a_nil)))) (ss_one (s_ret e_bl)) ss_nil)
      (ss_one (s_asg (e_call C_f_one_level_deeper hG (hr.mono (by decide)) T.g_f_one_level_deeper T.F_f_one_level_deeper.kp T.b_f_one_level_deeper (a_cons (e_var 1) a_nil)) (g_name (vs := [1]) sc_f_is_expression.nd rfl (by decide))))))
      (ss_one (s_ret (e_cmp calm_eq (op_eqS rfl hr.units) (e_cb (c_len rfl) T.z_len (by decide +kernel) (a_cons (e_var 1) a_nil)) e_int (nomark _))))))
theorem ok_f_law_stream (T : Txt w K mg a fd) : FnG P w K mg base CX0 1 (a 9) (fd 9) p_f_law_stream (spS K 2 Lw.g_f_law_stream) := by
  refine fn_ok (m := Lw.m_f_law_stream) (cl := fun _ => 0) T.F_f_law_stream sc_f_law_stream fun cdv A outer s H E hG hr => ?_
  unfold Lw.m_f_law_stream Lw.L1_f_law_stream
  exact (ss_cons (s_asg (e_op calm_add (op_addS rfl) e_int (e_var 1)) (g_name (vs := [2]) sc_f_law_stream.nd rfl (by decide)))
      (ss_cons (s_for PassesOwn.never rfl (i_list rfl (e_var 0)) (g_name (vs := [3]) sc_f_law_stream.nd rfl (by decide)) (ss_one (s_asg (e_op calm_add (op_addS rfl) (e_op calm_mod op_modS (e_op calm_pow op_powS (e_op calm_add (op_addS rfl) (e_op calm_mul op_mulS (e_var 2) e_int) (e_var 3)) e_int) e_int) e_int) (g_name (vs := [2]) sc_f_law_stream.nd rfl (by decide)))))
      (ss_cons (s_asg e_int (g_name (vs := [4]) sc_f_law_stream.nd rfl (by decide)))
      (ss_cons (s_if (t_w (w_and (t_cmp calm_ord op_ltS (e_var 1) (e_cb (c_len rfl) T.z_len (by decide +kernel) (a_cons (e_var 0) a_nil)) (nomark _)) (w_and1 (t_cmp calm_ord op_geS (e_ix rfl (e_var 0) (e_var 1)) (e_op calm_pow op_powS e_int e_int) (nomark _))))) (ss_one (s_asg (e_op calm_sub op_subS (e_ix rfl (e_var 0) (e_var 1)) (e_op calm_pow op_powS e_int e_int)) (g_name (vs := [4]) sc_f_law_stream.nd rfl (by decide)))) ss_nil)
      (ss_one (s_ret (e_lst (a_cons (e_var 4) (a_cons (e_var 2) a_nil)))))))))
theorem ok_f_law_draw (T : Txt w K mg a fd) : FnG P w K mg base CX0 1 (a 10) (fd 10) p_f_law_draw (spS K 2 Lw.g_f_law_draw) := by
  refine fn_ok (m := Lw.m_f_law_draw) (cl := fun _ => 0) T.F_f_law_draw sc_f_law_draw fun cdv A outer s H E hG hr => ?_
  unfold Lw.m_f_law_draw
  exact (ss_cons (s_if (t_cmp calm_ord op_geS (e_ix rfl (e_var 0) e_int) (e_var 1) (nomark _)) (ss_cons (s_asg (e_op calm_mod op_modS (e_ix rfl (e_var 0) e_int) (e_var 1)) (g_name (vs := [2]) sc_f_law_draw.nd rfl (by decide)))
      (ss_cons (s_asg (e_op calm_fdiv op_fdivS (e_ix rfl (e_var 0) e_int) (e_var 1)) (g_ix (vs := []) (e_var 0) e_int))
      (ss_one (s_ret (e_var 2))))) ss_nil)
      (ss_cons (s_asg (e_op calm_mod op_modS (e_op calm_add (op_addS rfl) (e_op calm_mul op_mulS (e_ix rfl (e_var 0) e_int) e_int) e_int) e_int) (g_ix (vs := []) (e_var 0) e_int))
      (ss_one (s_ret (e_op calm_mod op_modS (e_op calm_fdiv op_fdivS (e_op calm_mod op_modS (e_op calm_pow op_powS (e_op calm_mod op_modS (e_op calm_pow op_powS (e_ix rfl (e_var 0) e_int) e_int) e_int) e_int) e_int) e_int) (e_var 1))))))
theorem ok_f_law_choose (T : Txt w K mg a fd) : FnG P w K mg base CX0 2 (a 11) (fd 11) p_f_law_choose (spS K 2 Lw.g_f_law_choose) := by
  have C_f_law_draw : FnG P w K mg base CX0 1 (a 10) (fd 10) p_f_law_draw (spS K 2 Lw.g_f_law_draw) := ok_f_law_draw T
  refine fn_ok (m := Lw.m_f_law_choose) (cl := fun _ => 0) T.F_f_law_choose sc_f_law_choose fun cdv A outer s H E hG hr => ?_
  unfold Lw.m_f_law_choose
  exact (ss_one (s_ret (e_ix rfl (e_var 1) (e_call C_f_law_draw hG (hr.mono (by decide)) T.g_f_law_draw T.F_f_law_draw.kp T.b_f_law_draw (a_cons (e_var 0) (a_cons (e_cb (c_len rfl) T.z_len (by decide +kernel) (a_cons (e_var 1) a_nil)) a_nil))))))
theorem ok_f_law_cell (T : Txt w K mg a fd) : FnG P w K mg base CX0 2 (a 12) (fd 12) p_f_law_cell (spS K 3 Lx.g_f_law_cell) := by
  have C_f_law_draw : FnG P w K mg base CX0 1 (a 10) (fd 10) p_f_law_draw (spS K 2 Lw.g_f_law_draw) := ok_f_law_draw T
  refine fn_ok (m := Lx.m_f_law_cell) (cl := fun _ => 0) T.F_f_law_cell sc_f_law_cell fun cdv A outer s H E hG hr => ?_
  unfold Lx.m_f_law_cell
  exact (ss_one (s_ret (e_tup (a_cons (e_call C_f_law_draw hG (hr.mono (by decide)) T.g_f_law_draw T.F_f_law_draw.kp T.b_f_law_draw (a_cons (e_var 0) (a_cons (e_var 1) a_nil))) (a_cons (e_call C_f_law_draw hG (hr.mono (by decide)) T.g_f_law_draw T.F_f_law_draw.kp T.b_f_law_draw (a_cons (e_var 0) (a_cons (e_var 2) a_nil))) a_nil)))))
theorem ok_f_law_area (T : Txt w K mg a fd) : FnG P w K mg base CX0 3 (a 13) (fd 13) p_f_law_area (spS K 3 Lx.g_f_law_area) := by
  have C_f_law_cell : FnG P w K mg base CX0 2 (a 12) (fd 12) p_f_law_cell (spS K 3 Lx.g_f_law_cell) := ok_f_law_cell T
  have C_f_law_draw : FnG P w K mg base CX0 1 (a 10) (fd 10) p_f_law_draw (spS K 2 Lw.g_f_law_draw) := ok_f_law_draw T
  refine fn_ok (m := Lx.m_f_law_area) (cl := fun _ => 0) T.F_f_law_area sc_f_law_area fun cdv A outer s H E hG hr => ?_
  unfold Lx.m_f_law_area
  exact (ss_cons (s_asg (e_call C_f_law_cell hG (hr.mono (by decide)) T.g_f_law_cell T.F_f_law_cell.kp T.b_f_law_cell (a_cons (e_var 0) (a_cons (e_var 1) (a_cons (e_var 2) a_nil)))) (g_tup rfl rfl (gs_cons (g_name (vs := [3, 4]) sc_f_law_area.nd rfl (by decide)) (gs_cons (g_name (vs := [3, 4]) sc_f_law_area.nd rfl (by decide)) gs_nil))))
      (ss_one (s_ret (e_tup (a_cons (e_var 3) (a_cons (e_var 4) (a_cons (e_cb (c_min rfl) T.z_min (by decide +kernel) (a_cons e_int (a_cons (e_op calm_add (op_addS rfl) (e_var 3) (e_call C_f_law_draw hG (hr.mono (by decide)) T.g_f_law_draw T.F_f_law_draw.kp T.b_f_law_draw (a_cons (e_var 0) (a_cons e_int a_nil)))) a_nil))) (a_cons (e_cb (c_min rfl) T.z_min (by decide +kernel) (a_cons e_int (a_cons (e_op calm_add (op_addS rfl) (e_var 4) (e_call C_f_law_draw hG (hr.mono (by decide)) T.g_f_law_draw T.F_f_law_draw.kp T.b_f_law_draw (a_cons (e_var 0) (a_cons e_int a_nil)))) a_nil))) a_nil))))))))
theorem ok_f_law_reference (T : Txt w K mg a fd) : FnG P w K mg base CX0 4 (a 14) (fd 14) p_f_law_reference (spS K 3 Lx.g_f_law_reference) := by
  have C_f_law_draw : FnG P w K mg base CX0 1 (a 10) (fd 10) p_f_law_draw (spS K 2 Lw.g_f_law_draw) := ok_f_law_draw T
  have C_f_law_cell : FnG P w K mg base CX0 2 (a 12) (fd 12) p_f_law_cell (spS K 3 Lx.g_f_law_cell) := ok_f_law_cell T
  have C_f_law_area : FnG P w K mg base CX0 3 (a 13) (fd 13) p_f_law_area (spS K 3 Lx.g_f_law_area) := ok_f_law_area T
  refine fn_ok (m := Lx.m_f_law_reference) (cl := fun _ => 0) T.F_f_law_reference sc_f_law_reference fun cdv A outer s H E hG hr => ?_
  unfold Lx.m_f_law_reference
  exact (ss_cons (s_if (t_cmp calm_eq (op_eqS rfl hr.units) (e_call C_f_law_draw hG (hr.mono (by decide)) T.g_f_law_draw T.F_f_law_draw.kp T.b_f_law_draw (a_cons (e_var 0) (a_cons e_int a_nil))) e_int (nomark _)) (ss_one (s_asg (e_tup (a_cons e_int (a_cons e_int a_nil))) (g_tup rfl rfl (gs_cons (g_name (vs := [1, 2]) sc_f_law_reference.nd rfl (by decide)) (gs_cons (g_name (vs := [1, 2]) sc_f_law_reference.nd rfl (by decide)) gs_nil))))) ss_nil)
      (ss_cons (s_asg (e_call C_f_law_draw hG (hr.mono (by decide)) T.g_f_law_draw T.F_f_law_draw.kp T.b_f_law_draw (a_cons (e_var 0) (a_cons e_int a_nil))) (g_name (vs := [3]) sc_f_law_reference.nd rfl (by decide)))
      (ss_cons (s_if (t_cmp calm_ord op_ltS (e_var 3) e_int (nomark _)) (ss_one (s_ret (e_op calm_add (op_addS rfl) (e_tup (a_cons e_str a_nil)) (e_call C_f_law_cell hG (hr.mono (by decide)) T.g_f_law_cell T.F_f_law_cell.kp T.b_f_law_cell (a_cons (e_var 0) (a_cons (e_var 1) (a_cons (e_var 2) a_nil))))))) ss_nil)
      (ss_cons (s_if (t_cmp calm_ord op_ltS (e_var 3) e_int (nomark _)) (ss_one (s_ret (e_op calm_add (op_addS rfl) (e_tup (a_cons e_str a_nil)) (e_call C_f_law_area hG (hr.mono (by decide)) T.g_f_law_area T.F_f_law_area.kp T.b_f_law_area (a_cons (e_var 0) (a_cons (e_var 1) (a_cons (e_var 2) a_nil))))))) ss_nil)
      (ss_one (s_ret (e_if (t_cmp calm_ord op_ltS (e_var 3) e_int (nomark _)) (e_op calm_add (op_addS rfl) (e_tup (a_cons e_str a_nil)) (e_call C_f_law_cell hG (hr.mono (by decide)) T.g_f_law_cell T.F_f_law_cell.kp T.b_f_law_cell (a_cons (e_var 0) (a_cons (e_var 1) (a_cons (e_var 2) a_nil))))) (e_tup (a_cons e_str a_nil)))))))))
theorem okr_f_law_array (T : Txt w K mg a fd) : ∀ n : Nat, FnG P w K mg base CX0 (4 + n) (a 15) (fd 15) p_f_law_array (spS K 4 (Lx.g_f_law_array n)) ∧ FnG P w K mg base CX0 (4 + n) (a 16) (fd 16) p_f_law_scalar (spS K 4 (Lx.g_f_law_scalar n))
  | 0 => ⟨fn_no, fn_no⟩
  | n + 1 => by
    obtain ⟨C_f_law_array, C_f_law_scalar⟩ := okr_f_law_array T n
    have C_f_law_draw : FnG P w K mg base CX0 1 (a 10) (fd 10) p_f_law_draw (spS K 2 Lw.g_f_law_draw) := ok_f_law_draw T
    have C_f_law_reference : FnG P w K mg base CX0 4 (a 14) (fd 14) p_f_law_reference (spS K 3 Lx.g_f_law_reference) := ok_f_law_reference T
    have C_f_law_choose : FnG P w K mg base CX0 2 (a 11) (fd 11) p_f_law_choose (spS K 2 Lw.g_f_law_choose) := ok_f_law_choose T
    have C_f_law_cell : FnG P w K mg base CX0 2 (a 12) (fd 12) p_f_law_cell (spS K 3 Lx.g_f_law_cell) := ok_f_law_cell T
    refine ⟨?_, ?_⟩
    · show FnG P w K mg base CX0 (4 + n + 1) (a 15) (fd 15) p_f_law_array (spS K 4 (gOf N_f_law_array (Lx.m_f_law_array (Lx.g_f_law_array n) (Lx.g_f_law_scalar n))))
      refine fn_ok (m := (Lx.m_f_law_array (Lx.g_f_law_array n) (Lx.g_f_law_scalar n))) (cl := fun _ => 0) T.F_f_law_array sc_f_law_array fun cdv A outer s H E hG hr => ?_
      unfold Lx.m_f_law_array
      exact (ss_cons (s_asg (e_call C_f_law_draw hG (hr.mono (by omega)) T.g_f_law_draw T.F_f_law_draw.kp T.b_f_law_draw (a_cons (e_var 0) (a_cons e_int a_nil))) (g_name (vs := [4]) sc_f_law_array.nd rfl (by decide)))
      (ss_cons (s_if (t_w (w_or (t_cmp calm_eq (op_eqS rfl hr.units) (e_var 3) e_int (nomark _)) (w_or1 (t_cmp calm_ord op_ltS (e_var 4) e_int (nomark _))))) (ss_one (s_ret (e_call C_f_law_reference hG (hr.mono (by omega)) T.g_f_law_reference T.F_f_law_reference.kp T.b_f_law_reference (a_cons (e_var 0) (a_cons (e_var 1) (a_cons (e_var 2) a_nil)))))) ss_nil)
      (ss_cons (s_if (t_cmp calm_ord op_ltS (e_var 4) e_int (nomark _)) (ss_cons (s_asg (e_tup (a_cons (e_call C_f_law_scalar hG (hr.mono (by omega)) T.g_f_law_scalar T.F_f_law_scalar.kp T.b_f_law_scalar (a_cons (e_var 0) (a_cons (e_var 1) (a_cons (e_var 2) (a_cons (e_op calm_sub op_subS (e_var 3) e_int) a_nil))))) (a_cons (e_call C_f_law_scalar hG (hr.mono (by omega)) T.g_f_law_scalar T.F_f_law_scalar.kp T.b_f_law_scalar (a_cons (e_var 0) (a_cons (e_var 1) (a_cons (e_var 2) (a_cons (e_op calm_sub op_subS (e_var 3) e_int) a_nil))))) a_nil))) (g_name (vs := [5]) sc_f_law_array.nd rfl (by decide)))
      (ss_one (s_ret (e_tup (a_cons e_str (a_cons e_str (a_cons (e_slice rfl (e_var 5) o_none (o_some (e_op calm_add (op_addS rfl) e_int (e_call C_f_law_draw hG (hr.mono (by omega)) T.g_f_law_draw T.F_f_law_draw.kp T.b_f_law_draw (a_cons (e_var 0) (a_cons e_int a_nil)))))) a_nil))))))) ss_nil)
      (ss_cons (s_asg (e_call C_f_law_array hG (hr.mono (by omega)) T.g_f_law_array T.F_f_law_array.kp T.b_f_law_array (a_cons (e_var 0) (a_cons (e_var 1) (a_cons (e_var 2) (a_cons (e_op calm_sub op_subS (e_var 3) e_int) a_nil))))) (g_name (vs := [6]) sc_f_law_array.nd rfl (by decide)))
      (ss_cons (s_if (t_cmp calm_ord op_ltS (e_var 4) e_int (nomark _)) (ss_one (s_ret (e_tup (a_cons e_str (a_cons (e_call C_f_law_choose hG (hr.mono (by omega)) T.g_f_law_choose T.F_f_law_choose.kp T.b_f_law_choose (a_cons (e_var 0) (a_cons (e_lst (a_cons e_str (a_cons e_str a_nil))) a_nil))) (a_cons (e_tup (a_cons (e_var 6) a_nil)) a_nil)))))) ss_nil)
      (ss_cons (s_if (t_cmp calm_ord op_ltS (e_var 4) e_int (nomark _)) (ss_cons (s_asg (e_call C_f_law_choose hG (hr.mono (by omega)) T.g_f_law_choose T.F_f_law_choose.kp T.b_f_law_choose (a_cons (e_var 0) (a_cons (e_lst (a_cons e_str (a_cons e_str (a_cons e_str (a_cons e_str a_nil))))) a_nil))) (g_name (vs := [7]) sc_f_law_array.nd rfl (by decide)))
      (ss_one (s_ret (e_tup (a_cons e_str (a_cons (e_var 7) (a_cons (e_var 6) (a_cons (e_call C_f_law_array hG (hr.mono (by omega)) T.g_f_law_array T.F_f_law_array.kp T.b_f_law_array (a_cons (e_var 0) (a_cons (e_var 1) (a_cons (e_var 2) (a_cons (e_op calm_sub op_subS (e_var 3) e_int) a_nil))))) a_nil)))))))) ss_nil)
      (ss_cons (s_if (t_cmp calm_eq (op_eqS rfl hr.units) (e_var 4) e_int (nomark _)) (ss_one (s_ret (e_tup (a_cons e_str (a_cons (e_call C_f_law_choose hG (hr.mono (by omega)) T.g_f_law_choose T.F_f_law_choose.kp T.b_f_law_choose (a_cons (e_var 0) (a_cons (e_lst (a_cons e_str (a_cons e_str a_nil))) a_nil))) (a_cons (e_tup (a_cons (e_var 6) (a_cons (e_call C_f_law_scalar hG (hr.mono (by omega)) T.g_f_law_scalar T.F_f_law_scalar.kp T.b_f_law_scalar (a_cons (e_var 0) (a_cons (e_var 1) (a_cons (e_var 2) (a_cons (e_op calm_sub op_subS (e_var 3) e_int) a_nil))))) a_nil))) a_nil)))))) ss_nil)
      (ss_cons (s_asg (e_call C_f_law_array hG (hr.mono (by omega)) T.g_f_law_array T.F_f_law_array.kp T.b_f_law_array (a_cons (e_var 0) (a_cons (e_var 1) (a_cons (e_var 2) (a_cons (e_op calm_sub op_subS (e_var 3) e_int) a_nil))))) (g_name (vs := [8]) sc_f_law_array.nd rfl (by decide)))
      (ss_cons (s_if (t_cmp calm_eq (op_eqS rfl hr.units) (e_var 4) e_int (nomark _)) (ss_one (s_ret (e_tup (a_cons e_str (a_cons (e_call C_f_law_choose hG (hr.mono (by omega)) T.g_f_law_choose T.F_f_law_choose.kp T.b_f_law_choose (a_cons (e_var 0) (a_cons (e_lst (a_cons e_str (a_cons e_str (a_cons e_str (a_cons e_str a_nil))))) a_nil))) (a_cons (e_tup (a_cons (e_var 6) (a_cons (e_var 8) a_nil))) a_nil)))))) ss_nil)
      (ss_one (s_ret (e_tup (a_cons e_str (a_cons e_str (a_cons (e_tup (a_cons (e_call C_f_law_scalar hG (hr.mono (by omega)) T.g_f_law_scalar T.F_f_law_scalar.kp T.b_f_law_scalar (a_cons (e_var 0) (a_cons (e_var 1) (a_cons (e_var 2) (a_cons (e_op calm_sub op_subS (e_var 3) e_int) a_nil))))) (a_cons (e_var 6) (a_cons (e_var 8) a_nil)))) a_nil)))))))))))))))
    · show FnG P w K mg base CX0 (4 + n + 1) (a 16) (fd 16) p_f_law_scalar (spS K 4 (gOf N_f_law_scalar (Lx.m_f_law_scalar (Lx.g_f_law_array n) (Lx.g_f_law_scalar n))))
      refine fn_ok (m := (Lx.m_f_law_scalar (Lx.g_f_law_array n) (Lx.g_f_law_scalar n))) (cl := fun _ => 0) T.F_f_law_scalar sc_f_law_scalar fun cdv A outer s H E hG hr => ?_
      unfold Lx.m_f_law_scalar
      exact (ss_cons (s_asg (e_call C_f_law_draw hG (hr.mono (by omega)) T.g_f_law_draw T.F_f_law_draw.kp T.b_f_law_draw (a_cons (e_var 0) (a_cons e_int a_nil))) (g_name (vs := [4]) sc_f_law_scalar.nd rfl (by decide)))
      (ss_cons (s_if (t_w (w_or (t_cmp calm_ord op_ltS (e_var 4) e_int (nomark _)) (w_or1 (t_w (w_and (t_cmp calm_eq (op_eqS rfl hr.units) (e_var 3) e_int (nomark _)) (w_and1 (t_cmp calm_ord op_ltS (e_var 4) e_int (nomark _)))))))) (ss_one (s_ret (e_tup (a_cons e_str (a_cons (e_call C_f_law_choose hG (hr.mono (by omega)) T.g_f_law_choose T.F_f_law_choose.kp T.b_f_law_choose (a_cons (e_var 0) (a_cons (e_lst (a_cons e_int (a_cons e_int (a_cons e_int (a_cons e_int (a_cons e_int (a_cons e_int (a_cons e_int (a_cons e_int a_nil))))))))) a_nil))) a_nil))))) ss_nil)
      (ss_cons (s_if (t_w (w_or (t_cmp calm_ord op_ltS (e_var 4) e_int (nomark _)) (w_or1 (t_cmp calm_eq (op_eqS rfl hr.units) (e_var 3) e_int (nomark _))))) (ss_one (s_ret (e_op calm_add (op_addS rfl) (e_tup (a_cons e_str a_nil)) (e_call C_f_law_cell hG (hr.mono (by omega)) T.g_f_law_cell T.F_f_law_cell.kp T.b_f_law_cell (a_cons (e_var 0) (a_cons (e_var 1) (a_cons (e_var 2) a_nil))))))) ss_nil)
      (ss_cons (s_if (t_cmp calm_ord op_ltS (e_var 4) e_int (nomark _)) (ss_cons (s_asg (e_call C_f_law_scalar hG (hr.mono (by omega)) T.g_f_law_scalar T.F_f_law_scalar.kp T.b_f_law_scalar (a_cons (e_var 0) (a_cons (e_var 1) (a_cons (e_var 2) (a_cons (e_op calm_sub op_subS (e_var 3) e_int) a_nil))))) (g_name (vs := [5]) sc_f_law_scalar.nd rfl (by decide)))
      (ss_cons (s_asg (e_call C_f_law_choose hG (hr.mono (by omega)) T.g_f_law_choose T.F_f_law_choose.kp T.b_f_law_choose (a_cons (e_var 0) (a_cons (e_lst (a_cons e_str (a_cons e_str (a_cons e_str (a_cons e_str (a_cons e_str (a_cons e_str (a_cons e_str a_nil)))))))) a_nil))) (g_name (vs := [6]) sc_f_law_scalar.nd rfl (by decide)))
      (ss_one (s_ret (e_tup (a_cons e_str (a_cons (e_var 6) (a_cons (e_var 5) (a_cons (e_call C_f_law_scalar hG (hr.mono (by omega)) T.g_f_law_scalar T.F_f_law_scalar.kp T.b_f_law_scalar (a_cons (e_var 0) (a_cons (e_var 1) (a_cons (e_var 2) (a_cons (e_op calm_sub op_subS (e_var 3) e_int) a_nil))))) a_nil))))))))) ss_nil)
      (ss_cons (s_if (t_cmp calm_eq (op_eqS rfl hr.units) (e_var 4) e_int (nomark _)) (ss_one (s_ret (e_tup (a_cons e_str (a_cons (e_call C_f_law_scalar hG (hr.mono (by omega)) T.g_f_law_scalar T.F_f_law_scalar.kp T.b_f_law_scalar (a_cons (e_var 0) (a_cons (e_var 1) (a_cons (e_var 2) (a_cons (e_op calm_sub op_subS (e_var 3) e_int) a_nil))))) a_nil))))) ss_nil)
      (ss_cons (s_if (t_cmp calm_eq (op_eqS rfl hr.units) (e_var 4) e_int (nomark _)) (ss_cons (s_asg (e_call C_f_law_choose hG (hr.mono (by omega)) T.g_f_law_choose T.F_f_law_choose.kp T.b_f_law_choose (a_cons (e_var 0) (a_cons (e_lst (a_cons e_str (a_cons e_str (a_cons e_str (a_cons e_str (a_cons e_str (a_cons e_str a_nil))))))) a_nil))) (g_name (vs := [7]) sc_f_law_scalar.nd rfl (by decide)))
      (ss_one (s_ret (e_tup (a_cons e_str (a_cons (e_var 7) (a_cons (e_tup (a_cons (e_call C_f_law_array hG (hr.mono (by omega)) T.g_f_law_array T.F_f_law_array.kp T.b_f_law_array (a_cons (e_var 0) (a_cons (e_var 1) (a_cons (e_var 2) (a_cons (e_op calm_sub op_subS (e_var 3) e_int) a_nil))))) a_nil)) a_nil))))))) ss_nil)
      (ss_cons (s_asg (e_tup (a_cons (e_tup (a_cons e_str (a_cons (e_op calm_add (op_addS rfl) e_int (e_call C_f_law_draw hG (hr.mono (by omega)) T.g_f_law_draw T.F_f_law_draw.kp T.b_f_law_draw (a_cons (e_var 0) (a_cons e_int a_nil)))) a_nil))) (a_cons (e_tup (a_cons e_str (a_cons (e_op calm_add (op_addS rfl) e_int (e_call C_f_law_draw hG (hr.mono (by omega)) T.g_f_law_draw T.F_f_law_draw.kp T.b_f_law_draw (a_cons (e_var 0) (a_cons e_int a_nil)))) a_nil))) a_nil))) (g_name (vs := [8]) sc_f_law_scalar.nd rfl (by decide)))
      (ss_one (s_ret (e_tup (a_cons e_str (a_cons e_str (a_cons (e_op calm_add (op_addS rfl) (e_tup (a_cons (e_call C_f_law_array hG (hr.mono (by omega)) T.g_f_law_array T.F_f_law_array.kp T.b_f_law_array (a_cons (e_var 0) (a_cons (e_var 1) (a_cons (e_var 2) (a_cons (e_op calm_sub op_subS (e_var 3) e_int) a_nil))))) a_nil)) (e_var 8)) a_nil)))))))))))))
theorem ok_f_law_array (T : Txt w K mg a fd) : FnG P w K mg base CX0 10 (a 15) (fd 15) p_f_law_array (spS K 4 (Lx.g_f_law_array 6)) := (okr_f_law_array T 6).1
theorem ok_f_law_scalar (T : Txt w K mg a fd) : FnG P w K mg base CX0 10 (a 16) (fd 16) p_f_law_scalar (spS K 4 (Lx.g_f_law_scalar 6)) := (okr_f_law_array T 6).2
theorem ok_f_law_formula (T : Txt w K mg a fd) : FnG P w K mg base CX0 11 (a 17) (fd 17) p_f_law_formula (spS K 4 Lx.g_f_law_formula) := by
  have C_f_law_array : FnG P w K mg base CX0 10 (a 15) (fd 15) p_f_law_array (spS K 4 (Lx.g_f_law_array 6)) := ok_f_law_array T
  have C_f_law_draw : FnG P w K mg base CX0 1 (a 10) (fd 10) p_f_law_draw (spS K 2 Lw.g_f_law_draw) := ok_f_law_draw T
  have C_f_law_scalar : FnG P w K mg base CX0 10 (a 16) (fd 16) p_f_law_scalar (spS K 4 (Lx.g_f_law_scalar 6)) := ok_f_law_scalar T
  refine fn_ok (m := Lx.m_f_law_formula) (cl := fun _ => 0) T.F_f_law_formula sc_f_law_formula fun cdv A outer s H E hG hr => ?_
  unfold Lx.m_f_law_formula
  exact (ss_cons (s_if (t_cmp calm_eq (op_eqS rfl hr.units) (e_call C_f_law_draw hG (hr.mono (by decide)) T.g_f_law_draw T.F_f_law_draw.kp T.b_f_law_draw (a_cons (e_var 0) (a_cons e_int a_nil))) e_int (nomark _)) (ss_one (s_ret (e_call C_f_law_scalar hG (hr.mono (by decide)) T.g_f_law_scalar T.F_f_law_scalar.kp T.b_f_law_scalar (a_cons (e_var 0) (a_cons (e_var 1) (a_cons (e_var 2) (a_cons (e_var 3) a_nil))))))) ss_nil)
      (ss_one (s_ret (e_call C_f_law_array hG (hr.mono (by decide)) T.g_f_law_array T.F_f_law_array.kp T.b_f_law_array (a_cons (e_var 0) (a_cons (e_var 1) (a_cons (e_var 2) (a_cons (e_var 3) a_nil))))))))
theorem ok_f_law_integer (T : Txt w K mg a fd) : FnG P w K mg base CX0 1 (a 18) (fd 18) p_f_law_integer (spS K 3 g_f_law_integer) := by
  refine fn_ok (m := m_f_law_integer) (cl := fun _ => 0) T.F_f_law_integer sc_f_law_integer fun cdv A outer s H E hG hr => ?_
  unfold m_f_law_integer
  exact (ss_one (s_ret (e_and (e_isi .int rfl T.z_isinstance T.z_int (by decide +kernel) (e_var 0)) (e_and (e_not (e_isi .bl rfl T.z_isinstance T.z_bool (by decide +kernel) (e_var 0))) (e_one (e_chain calm_ord calm_ord op_leS op_leS (e_var 1) (e_var 0) (e_var 2)))))))
theorem ok_f_law_cell_right (T : Txt w K mg a fd) : FnG P w K mg base CX0 2 (a 19) (fd 19) p_f_law_cell_right (spS K 1 g_f_law_cell_right) := by
  have C_f_law_integer : FnG P w K mg base CX0 1 (a 18) (fd 18) p_f_law_integer (spS K 3 g_f_law_integer) := ok_f_law_integer T
  refine fn_ok (m := m_f_law_cell_right) (cl := fun _ => 0) T.F_f_law_cell_right sc_f_law_cell_right fun cdv A outer s H E hG hr => ?_
  unfold m_f_law_cell_right
  exact (ss_one (s_ret (e_and (e_cmp calm_eq (op_eqS rfl hr.units) (e_cb (c_len rfl) T.z_len (by decide +kernel) (a_cons (e_var 0) a_nil)) e_int (nomark _)) (e_andX rfl (e_call C_f_law_integer hG (hr.mono (by decide)) T.g_f_law_integer T.F_f_law_integer.kp T.b_f_law_integer (a_cons (e_ix rfl (e_var 0) e_int) (a_cons e_int (a_cons e_int a_nil)))) (e_one (e_call C_f_law_integer hG (hr.mono (by decide)) T.g_f_law_integer T.F_f_law_integer.kp T.b_f_law_integer (a_cons (e_ix rfl (e_var 0) e_int) (a_cons e_int (a_cons e_int a_nil)))))))))
theorem okr_f_law_due (T : Txt w K mg a fd) : ∀ n : Nat, FnG P w K mg base CX0 (2 + n) (a 20) (fd 20) p_f_law_due (spS K 2 (g_f_law_due n)) ∧ FnG P w K mg base CX0 (2 + n) (a 21) (fd 21) p_f_law_call_right (spS K 2 (g_f_law_call_right n))
  | 0 => ⟨fn_no, fn_no⟩
  | n + 1 => by
    obtain ⟨C_f_law_due, C_f_law_call_right⟩ := okr_f_law_due T n
    have C_f_law_cell_right : FnG P w K mg base CX0 2 (a 19) (fd 19) p_f_law_cell_right (spS K 1 g_f_law_cell_right) := ok_f_law_cell_right T
    have C_f_law_integer : FnG P w K mg base CX0 1 (a 18) (fd 18) p_f_law_integer (spS K 3 g_f_law_integer) := ok_f_law_integer T
    refine ⟨?_, ?_⟩
    · show FnG P w K mg base CX0 (2 + n + 1) (a 20) (fd 20) p_f_law_due (spS K 2 (gOf N_f_law_due (m_f_law_due (g_f_law_due n) (g_f_law_call_right n))))
      refine fn_ok (m := (m_f_law_due (g_f_law_due n) (g_f_law_call_right n))) (cl := fun _ => 0) T.F_f_law_due sc_f_law_due fun cdv A outer s H E hG hr => ?_
      unfold m_f_law_due
      exact (ss_cons (s_if (t_w (w_or (t_not (t_tru rfl (e_isi .tup rfl T.z_isinstance T.z_tuple (by decide +kernel) (e_var 0)))) (w_or (t_cmp calm_eqT (op_eqT rfl hr.units) (e_cb (c_len rfl) T.z_len (by decide +kernel) (a_cons (e_var 0) a_nil)) e_int (nomark _)) (w_or (t_not (t_tru rfl (e_isi .str rfl T.z_isinstance T.z_str (by decide +kernel) (e_ix rfl (e_var 0) e_int)))) (w_or1 (t_cmp calm_eqT (op_eqT rfl hr.units) (e_var 1) e_int (nomark _))))))) (ss_one (s_ret e_bl)) ss_nil)
      (ss_cons (s_par (i := 2) (j := 3) rfl sc_f_law_due.nd rfl rfl (by decide) rfl rfl (a_cons (e_ix rfl (e_var 0) e_int) (a_cons (e_slice rfl (e_var 0) (o_some e_int) o_none) a_nil)) rfl)
      (ss_cons (s_if (t_cmp calm_eqT (op_eqT rfl hr.units) (e_var 2) e_str (nomark _)) (ss_one (s_ret (e_and (e_cmp calm_eqT (op_eqT rfl hr.units) (e_cb (c_len rfl) T.z_len (by decide +kernel) (a_cons (e_var 3) a_nil)) e_int (nomark _)) (e_one (e_call C_f_law_integer hG (hr.mono (by omega)) T.g_f_law_integer T.F_f_law_integer.kp T.b_f_law_integer (a_cons (e_ix rfl (e_var 3) e_int) (a_cons e_int (a_cons (e_op calm_pow op_powS e_int e_int) a_nil)))))))) ss_nil)
      (ss_cons (s_if (t_cmp calm_inT (op_inT rfl (room65 hr)) (e_var 2) (e_tup (a_cons e_str (a_cons e_str a_nil))) rfl) (ss_one (s_ret (e_call C_f_law_cell_right hG (hr.mono (by omega)) T.g_f_law_cell_right T.F_f_law_cell_right.kp T.b_f_law_cell_right (a_cons (e_var 3) a_nil)))) ss_nil)
      (ss_cons (s_if (t_cmp calm_eqT (op_eqT rfl hr.units) (e_var 2) e_str (nomark _)) (ss_cons (s_if (t_w (w_or (t_cmp calm_eq (op_neS rfl hr.units) (e_cb (c_len rfl) T.z_len (by decide +kernel) (a_cons (e_var 3) a_nil)) e_int (nomark _)) (w_or (t_not (t_tru rfl (e_call C_f_law_cell_right hG (hr.mono (by omega)) T.g_f_law_cell_right T.F_f_law_cell_right.kp T.b_f_law_cell_right (a_cons (e_slice rfl (e_var 3) o_none (o_some e_int)) a_nil)))) (w_or1 (t_not (t_tru rfl (e_call C_f_law_cell_right hG (hr.mono (by omega)) T.g_f_law_cell_right T.F_f_law_cell_right.kp T.b_f_law_cell_right (a_cons (e_slice rfl (e_var 3) (o_some e_int) o_none) a_nil)))))))) (ss_one (s_ret e_bl)) ss_nil)
      (ss_one (s_ret (e_and (e_cmp calm_ord op_leS (e_ix rfl (e_var 3) e_int) (e_ix rfl (e_var 3) e_int) (nomark _)) (e_one (e_cmp calm_ord op_leS (e_ix rfl (e_var 3) e_int) (e_ix rfl (e_var 3) e_int) (nomark _))))))) ss_nil)
      (ss_cons (s_if (t_cmp calm_eqT (op_eqT rfl hr.units) (e_var 2) e_str (nomark _)) (ss_one (s_ret (e_cmp calm_eqT (op_eqT rfl hr.units) (e_var 3) (e_tup a_nil) (nomark _)))) ss_nil)
      (ss_cons (s_if (t_cmp calm_eqT (op_eqT rfl hr.units) (e_var 2) e_str (nomark _)) (ss_one (s_ret (e_and (e_cmp calm_eqT (op_eqT rfl hr.units) (e_cb (c_len rfl) T.z_len (by decide +kernel) (a_cons (e_var 3) a_nil)) e_int (nomark _)) (e_one (e_call C_f_law_due hG (hr.mono (by omega)) T.g_f_law_due T.F_f_law_due.kp T.b_f_law_due (a_cons (e_ix rfl (e_var 3) e_int) (a_cons (e_op calm_sub op_subS (e_var 1) e_int) a_nil))))))) ss_nil)
      (ss_cons (s_if (t_cmp calm_eqT (op_eqT rfl hr.units) (e_var 2) e_str (nomark _)) (ss_cons (s_if (t_w (w_or (t_cmp calm_eq (op_neS rfl hr.units) (e_cb (c_len rfl) T.z_len (by decide +kernel) (a_cons (e_var 3) a_nil)) e_int (nomark _)) (w_or1 (t_not (t_tru rfl (e_isi .str rfl T.z_isinstance T.z_str (by decide +kernel) (e_ix rfl (e_var 3) e_int))))))) (ss_one (s_ret e_bl)) ss_nil)
      (ss_cons (s_if (t_cmp calm_in (op_notInS rfl (room65 hr)) (e_ix rfl (e_var 3) e_int) (e_tup (a_cons e_str (a_cons e_str (a_cons e_str (a_cons e_str (a_cons e_str (a_cons e_str (a_cons e_str a_nil)))))))) rfl) (ss_one (s_ret e_bl)) ss_nil)
      (ss_one (s_ret (e_andX rfl (e_call C_f_law_due hG (hr.mono (by omega)) T.g_f_law_due T.F_f_law_due.kp T.b_f_law_due (a_cons (e_ix rfl (e_var 3) e_int) (a_cons (e_op calm_sub op_subS (e_var 1) e_int) a_nil))) (e_one (e_call C_f_law_due hG (hr.mono (by omega)) T.g_f_law_due T.F_f_law_due.kp T.b_f_law_due (a_cons (e_ix rfl (e_var 3) e_int) (a_cons (e_op calm_sub op_subS (e_var 1) e_int) a_nil))))))))) ss_nil)
      (ss_one (s_ret (e_and (e_cmp calm_eqT (op_eqT rfl hr.units) (e_var 2) e_str (nomark _)) (e_one (e_call C_f_law_call_right hG (hr.mono (by omega)) T.g_f_law_call_right T.F_f_law_call_right.kp T.b_f_law_call_right (a_cons (e_var 3) (a_cons (e_var 1) a_nil)))))))))))))))
    · show FnG P w K mg base CX0 (2 + n + 1) (a 21) (fd 21) p_f_law_call_right (spS K 2 (gOf N_f_law_call_right (m_f_law_call_right (g_f_law_due n) (g_f_law_call_right n))))
      refine fn_ok (m := (m_f_law_call_right (g_f_law_due n) (g_f_law_call_right n))) (cl := fun _ => 0) T.F_f_law_call_right sc_f_law_call_right fun cdv A outer s H E hG hr => ?_
      unfold m_f_law_call_right L2_f_law_call_right L1_f_law_call_right
      exact (ss_cons (s_asg (e_dict (d_cons e_str (e_tup (a_cons e_int (a_cons e_int a_nil))) (d_cons e_str (e_tup (a_cons e_int a_nil)) (d_cons e_str (e_tup (a_cons e_int a_nil)) d_nil))) rfl rfl (fun z => nomatch z) (by decide)) (g_name (vs := [2]) sc_f_law_call_right.nd rfl (by decide)))
      (ss_cons (s_for PassesOwn.never rfl (i_list rfl (e_lst (a_cons e_str (a_cons e_str (a_cons e_str (a_cons e_str (a_cons e_str (a_cons e_str (a_cons e_str (a_cons e_str a_nil)))))))))) (g_name (vs := [3]) sc_f_law_call_right.nd rfl (by decide)) (ss_one (s_dput (hu1 hr) (e_var 2) (e_var 3) (e_tup (a_cons e_int a_nil)))))
      (ss_cons (s_for PassesOwn.never rfl (i_list rfl (e_lst (a_cons e_str (a_cons e_str (a_cons e_str (a_cons e_str (a_cons e_str (a_cons e_str a_nil)))))))) (g_name (vs := [3]) sc_f_law_call_right.nd rfl (by decide)) (ss_one (s_dput (hu1 hr) (e_var 2) (e_var 3) (e_tup (a_cons e_int a_nil)))))
      (ss_cons (s_if (t_w (w_or (t_cmp calm_eq (op_neS rfl hr.units) (e_cb (c_len rfl) T.z_len (by decide +kernel) (a_cons (e_var 0) a_nil)) e_int (nomark _)) (w_or (t_not (t_tru rfl (e_isi .str rfl T.z_isinstance T.z_str (by decide +kernel) (e_ix rfl (e_var 0) e_int)))) (w_or1 (t_not (t_tru rfl (e_isi .tup rfl T.z_isinstance T.z_tuple (by decide +kernel) (e_ix rfl (e_var 0) e_int)))))))) (ss_one (s_ret e_bl)) ss_nil)
      (ss_cons (s_if (t_cmp calm_in (op_notInS rfl (room65 hr)) (e_cb (c_len rfl) T.z_len (by decide +kernel) (a_cons (e_ix rfl (e_var 0) e_int) a_nil)) (e_dget rfl (hu1 hr) (e_var 2) (e_ix rfl (e_var 0) e_int) (e_tup a_nil) ⟨rfl, rfl, rfl, rfl⟩) rfl) (ss_one (s_ret e_bl)) ss_nil)
      (ss_one (s_ret (e_cmp calm_eqT (op_eqT rfl hr.units) (e_lc (own := [("part", 4)]) (fun _ _ _ h => h) rfl sc_f_law_call_right.nd (i_tup rfl (e_ix rfl (e_var 0) e_int)) (blkOk_by (own := [("part", 4)]) (N := N_f_law_call_right) (sc := defScope s_f_law_call_right) (by decide +kernel)) (fun _ _ _ _ _ => (g_name (vs := [4]) sc_f_law_call_right.nd rfl (by decide))) (fun _ _ _ _ _ => (pts_one (t_not (t_tru rfl (e_call C_f_law_due hG (hr.mono (by omega)) T.g_f_law_due T.F_f_law_due.kp T.b_f_law_due (a_cons (e_var 4) (a_cons (e_op calm_sub op_subS (e_var 1) e_int) a_nil))))))) (fun _ _ _ _ _ => (e_var 4))) (e_lst a_nil) (nomark _)))))))))
theorem ok_f_law_due (T : Txt w K mg a fd) : FnG P w K mg base CX0 28 (a 20) (fd 20) p_f_law_due (spS K 2 (g_f_law_due 26)) := (okr_f_law_due T 26).1
theorem ok_f_law_call_right (T : Txt w K mg a fd) : FnG P w K mg base CX0 28 (a 21) (fd 21) p_f_law_call_right (spS K 2 (g_f_law_call_right 26)) := (okr_f_law_due T 26).2
theorem ok_f_law_other (T : Txt w K mg a fd) : FnG P w K mg base CX0 3 (a 22) (fd 22) p_f_law_other (spS K 1 g_f_law_other) := by
  have C_f_law_choose : FnG P w K mg base CX0 2 (a 11) (fd 11) p_f_law_choose (spS K 2 Lw.g_f_law_choose) := ok_f_law_choose T
  refine fn_ok (m := m_f_law_other) (cl := fun _ => 0) T.F_f_law_other sc_f_law_other fun cdv A outer s H E hG hr => ?_
  unfold m_f_law_other
  exact (ss_cons (s_asg (e_lst (a_cons e_non (a_cons e_bl (a_cons e_bl (a_cons e_int (a_cons e_int (a_cons e_int (a_cons e_int (a_cons (e_neg e_int) (a_cons (e_op calm_pow op_powS e_int e_int) (a_cons (e_op calm_add (op_addS rfl) (e_op calm_pow op_powS e_int e_int) e_int) (a_cons e_str (a_cons e_str (a_cons e_str (a_cons e_str (a_cons e_str (a_cons e_str a_nil))))))))))))))))) (g_name (vs := [1]) sc_f_law_other.nd rfl (by decide)))
      (ss_cons (s_asg (e_op calm_add (op_addS rfl) (e_var 1) (e_lst (a_cons e_str (a_cons e_str (a_cons e_str (a_cons e_str (a_cons e_str (a_cons e_str (a_cons e_str (a_cons e_str (a_cons e_str (a_cons e_str (a_cons e_str (a_cons e_str (a_cons e_str (a_cons e_str a_nil)))))))))))))))) (g_name (vs := [1]) sc_f_law_other.nd rfl (by decide)))
      (ss_cons (s_asg (e_op calm_add (op_addS rfl) (e_var 1) (e_lst (a_cons (e_tup a_nil) (a_cons (e_lst a_nil) (a_cons e_dnew (a_cons (e_tup (a_cons e_str (a_cons e_int a_nil))) (a_cons (e_tup (a_cons e_str (a_cons e_int (a_cons e_int a_nil)))) (a_cons (e_tup (a_cons e_str a_nil)) (a_cons (e_tup (a_cons (e_tup (a_cons e_str (a_cons e_int a_nil))) (a_cons (e_tup (a_cons e_str (a_cons e_int a_nil))) a_nil))) (a_cons (e_lst (a_cons e_int a_nil)) (a_cons (e_tup (a_cons e_int a_nil)) a_nil))))))))))) (g_name (vs := [1]) sc_f_law_other.nd rfl (by decide)))
      (ss_one (s_ret (e_call C_f_law_choose hG (hr.mono (by decide)) T.g_f_law_choose T.F_f_law_choose.kp T.b_f_law_choose (a_cons (e_var 0) (a_cons (e_var 1) a_nil))))))))
theorem okr_f_law_bent (T : Txt w K mg a fd) : ∀ n : Nat, FnG P w K mg base CX0 (3 + n) (a 23) (fd 23) p_f_law_bent (spS K 2 (g_f_law_bent n))
  | 0 => fn_no
  | n + 1 => by
    have C_f_law_bent := okr_f_law_bent T n
    have C_f_law_draw : FnG P w K mg base CX0 1 (a 10) (fd 10) p_f_law_draw (spS K 2 Lw.g_f_law_draw) := ok_f_law_draw T
    have C_f_law_other : FnG P w K mg base CX0 3 (a 22) (fd 22) p_f_law_other (spS K 1 g_f_law_other) := ok_f_law_other T
    have C_f_law_choose : FnG P w K mg base CX0 2 (a 11) (fd 11) p_f_law_choose (spS K 2 Lw.g_f_law_choose) := ok_f_law_choose T
    · show FnG P w K mg base CX0 (3 + n + 1) (a 23) (fd 23) p_f_law_bent (spS K 2 (gOf N_f_law_bent (m_f_law_bent (g_f_law_bent n))))
      refine fn_ok (m := (m_f_law_bent (g_f_law_bent n))) (cl := fun _ => 0) T.F_f_law_bent sc_f_law_bent fun cdv A outer s H E hG hr => ?_
      unfold m_f_law_bent
      exact (ss_cons (s_if (t_w (w_or (t_not (t_tru rfl (e_isi .tup rfl T.z_isinstance T.z_tuple (by decide +kernel) (e_var 1)))) (w_or (t_cmp calm_eqT (op_eqT rfl hr.units) (e_var 1) (e_tup a_nil) (nomark _)) (w_or1 (t_cmp calm_eqT (op_eqT rfl hr.units) (e_call C_f_law_draw hG (hr.mono (by omega)) T.g_f_law_draw T.F_f_law_draw.kp T.b_f_law_draw (a_cons (e_var 0) (a_cons e_int a_nil))) e_int (nomark _)))))) (ss_one (s_ret (e_call C_f_law_other hG (hr.mono (by omega)) T.g_f_law_other T.F_f_law_other.kp T.b_f_law_other (a_cons (e_var 0) a_nil)))) ss_nil)
      (ss_cons (s_asg (e_call C_f_law_draw hG (hr.mono (by omega)) T.g_f_law_draw T.F_f_law_draw.kp T.b_f_law_draw (a_cons (e_var 0) (a_cons (e_cb (c_len rfl) T.z_len (by decide +kernel) (a_cons (e_var 1) a_nil)) a_nil))) (g_name (vs := [2]) sc_f_law_bent.nd rfl (by decide)))
      (ss_cons (s_asg (e_call C_f_law_draw hG (hr.mono (by omega)) T.g_f_law_draw T.F_f_law_draw.kp T.b_f_law_draw (a_cons (e_var 0) (a_cons e_int a_nil))) (g_name (vs := [3]) sc_f_law_bent.nd rfl (by decide)))
      (ss_cons (s_if (t_cmp calm_eqT (op_eqT rfl hr.units) (e_var 3) e_int (nomark _)) (ss_one (s_ret (e_op calm_add (op_addS rfl) (e_slice rfl (e_var 1) o_none (o_some (e_var 2))) (e_slice rfl (e_var 1) (o_some (e_op calm_add (op_addS rfl) (e_var 2) e_int)) o_none)))) ss_nil)
      (ss_cons (s_if (t_cmp calm_eqT (op_eqT rfl hr.units) (e_var 3) e_int (nomark _)) (ss_one (s_ret (e_op calm_add (op_addS rfl) (e_slice rfl (e_var 1) o_none (o_some (e_op calm_add (op_addS rfl) (e_var 2) e_int))) (e_slice rfl (e_var 1) (o_some (e_var 2)) o_none)))) ss_nil)
      (ss_cons (s_if (t_cmp calm_eqT (op_eqT rfl hr.units) (e_var 3) e_int (nomark _)) (ss_one (s_ret (e_op calm_add (op_addS rfl) (e_op calm_add (op_addS rfl) (e_slice rfl (e_var 1) o_none (o_some (e_var 2))) (e_tup (a_cons (e_call C_f_law_other hG (hr.mono (by omega)) T.g_f_law_other T.F_f_law_other.kp T.b_f_law_other (a_cons (e_var 0) a_nil)) a_nil))) (e_slice rfl (e_var 1) (o_some (e_var 2)) o_none)))) ss_nil)
      (ss_cons (s_if (t_cmp calm_eqT (op_eqT rfl hr.units) (e_var 3) e_int (nomark _)) (ss_one (s_ret (e_op calm_add (op_addS rfl) (e_op calm_add (op_addS rfl) (e_slice rfl (e_var 1) o_none (o_some (e_var 2))) (e_tup (a_cons (e_call C_f_law_choose hG (hr.mono (by omega)) T.g_f_law_choose T.F_f_law_choose.kp T.b_f_law_choose (a_cons (e_var 0) (a_cons (e_var 1) a_nil))) a_nil))) (e_slice rfl (e_var 1) (o_some (e_op calm_add (op_addS rfl) (e_var 2) e_int)) o_none)))) ss_nil)
      (ss_cons (s_if (t_cmp calm_eqT (op_eqT rfl hr.units) (e_var 3) e_int (nomark _)) (ss_one (s_ret (e_ct (c_list rfl) T.z_list (by decide +kernel) (a_cons (e_var 1) a_nil)))) ss_nil)
      (ss_one (s_ret (e_op calm_add (op_addS rfl) (e_op calm_add (op_addS rfl) (e_slice rfl (e_var 1) o_none (o_some (e_var 2))) (e_tup (a_cons (e_call C_f_law_bent hG (hr.mono (by omega)) T.g_f_law_bent T.F_f_law_bent.kp T.b_f_law_bent (a_cons (e_var 0) (a_cons (e_ix rfl (e_var 1) (e_var 2)) a_nil))) a_nil))) (e_slice rfl (e_var 1) (o_some (e_op calm_add (op_addS rfl) (e_var 2) e_int)) o_none))))))))))))
theorem ok_f_law_bent (T : Txt w K mg a fd) : FnG P w K mg base CX0 63 (a 23) (fd 23) p_f_law_bent (spS K 2 (g_f_law_bent 60)) := (okr_f_law_bent T 60)
theorem ok_f_law_right (T : Txt w K mg a fd) : FnG P w K mg base CX0 29 (a 24) (fd 24) p_f_law_right (spS K 1 g_f_law_right) := by
  have C_f_is_expression : FnG P w K mg base CX0 5 (a 8) (fd 8) p_f_is_expression (spS K 1 g_f_is_expression) := ok_f_is_expression T
  have C_f_law_due : FnG P w K mg base CX0 28 (a 20) (fd 20) p_f_law_due (spS K 2 (g_f_law_due 26)) := ok_f_law_due T
  refine fn_ok (m := m_f_law_right) (cl := fun _ => 0) T.F_f_law_right sc_f_law_right fun cdv A outer s H E hG hr => ?_
  unfold m_f_law_right
  exact (ss_cons (s_asg (e_cb (c_reprX rfl hG (room65 hr)) T.z_repr (by decide +kernel) (a_cons (e_var 0) a_nil)) (g_name (vs := [1]) sc_f_law_right.nd rfl (by decide)))
      (ss_cons (s_asg (e_call C_f_is_expression hG (hr.mono (by decide)) T.g_f_is_expression T.F_f_is_expression.kp T.b_f_is_expression (a_cons (e_var 0) a_nil)) (g_name (vs := [2]) sc_f_law_right.nd rfl (by decide)))
      (ss_one (s_ret (e_and (e_isi .bl rfl T.z_isinstance T.z_bool (by decide +kernel) (e_var 2)) (e_and (e_cmp calm_eq (op_eqS rfl hr.units) (e_var 2) (e_call C_f_law_due hG (hr.mono (by decide)) T.g_f_law_due T.F_f_law_due.kp T.b_f_law_due (a_cons (e_var 0) (a_cons e_int a_nil))) (nomark _)) (e_one (e_cmp calm_eq (op_eqS rfl hr.units) (e_cb (c_reprX rfl hG (room65 hr)) T.z_repr (by decide +kernel) (a_cons (e_var 0) a_nil)) (e_var 1) (nomark _)))))))))
theorem ok_f_law (T : Txt w K mg a fd) : FnG P w K mg base CX0 64 (a 25) (fd 25) p_f_law (spS K 1 g_f_law) := by
  have C_f_law_stream : FnG P w K mg base CX0 1 (a 9) (fd 9) p_f_law_stream (spS K 2 Lw.g_f_law_stream) := ok_f_law_stream T
  have C_f_law_formula : FnG P w K mg base CX0 11 (a 17) (fd 17) p_f_law_formula (spS K 4 Lx.g_f_law_formula) := ok_f_law_formula T
  have C_f_law_choose : FnG P w K mg base CX0 2 (a 11) (fd 11) p_f_law_choose (spS K 2 Lw.g_f_law_choose) := ok_f_law_choose T
  have C_f_law_right : FnG P w K mg base CX0 29 (a 24) (fd 24) p_f_law_right (spS K 1 g_f_law_right) := ok_f_law_right T
  have C_f_law_draw : FnG P w K mg base CX0 1 (a 10) (fd 10) p_f_law_draw (spS K 2 Lw.g_f_law_draw) := ok_f_law_draw T
  have C_f_law_bent : FnG P w K mg base CX0 63 (a 23) (fd 23) p_f_law_bent (spS K 2 (g_f_law_bent 60)) := ok_f_law_bent T
  refine fn_ok (m := m_f_law) (cl := fun _ => 0) T.F_f_law sc_f_law fun cdv A outer s H E hG hr => ?_
  unfold m_f_law L5_f_law L4_f_law L3_f_law L2_f_law L1_f_law
  exact (ss_cons (s_for PassesOwn.never rfl (i_range1 T.z_range (a_cons (e_cb (c_max rfl) T.z_max (by decide +kernel) (a_cons e_int (a_cons (e_cb (c_min rfl) T.z_min (by decide +kernel) (a_cons e_int (a_cons (e_cb (c_len rfl) T.z_len (by decide +kernel) (a_cons (e_var 0) a_nil)) a_nil))) a_nil))) a_nil)) (g_name (vs := [1]) sc_f_law.nd rfl (by decide)) (ss_cons (s_asg (e_call C_f_law_stream hG (hr.mono (by decide)) T.g_f_law_stream T.F_f_law_stream.kp T.b_f_law_stream (a_cons (e_var 0) (a_cons (e_var 1) a_nil))) (g_name (vs := [2]) sc_f_law.nd rfl (by decide)))
      (ss_cons (s_asg (e_lst (a_cons (e_call C_f_law_formula hG (hr.mono (by decide)) T.g_f_law_formula T.F_f_law_formula.kp T.b_f_law_formula (a_cons (e_var 2) (a_cons e_int (a_cons e_int (a_cons (e_op calm_add (op_addS rfl) e_int (e_call C_f_law_draw hG (hr.mono (by decide)) T.g_f_law_draw T.F_f_law_draw.kp T.b_f_law_draw (a_cons (e_var 2) (a_cons e_int a_nil)))) a_nil))))) (a_cons (e_call C_f_law_formula hG (hr.mono (by decide)) T.g_f_law_formula T.F_f_law_formula.kp T.b_f_law_formula (a_cons (e_var 2) (a_cons e_int (a_cons e_int (a_cons e_int a_nil))))) a_nil))) (g_name (vs := [3]) sc_f_law.nd rfl (by decide)))
      (ss_cons (s_for PassesOwn.never rfl (i_range1 T.z_range (a_cons (e_op calm_add (op_addS rfl) e_int (e_call C_f_law_draw hG (hr.mono (by decide)) T.g_f_law_draw T.F_f_law_draw.kp T.b_f_law_draw (a_cons (e_var 2) (a_cons e_int a_nil)))) a_nil)) (g_name (vs := [4]) sc_f_law.nd rfl (by decide)) (ss_cons (s_asg (e_tup (a_cons e_str (a_cons e_int a_nil))) (g_name (vs := [5]) sc_f_law.nd rfl (by decide)))
      (ss_cons (s_asg (e_lst (a_cons (e_tup (a_cons e_str (a_cons (e_ix rfl (e_var 3) e_int) a_nil))) (a_cons (e_tup (a_cons e_str (a_cons e_str (a_cons (e_tup (a_cons (e_ix rfl (e_var 3) e_int) a_nil)) a_nil)))) (a_cons (e_tup (a_cons e_str (a_cons e_str (a_cons (e_var 5) (a_cons (e_ix rfl (e_var 3) e_int) a_nil))))) a_nil)))) (g_name (vs := [6]) sc_f_law.nd rfl (by decide)))
      (ss_cons (s_asg (e_op calm_add (op_addS rfl) (e_var 6) (e_lst (a_cons (e_tup (a_cons e_str (a_cons e_str (a_cons (e_tup (a_cons (e_var 5) (a_cons (e_ix rfl (e_var 3) e_int) a_nil))) a_nil)))) (a_cons (e_tup (a_cons e_str (a_cons e_str (a_cons (e_tup (a_cons (e_var 5) (a_cons (e_var 5) (a_cons (e_ix rfl (e_var 3) e_int) a_nil)))) a_nil)))) a_nil)))) (g_name (vs := [6]) sc_f_law.nd rfl (by decide)))
      (ss_one (s_asg (e_call C_f_law_choose hG (hr.mono (by decide)) T.g_f_law_choose T.F_f_law_choose.kp T.b_f_law_choose (a_cons (e_var 2) (a_cons (e_var 6) a_nil))) (g_ix (vs := []) (e_var 3) e_int)))))))
      (ss_one (s_for PassesOwn.never rfl (i_list rfl (e_var 3)) (g_name (vs := [7]) sc_f_law.nd rfl (by decide)) (ss_cons (s_if (t_not (t_tru rfl (e_call C_f_law_right hG (hr.mono (by decide)) T.g_f_law_right T.F_f_law_right.kp T.b_f_law_right (a_cons (e_var 7) a_nil)))) (ss_one (s_ret e_bl)) ss_nil)
      (ss_one (s_for PassesOwn.never rfl (i_range1 T.z_range (a_cons e_int a_nil)) (g_name (vs := [4]) sc_f_law.nd rfl (by decide)) (ss_cons (s_asg (e_call C_f_law_bent hG (hr.mono (by decide)) T.g_f_law_bent T.F_f_law_bent.kp T.b_f_law_bent (a_cons (e_var 2) (a_cons (e_var 7) a_nil))) (g_name (vs := [8]) sc_f_law.nd rfl (by decide)))
      (ss_cons (s_if (t_cmp calm_ord op_gtS (e_var 4) e_int (nomark _)) (ss_one (s_asg (e_call C_f_law_bent hG (hr.mono (by decide)) T.g_f_law_bent T.F_f_law_bent.kp T.b_f_law_bent (a_cons (e_var 2) (a_cons (e_var 8) a_nil))) (g_name (vs := [8]) sc_f_law.nd rfl (by decide)))) ss_nil)
      (ss_one (s_if (t_not (t_tru rfl (e_call C_f_law_right hG (hr.mono (by decide)) T.g_f_law_right T.F_f_law_right.kp T.b_f_law_right (a_cons (e_var 8) a_nil)))) (ss_one (s_ret e_bl)) ss_nil)))))))))))))
      (ss_cons (s_for PassesOwn.never rfl (i_list rfl (e_lst (a_cons e_non (a_cons e_int (a_cons e_bl (a_cons e_str (a_cons e_str (a_cons (e_lst a_nil) (a_cons (e_tup a_nil) (a_cons e_dnew (a_cons (e_tup (a_cons e_str a_nil)) (a_cons (e_tup (a_cons e_str (a_cons e_bl a_nil))) (a_cons (e_lst (a_cons e_str (a_cons e_int a_nil))) (a_cons (e_tup (a_cons e_str (a_cons e_int a_nil))) a_nil)))))))))))))) (g_name (vs := [7]) sc_f_law.nd rfl (by decide)) (ss_one (s_if (t_not (t_tru rfl (e_call C_f_law_right hG (hr.mono (by decide)) T.g_f_law_right T.F_f_law_right.kp T.b_f_law_right (a_cons (e_var 7) a_nil)))) (ss_one (s_ret e_bl)) ss_nil)))
      (ss_one (s_ret e_bl))))
end
/-! ### the head -/
theorem all_mk {l : PySem.W.OpenLaw} {w : World} {K : PySem.W.Frag} {h : Heap} {mg : Str → Option Value} {fa : Addr} (X : K.In h) (G : h.Ns mainGlobals mg) (hfa : mg "law" = some (.ref fa))
    {f0 f1 f2 f3 f4 f5 f6 f7 f8 f9 f10 f11 f12 f13 f14 f15 f16 f17 f18 f19 f20 f21 f22 f23 f24 f25 : Addr} {od0 an0 od1 an1 od2 an2 od3 an3 od4 an4 od5 an5 od6 an6 od7 an7 od8 an8 od9 an9 od10 an10 od11 an11 od12 an12 od13 an13 od14 an14 od15 an15 od16 an16 od17 an17 od18 an18 od19 an19 od20 an20 od21 an21 od22 an22 od23 an23 od24 an24 od25 an25 : Option Addr} {sl0 sl1 sl2 sl3 sl4 sl5 sl6 sl7 sl8 sl9 sl10 sl11 sl12 sl13 sl14 sl15 sl16 sl17 sl18 sl19 sl20 sl21 sl22 sl23 sl24 sl25 : Array (Option Value)} {oc0 kV0 dc0 pm0 cd0 ct0 oc1 kV1 dc1 pm1 cd1 ct1 oc2 kV2 dc2 pm2 cd2 ct2 oc3 kV3 dc3 pm3 cd3 ct3 oc4 kV4 dc4 pm4 cd4 ct4 oc5 kV5 dc5 pm5 cd5 ct5 oc6 kV6 dc6 pm6 cd6 ct6 oc7 kV7 dc7 pm7 cd7 ct7 oc8 kV8 dc8 pm8 cd8 ct8 oc9 kV9 dc9 pm9 cd9 ct9 oc10 kV10 dc10 pm10 cd10 ct10 oc11 kV11 dc11 pm11 cd11 ct11 oc12 kV12 dc12 pm12 cd12 ct12 oc13 kV13 dc13 pm13 cd13 ct13 oc14 kV14 dc14 pm14 cd14 ct14 oc15 kV15 dc15 pm15 cd15 ct15 oc16 kV16 dc16 pm16 cd16 ct16 oc17 kV17 dc17 pm17 cd17 ct17 oc18 kV18 dc18 pm18 cd18 ct18 oc19 kV19 dc19 pm19 cd19 ct19 oc20 kV20 dc20 pm20 cd20 ct20 oc21 kV21 dc21 pm21 cd21 ct21 oc22 kV22 dc22 pm22 cd22 ct22 oc23 kV23 dc23 pm23 cd23 ct23 oc24 kV24 dc24 pm24 cd24 ct24 oc25 kV25 dc25 pm25 cd25 ct25 : Value}
    {wt_GRID_SIZE : Tok}
    {wt_LARGEST_DEPTH : Tok}
    {wt_LARGEST_NUMBER : Tok}
    {w_OPERATORS : Addr} {wd_OPERATORS : Option Addr} {ws_OPERATORS : Array (Option Value)} {wu_OPERATORS : Array Value} {wn_OPERATORS : Nat}
    {w_FUNCTIONS : Addr} {we_FUNCTIONS : Array DictEntry} {wn_FUNCTIONS : Nat}
    {w_FUNCTIONS_0 : Addr} {wd_FUNCTIONS_0 : Option Addr} {ws_FUNCTIONS_0 : Array (Option Value)} {wu_FUNCTIONS_0 : Array Value} {wn_FUNCTIONS_0 : Nat}
    {w_FUNCTIONS_1 : Addr} {wd_FUNCTIONS_1 : Option Addr} {ws_FUNCTIONS_1 : Array (Option Value)} {wu_FUNCTIONS_1 : Array Value} {wn_FUNCTIONS_1 : Nat}
    {w_FUNCTIONS_2 : Addr} {wd_FUNCTIONS_2 : Option Addr} {ws_FUNCTIONS_2 : Array (Option Value)} {wu_FUNCTIONS_2 : Array Value} {wn_FUNCTIONS_2 : Nat}
    {w_FUNCTIONS_3 : Addr} {wd_FUNCTIONS_3 : Option Addr} {ws_FUNCTIONS_3 : Array (Option Value)} {wu_FUNCTIONS_3 : Array Value} {wn_FUNCTIONS_3 : Nat}
    {w_FUNCTIONS_4 : Addr} {wd_FUNCTIONS_4 : Option Addr} {ws_FUNCTIONS_4 : Array (Option Value)} {wu_FUNCTIONS_4 : Array Value} {wn_FUNCTIONS_4 : Nat}
    {w_FUNCTIONS_5 : Addr} {wd_FUNCTIONS_5 : Option Addr} {ws_FUNCTIONS_5 : Array (Option Value)} {wu_FUNCTIONS_5 : Array Value} {wn_FUNCTIONS_5 : Nat}
    {w_FUNCTIONS_6 : Addr} {wd_FUNCTIONS_6 : Option Addr} {ws_FUNCTIONS_6 : Array (Option Value)} {wu_FUNCTIONS_6 : Array Value} {wn_FUNCTIONS_6 : Nat}
    {w_FUNCTIONS_7 : Addr} {wd_FUNCTIONS_7 : Option Addr} {ws_FUNCTIONS_7 : Array (Option Value)} {wu_FUNCTIONS_7 : Array Value} {wn_FUNCTIONS_7 : Nat}
    {w_FUNCTIONS_8 : Addr} {wd_FUNCTIONS_8 : Option Addr} {ws_FUNCTIONS_8 : Array (Option Value)} {wu_FUNCTIONS_8 : Array Value} {wn_FUNCTIONS_8 : Nat}
    {w_FUNCTIONS_9 : Addr} {wd_FUNCTIONS_9 : Option Addr} {ws_FUNCTIONS_9 : Array (Option Value)} {wu_FUNCTIONS_9 : Array Value} {wn_FUNCTIONS_9 : Nat}
    {w_FUNCTIONS_10 : Addr} {wd_FUNCTIONS_10 : Option Addr} {ws_FUNCTIONS_10 : Array (Option Value)} {wu_FUNCTIONS_10 : Array Value} {wn_FUNCTIONS_10 : Nat}
    {w_FUNCTIONS_11 : Addr} {wd_FUNCTIONS_11 : Option Addr} {ws_FUNCTIONS_11 : Array (Option Value)} {wu_FUNCTIONS_11 : Array Value} {wn_FUNCTIONS_11 : Nat}
    {w_FUNCTIONS_12 : Addr} {wd_FUNCTIONS_12 : Option Addr} {ws_FUNCTIONS_12 : Array (Option Value)} {wu_FUNCTIONS_12 : Array Value} {wn_FUNCTIONS_12 : Nat}
    {w_FUNCTIONS_13 : Addr} {wd_FUNCTIONS_13 : Option Addr} {ws_FUNCTIONS_13 : Array (Option Value)} {wu_FUNCTIONS_13 : Array Value} {wn_FUNCTIONS_13 : Nat}
    {w_FUNCTIONS_14 : Addr} {wd_FUNCTIONS_14 : Option Addr} {ws_FUNCTIONS_14 : Array (Option Value)} {wu_FUNCTIONS_14 : Array Value} {wn_FUNCTIONS_14 : Nat}
    {w_FUNCTIONS_15 : Addr} {wd_FUNCTIONS_15 : Option Addr} {ws_FUNCTIONS_15 : Array (Option Value)} {wu_FUNCTIONS_15 : Array Value} {wn_FUNCTIONS_15 : Nat}
    {w_FUNCTIONS_16 : Addr} {wd_FUNCTIONS_16 : Option Addr} {ws_FUNCTIONS_16 : Array (Option Value)} {wu_FUNCTIONS_16 : Array Value} {wn_FUNCTIONS_16 : Nat}
    (a0 : PySem.W.nsIn K mainGlobals "is_integer_between" = some (some (.ref f0)))
    (l0 : K.lookup f0 = some ⟨oc0, od0, .func (PySem.W.fnOf "is_integer_between" "is_integer_between" (defArgs s_f_is_integer_between) (defBody s_f_is_integer_between) (defScope s_f_is_integer_between) .none kV0 dc0 pm0 an0 cd0 ct0), sl0⟩)
    (c0 : PySem.W.codeIn K cd0 "is_integer_between" = true) (k0 : PySem.W.keepIn K (.ref f0) = true)
    (a1 : PySem.W.nsIn K mainGlobals "is_index" = some (some (.ref f1)))
    (l1 : K.lookup f1 = some ⟨oc1, od1, .func (PySem.W.fnOf "is_index" "is_index" (defArgs s_f_is_index) (defBody s_f_is_index) (defScope s_f_is_index) .none kV1 dc1 pm1 an1 cd1 ct1), sl1⟩)
    (c1 : PySem.W.codeIn K cd1 "is_index" = true) (k1 : PySem.W.keepIn K (.ref f1) = true)
    (a2 : PySem.W.nsIn K mainGlobals "is_cell" = some (some (.ref f2)))
    (l2 : K.lookup f2 = some ⟨oc2, od2, .func (PySem.W.fnOf "is_cell" "is_cell" (defArgs s_f_is_cell) (defBody s_f_is_cell) (defScope s_f_is_cell) .none kV2 dc2 pm2 an2 cd2 ct2), sl2⟩)
    (c2 : PySem.W.codeIn K cd2 "is_cell" = true) (k2 : PySem.W.keepIn K (.ref f2) = true)
    (a3 : PySem.W.nsIn K mainGlobals "is_area" = some (some (.ref f3)))
    (l3 : K.lookup f3 = some ⟨oc3, od3, .func (PySem.W.fnOf "is_area" "is_area" (defArgs s_f_is_area) (defBody s_f_is_area) (defScope s_f_is_area) .none kV3 dc3 pm3 an3 cd3 ct3), sl3⟩)
    (c3 : PySem.W.codeIn K cd3 "is_area" = true) (k3 : PySem.W.keepIn K (.ref f3) = true)
    (a4 : PySem.W.nsIn K mainGlobals "subexpressions_of" = some (some (.ref f4)))
    (l4 : K.lookup f4 = some ⟨oc4, od4, .func (PySem.W.fnOf "subexpressions_of" "subexpressions_of" (defArgs s_f_subexpressions_of) (defBody s_f_subexpressions_of) (defScope s_f_subexpressions_of) .none kV4 dc4 pm4 an4 cd4 ct4), sl4⟩)
    (c4 : PySem.W.codeIn K cd4 "subexpressions_of" = true) (k4 : PySem.W.keepIn K (.ref f4) = true)
    (a5 : PySem.W.nsIn K mainGlobals "_one_level_deeper" = some (some (.ref f5)))
    (l5 : K.lookup f5 = some ⟨oc5, od5, .func (PySem.W.fnOf "_one_level_deeper" "_one_level_deeper" (defArgs s_f_one_level_deeper) (defBody s_f_one_level_deeper) (defScope s_f_one_level_deeper) .none kV5 dc5 pm5 an5 cd5 ct5), sl5⟩)
    (c5 : PySem.W.codeIn K cd5 "_one_level_deeper" = true) (k5 : PySem.W.keepIn K (.ref f5) = true)
    (a6 : PySem.W.nsIn K mainGlobals "_takes_arguments" = some (some (.ref f6)))
    (l6 : K.lookup f6 = some ⟨oc6, od6, .func (PySem.W.fnOf "_takes_arguments" "_takes_arguments" (defArgs s_f_takes_arguments) (defBody s_f_takes_arguments) (defScope s_f_takes_arguments) .none kV6 dc6 pm6 an6 cd6 ct6), sl6⟩)
    (c6 : PySem.W.codeIn K cd6 "_takes_arguments" = true) (k6 : PySem.W.keepIn K (.ref f6) = true)
    (a7 : PySem.W.nsIn K mainGlobals "_is_well_formed" = some (some (.ref f7)))
    (l7 : K.lookup f7 = some ⟨oc7, od7, .func (PySem.W.fnOf "_is_well_formed" "_is_well_formed" (defArgs s_f_is_well_formed) (defBody s_f_is_well_formed) (defScope s_f_is_well_formed) .none kV7 dc7 pm7 an7 cd7 ct7), sl7⟩)
    (c7 : PySem.W.codeIn K cd7 "_is_well_formed" = true) (k7 : PySem.W.keepIn K (.ref f7) = true)
    (a8 : PySem.W.nsIn K mainGlobals "is_expression" = some (some (.ref f8)))
    (l8 : K.lookup f8 = some ⟨oc8, od8, .func (PySem.W.fnOf "is_expression" "is_expression" (defArgs s_f_is_expression) (defBody s_f_is_expression) (defScope s_f_is_expression) .none kV8 dc8 pm8 an8 cd8 ct8), sl8⟩)
    (c8 : PySem.W.codeIn K cd8 "is_expression" = true) (k8 : PySem.W.keepIn K (.ref f8) = true)
    (a9 : PySem.W.nsIn K mainGlobals "_law_stream" = some (some (.ref f9)))
    (l9 : K.lookup f9 = some ⟨oc9, od9, .func (PySem.W.fnOf "_law_stream" "_law_stream" (defArgs s_f_law_stream) (defBody s_f_law_stream) (defScope s_f_law_stream) .none kV9 dc9 pm9 an9 cd9 ct9), sl9⟩)
    (c9 : PySem.W.codeIn K cd9 "_law_stream" = true) (k9 : PySem.W.keepIn K (.ref f9) = true)
    (a10 : PySem.W.nsIn K mainGlobals "_law_draw" = some (some (.ref f10)))
    (l10 : K.lookup f10 = some ⟨oc10, od10, .func (PySem.W.fnOf "_law_draw" "_law_draw" (defArgs s_f_law_draw) (defBody s_f_law_draw) (defScope s_f_law_draw) .none kV10 dc10 pm10 an10 cd10 ct10), sl10⟩)
    (c10 : PySem.W.codeIn K cd10 "_law_draw" = true) (k10 : PySem.W.keepIn K (.ref f10) = true)
    (a11 : PySem.W.nsIn K mainGlobals "_law_choose" = some (some (.ref f11)))
    (l11 : K.lookup f11 = some ⟨oc11, od11, .func (PySem.W.fnOf "_law_choose" "_law_choose" (defArgs s_f_law_choose) (defBody s_f_law_choose) (defScope s_f_law_choose) .none kV11 dc11 pm11 an11 cd11 ct11), sl11⟩)
    (c11 : PySem.W.codeIn K cd11 "_law_choose" = true) (k11 : PySem.W.keepIn K (.ref f11) = true)
    (a12 : PySem.W.nsIn K mainGlobals "_law_cell" = some (some (.ref f12)))
    (l12 : K.lookup f12 = some ⟨oc12, od12, .func (PySem.W.fnOf "_law_cell" "_law_cell" (defArgs s_f_law_cell) (defBody s_f_law_cell) (defScope s_f_law_cell) .none kV12 dc12 pm12 an12 cd12 ct12), sl12⟩)
    (c12 : PySem.W.codeIn K cd12 "_law_cell" = true) (k12 : PySem.W.keepIn K (.ref f12) = true)
    (a13 : PySem.W.nsIn K mainGlobals "_law_area" = some (some (.ref f13)))
    (l13 : K.lookup f13 = some ⟨oc13, od13, .func (PySem.W.fnOf "_law_area" "_law_area" (defArgs s_f_law_area) (defBody s_f_law_area) (defScope s_f_law_area) .none kV13 dc13 pm13 an13 cd13 ct13), sl13⟩)
    (c13 : PySem.W.codeIn K cd13 "_law_area" = true) (k13 : PySem.W.keepIn K (.ref f13) = true)
    (a14 : PySem.W.nsIn K mainGlobals "_law_reference" = some (some (.ref f14)))
    (l14 : K.lookup f14 = some ⟨oc14, od14, .func (PySem.W.fnOf "_law_reference" "_law_reference" (defArgs s_f_law_reference) (defBody s_f_law_reference) (defScope s_f_law_reference) .none kV14 dc14 pm14 an14 cd14 ct14), sl14⟩)
    (c14 : PySem.W.codeIn K cd14 "_law_reference" = true) (k14 : PySem.W.keepIn K (.ref f14) = true)
    (a15 : PySem.W.nsIn K mainGlobals "_law_array" = some (some (.ref f15)))
    (l15 : K.lookup f15 = some ⟨oc15, od15, .func (PySem.W.fnOf "_law_array" "_law_array" (defArgs s_f_law_array) (defBody s_f_law_array) (defScope s_f_law_array) .none kV15 dc15 pm15 an15 cd15 ct15), sl15⟩)
    (c15 : PySem.W.codeIn K cd15 "_law_array" = true) (k15 : PySem.W.keepIn K (.ref f15) = true)
    (a16 : PySem.W.nsIn K mainGlobals "_law_scalar" = some (some (.ref f16)))
    (l16 : K.lookup f16 = some ⟨oc16, od16, .func (PySem.W.fnOf "_law_scalar" "_law_scalar" (defArgs s_f_law_scalar) (defBody s_f_law_scalar) (defScope s_f_law_scalar) .none kV16 dc16 pm16 an16 cd16 ct16), sl16⟩)
    (c16 : PySem.W.codeIn K cd16 "_law_scalar" = true) (k16 : PySem.W.keepIn K (.ref f16) = true)
    (a17 : PySem.W.nsIn K mainGlobals "_law_formula" = some (some (.ref f17)))
    (l17 : K.lookup f17 = some ⟨oc17, od17, .func (PySem.W.fnOf "_law_formula" "_law_formula" (defArgs s_f_law_formula) (defBody s_f_law_formula) (defScope s_f_law_formula) .none kV17 dc17 pm17 an17 cd17 ct17), sl17⟩)
    (c17 : PySem.W.codeIn K cd17 "_law_formula" = true) (k17 : PySem.W.keepIn K (.ref f17) = true)
    (a18 : PySem.W.nsIn K mainGlobals "_law_integer" = some (some (.ref f18)))
    (l18 : K.lookup f18 = some ⟨oc18, od18, .func (PySem.W.fnOf "_law_integer" "_law_integer" (defArgs s_f_law_integer) (defBody s_f_law_integer) (defScope s_f_law_integer) .none kV18 dc18 pm18 an18 cd18 ct18), sl18⟩)
    (c18 : PySem.W.codeIn K cd18 "_law_integer" = true) (k18 : PySem.W.keepIn K (.ref f18) = true)
    (a19 : PySem.W.nsIn K mainGlobals "_law_cell_right" = some (some (.ref f19)))
    (l19 : K.lookup f19 = some ⟨oc19, od19, .func (PySem.W.fnOf "_law_cell_right" "_law_cell_right" (defArgs s_f_law_cell_right) (defBody s_f_law_cell_right) (defScope s_f_law_cell_right) .none kV19 dc19 pm19 an19 cd19 ct19), sl19⟩)
    (c19 : PySem.W.codeIn K cd19 "_law_cell_right" = true) (k19 : PySem.W.keepIn K (.ref f19) = true)
    (a20 : PySem.W.nsIn K mainGlobals "_law_due" = some (some (.ref f20)))
    (l20 : K.lookup f20 = some ⟨oc20, od20, .func (PySem.W.fnOf "_law_due" "_law_due" (defArgs s_f_law_due) (defBody s_f_law_due) (defScope s_f_law_due) .none kV20 dc20 pm20 an20 cd20 ct20), sl20⟩)
    (c20 : PySem.W.codeIn K cd20 "_law_due" = true) (k20 : PySem.W.keepIn K (.ref f20) = true)
    (a21 : PySem.W.nsIn K mainGlobals "_law_call_right" = some (some (.ref f21)))
    (l21 : K.lookup f21 = some ⟨oc21, od21, .func (PySem.W.fnOf "_law_call_right" "_law_call_right" (defArgs s_f_law_call_right) (defBody s_f_law_call_right) (defScope s_f_law_call_right) .none kV21 dc21 pm21 an21 cd21 ct21), sl21⟩)
    (c21 : PySem.W.codeIn K cd21 "_law_call_right" = true) (k21 : PySem.W.keepIn K (.ref f21) = true)
    (a22 : PySem.W.nsIn K mainGlobals "_law_other" = some (some (.ref f22)))
    (l22 : K.lookup f22 = some ⟨oc22, od22, .func (PySem.W.fnOf "_law_other" "_law_other" (defArgs s_f_law_other) (defBody s_f_law_other) (defScope s_f_law_other) .none kV22 dc22 pm22 an22 cd22 ct22), sl22⟩)
    (c22 : PySem.W.codeIn K cd22 "_law_other" = true) (k22 : PySem.W.keepIn K (.ref f22) = true)
    (a23 : PySem.W.nsIn K mainGlobals "_law_bent" = some (some (.ref f23)))
    (l23 : K.lookup f23 = some ⟨oc23, od23, .func (PySem.W.fnOf "_law_bent" "_law_bent" (defArgs s_f_law_bent) (defBody s_f_law_bent) (defScope s_f_law_bent) .none kV23 dc23 pm23 an23 cd23 ct23), sl23⟩)
    (c23 : PySem.W.codeIn K cd23 "_law_bent" = true) (k23 : PySem.W.keepIn K (.ref f23) = true)
    (a24 : PySem.W.nsIn K mainGlobals "_law_right" = some (some (.ref f24)))
    (l24 : K.lookup f24 = some ⟨oc24, od24, .func (PySem.W.fnOf "_law_right" "_law_right" (defArgs s_f_law_right) (defBody s_f_law_right) (defScope s_f_law_right) .none kV24 dc24 pm24 an24 cd24 ct24), sl24⟩)
    (c24 : PySem.W.codeIn K cd24 "_law_right" = true) (k24 : PySem.W.keepIn K (.ref f24) = true)
    (a25 : PySem.W.nsIn K mainGlobals "law" = some (some (.ref f25)))
    (l25 : K.lookup f25 = some ⟨oc25, od25, .func (PySem.W.fnOf "law" "law" (defArgs s_f_law) (defBody s_f_law) (defScope s_f_law) .none kV25 dc25 pm25 an25 cd25 ct25), sl25⟩)
    (c25 : PySem.W.codeIn K cd25 "law" = true) (k25 : PySem.W.keepIn K (.ref f25) = true)
    (z_all : PySem.W.nsIn K mainGlobals "all" = some none)
    (z_bool : PySem.W.nsIn K mainGlobals "bool" = some none)
    (z_int : PySem.W.nsIn K mainGlobals "int" = some none)
    (z_isinstance : PySem.W.nsIn K mainGlobals "isinstance" = some none)
    (z_len : PySem.W.nsIn K mainGlobals "len" = some none)
    (z_list : PySem.W.nsIn K mainGlobals "list" = some none)
    (z_max : PySem.W.nsIn K mainGlobals "max" = some none)
    (z_min : PySem.W.nsIn K mainGlobals "min" = some none)
    (z_range : PySem.W.nsIn K mainGlobals "range" = some none)
    (z_repr : PySem.W.nsIn K mainGlobals "repr" = some none)
    (z_str : PySem.W.nsIn K mainGlobals "str" = some none)
    (z_tuple : PySem.W.nsIn K mainGlobals "tuple" = some none)
    (q_GRID_SIZE : PySem.W.nsIn K mainGlobals "GRID_SIZE" = some (some (.int (12) wt_GRID_SIZE)))
    (q_LARGEST_DEPTH : PySem.W.nsIn K mainGlobals "LARGEST_DEPTH" = some (some (.int (12) wt_LARGEST_DEPTH)))
    (q_LARGEST_NUMBER : PySem.W.nsIn K mainGlobals "LARGEST_NUMBER" = some (some (.int (1000000000) wt_LARGEST_NUMBER)))
    (q_OPERATORS : PySem.W.nsIn K mainGlobals "OPERATORS" = some (some (.ref w_OPERATORS)))
    (ql_OPERATORS : K.lookup w_OPERATORS = some ⟨.type "tuple", wd_OPERATORS, .seq wu_OPERATORS wn_OPERATORS, ws_OPERATORS⟩)
    (qz_OPERATORS : wu_OPERATORS.size ≤ sizeLine) (qv_OPERATORS : Vals kv_OPERATORS wu_OPERATORS.toList)
    (q_FUNCTIONS : PySem.W.nsIn K mainGlobals "FUNCTIONS" = some (some (.ref w_FUNCTIONS)))
    (ql_FUNCTIONS : K.lookup w_FUNCTIONS = some ⟨.type "dict", none, .dict we_FUNCTIONS wn_FUNCTIONS, #[]⟩)
    (qk_FUNCTIONS : PySem.W.KeysLit w.params we_FUNCTIONS.toList) (qm_FUNCTIONS : (w_FUNCTIONS == sysModules) = false)
    (qe_FUNCTIONS : EntP we_FUNCTIONS.toList ["SUM", "COUNT", "MAX", "MIN", "ROWS", "COLUMNS", "TRANSPOSE", "SORT", "SEQ", "IFERROR", "FILTER", "TAKE", "DROP", "STACK", "BESIDE", "IF", "INDEX"] [.ref w_FUNCTIONS_0, .ref w_FUNCTIONS_1, .ref w_FUNCTIONS_2, .ref w_FUNCTIONS_3, .ref w_FUNCTIONS_4, .ref w_FUNCTIONS_5, .ref w_FUNCTIONS_6, .ref w_FUNCTIONS_7, .ref w_FUNCTIONS_8, .ref w_FUNCTIONS_9, .ref w_FUNCTIONS_10, .ref w_FUNCTIONS_11, .ref w_FUNCTIONS_12, .ref w_FUNCTIONS_13, .ref w_FUNCTIONS_14, .ref w_FUNCTIONS_15, .ref w_FUNCTIONS_16])
    (ql_FUNCTIONS_0 : K.lookup w_FUNCTIONS_0 = some ⟨.type "tuple", wd_FUNCTIONS_0, .seq wu_FUNCTIONS_0 wn_FUNCTIONS_0, ws_FUNCTIONS_0⟩)
    (qz_FUNCTIONS_0 : wu_FUNCTIONS_0.size ≤ sizeLine) (qv_FUNCTIONS_0 : Vals [.int (1)] wu_FUNCTIONS_0.toList)
    (ql_FUNCTIONS_1 : K.lookup w_FUNCTIONS_1 = some ⟨.type "tuple", wd_FUNCTIONS_1, .seq wu_FUNCTIONS_1 wn_FUNCTIONS_1, ws_FUNCTIONS_1⟩)
    (qz_FUNCTIONS_1 : wu_FUNCTIONS_1.size ≤ sizeLine) (qv_FUNCTIONS_1 : Vals [.int (1)] wu_FUNCTIONS_1.toList)
    (ql_FUNCTIONS_2 : K.lookup w_FUNCTIONS_2 = some ⟨.type "tuple", wd_FUNCTIONS_2, .seq wu_FUNCTIONS_2 wn_FUNCTIONS_2, ws_FUNCTIONS_2⟩)
    (qz_FUNCTIONS_2 : wu_FUNCTIONS_2.size ≤ sizeLine) (qv_FUNCTIONS_2 : Vals [.int (1)] wu_FUNCTIONS_2.toList)
    (ql_FUNCTIONS_3 : K.lookup w_FUNCTIONS_3 = some ⟨.type "tuple", wd_FUNCTIONS_3, .seq wu_FUNCTIONS_3 wn_FUNCTIONS_3, ws_FUNCTIONS_3⟩)
    (qz_FUNCTIONS_3 : wu_FUNCTIONS_3.size ≤ sizeLine) (qv_FUNCTIONS_3 : Vals [.int (1)] wu_FUNCTIONS_3.toList)
    (ql_FUNCTIONS_4 : K.lookup w_FUNCTIONS_4 = some ⟨.type "tuple", wd_FUNCTIONS_4, .seq wu_FUNCTIONS_4 wn_FUNCTIONS_4, ws_FUNCTIONS_4⟩)
    (qz_FUNCTIONS_4 : wu_FUNCTIONS_4.size ≤ sizeLine) (qv_FUNCTIONS_4 : Vals [.int (1)] wu_FUNCTIONS_4.toList)
    (ql_FUNCTIONS_5 : K.lookup w_FUNCTIONS_5 = some ⟨.type "tuple", wd_FUNCTIONS_5, .seq wu_FUNCTIONS_5 wn_FUNCTIONS_5, ws_FUNCTIONS_5⟩)
    (qz_FUNCTIONS_5 : wu_FUNCTIONS_5.size ≤ sizeLine) (qv_FUNCTIONS_5 : Vals [.int (1)] wu_FUNCTIONS_5.toList)
    (ql_FUNCTIONS_6 : K.lookup w_FUNCTIONS_6 = some ⟨.type "tuple", wd_FUNCTIONS_6, .seq wu_FUNCTIONS_6 wn_FUNCTIONS_6, ws_FUNCTIONS_6⟩)
    (qz_FUNCTIONS_6 : wu_FUNCTIONS_6.size ≤ sizeLine) (qv_FUNCTIONS_6 : Vals [.int (1)] wu_FUNCTIONS_6.toList)
    (ql_FUNCTIONS_7 : K.lookup w_FUNCTIONS_7 = some ⟨.type "tuple", wd_FUNCTIONS_7, .seq wu_FUNCTIONS_7 wn_FUNCTIONS_7, ws_FUNCTIONS_7⟩)
    (qz_FUNCTIONS_7 : wu_FUNCTIONS_7.size ≤ sizeLine) (qv_FUNCTIONS_7 : Vals [.int (1)] wu_FUNCTIONS_7.toList)
    (ql_FUNCTIONS_8 : K.lookup w_FUNCTIONS_8 = some ⟨.type "tuple", wd_FUNCTIONS_8, .seq wu_FUNCTIONS_8 wn_FUNCTIONS_8, ws_FUNCTIONS_8⟩)
    (qz_FUNCTIONS_8 : wu_FUNCTIONS_8.size ≤ sizeLine) (qv_FUNCTIONS_8 : Vals [.int (1), .int (2)] wu_FUNCTIONS_8.toList)
    (ql_FUNCTIONS_9 : K.lookup w_FUNCTIONS_9 = some ⟨.type "tuple", wd_FUNCTIONS_9, .seq wu_FUNCTIONS_9 wn_FUNCTIONS_9, ws_FUNCTIONS_9⟩)
    (qz_FUNCTIONS_9 : wu_FUNCTIONS_9.size ≤ sizeLine) (qv_FUNCTIONS_9 : Vals [.int (2)] wu_FUNCTIONS_9.toList)
    (ql_FUNCTIONS_10 : K.lookup w_FUNCTIONS_10 = some ⟨.type "tuple", wd_FUNCTIONS_10, .seq wu_FUNCTIONS_10 wn_FUNCTIONS_10, ws_FUNCTIONS_10⟩)
    (qz_FUNCTIONS_10 : wu_FUNCTIONS_10.size ≤ sizeLine) (qv_FUNCTIONS_10 : Vals [.int (2)] wu_FUNCTIONS_10.toList)
    (ql_FUNCTIONS_11 : K.lookup w_FUNCTIONS_11 = some ⟨.type "tuple", wd_FUNCTIONS_11, .seq wu_FUNCTIONS_11 wn_FUNCTIONS_11, ws_FUNCTIONS_11⟩)
    (qz_FUNCTIONS_11 : wu_FUNCTIONS_11.size ≤ sizeLine) (qv_FUNCTIONS_11 : Vals [.int (2)] wu_FUNCTIONS_11.toList)
    (ql_FUNCTIONS_12 : K.lookup w_FUNCTIONS_12 = some ⟨.type "tuple", wd_FUNCTIONS_12, .seq wu_FUNCTIONS_12 wn_FUNCTIONS_12, ws_FUNCTIONS_12⟩)
    (qz_FUNCTIONS_12 : wu_FUNCTIONS_12.size ≤ sizeLine) (qv_FUNCTIONS_12 : Vals [.int (2)] wu_FUNCTIONS_12.toList)
    (ql_FUNCTIONS_13 : K.lookup w_FUNCTIONS_13 = some ⟨.type "tuple", wd_FUNCTIONS_13, .seq wu_FUNCTIONS_13 wn_FUNCTIONS_13, ws_FUNCTIONS_13⟩)
    (qz_FUNCTIONS_13 : wu_FUNCTIONS_13.size ≤ sizeLine) (qv_FUNCTIONS_13 : Vals [.int (2)] wu_FUNCTIONS_13.toList)
    (ql_FUNCTIONS_14 : K.lookup w_FUNCTIONS_14 = some ⟨.type "tuple", wd_FUNCTIONS_14, .seq wu_FUNCTIONS_14 wn_FUNCTIONS_14, ws_FUNCTIONS_14⟩)
    (qz_FUNCTIONS_14 : wu_FUNCTIONS_14.size ≤ sizeLine) (qv_FUNCTIONS_14 : Vals [.int (2)] wu_FUNCTIONS_14.toList)
    (ql_FUNCTIONS_15 : K.lookup w_FUNCTIONS_15 = some ⟨.type "tuple", wd_FUNCTIONS_15, .seq wu_FUNCTIONS_15 wn_FUNCTIONS_15, ws_FUNCTIONS_15⟩)
    (qz_FUNCTIONS_15 : wu_FUNCTIONS_15.size ≤ sizeLine) (qv_FUNCTIONS_15 : Vals [.int (3)] wu_FUNCTIONS_15.toList)
    (ql_FUNCTIONS_16 : K.lookup w_FUNCTIONS_16 = some ⟨.type "tuple", wd_FUNCTIONS_16, .seq wu_FUNCTIONS_16 wn_FUNCTIONS_16, ws_FUNCTIONS_16⟩)
    (qz_FUNCTIONS_16 : wu_FUNCTIONS_16.size ≤ sizeLine) (qv_FUNCTIONS_16 : Vals [.int (3)] wu_FUNCTIONS_16.toList) :
    ∃ fd : FuncData, (∀ (s : Shared) (v : Value), BindsTo s fd ⟨[v], []⟩ [("script", v)]) ∧ ∀ base : Heap, K.In base → base.Ns mainGlobals mg → FnG l.prog w K mg base CX0 64 fa fd ["script"] (spS K 1 g_f_law) := by
  have e := hfa.symm.trans (PySem.W.mg_of X G a25)
  cases e
  have F0 := fun_mk (st := s_f_is_integer_between) l0 c0 k0
  have b0 := F0.binds (ps := p_f_is_integer_between) fun _ _ _ _ _ _ us hl => match us, hl with | [_, _, _], _ => rfl
  have F1 := fun_mk (st := s_f_is_index) l1 c1 k1
  have b1 := F1.binds (ps := p_f_is_index) fun _ _ _ _ _ _ us hl => match us, hl with | [_], _ => rfl
  have F2 := fun_mk (st := s_f_is_cell) l2 c2 k2
  have b2 := F2.binds (ps := p_f_is_cell) fun _ _ _ _ _ _ us hl => match us, hl with | [_], _ => rfl
  have F3 := fun_mk (st := s_f_is_area) l3 c3 k3
  have b3 := F3.binds (ps := p_f_is_area) fun _ _ _ _ _ _ us hl => match us, hl with | [_], _ => rfl
  have F4 := fun_mk (st := s_f_subexpressions_of) l4 c4 k4
  have b4 := F4.binds (ps := p_f_subexpressions_of) fun _ _ _ _ _ _ us hl => match us, hl with | [_], _ => rfl
  have F5 := fun_mk (st := s_f_one_level_deeper) l5 c5 k5
  have b5 := F5.binds (ps := p_f_one_level_deeper) fun _ _ _ _ _ _ us hl => match us, hl with | [_], _ => rfl
  have F6 := fun_mk (st := s_f_takes_arguments) l6 c6 k6
  have b6 := F6.binds (ps := p_f_takes_arguments) fun _ _ _ _ _ _ us hl => match us, hl with | [_, _], _ => rfl
  have F7 := fun_mk (st := s_f_is_well_formed) l7 c7 k7
  have b7 := F7.binds (ps := p_f_is_well_formed) fun _ _ _ _ _ _ us hl => match us, hl with | [_], _ => rfl
  have F8 := fun_mk (st := s_f_is_expression) l8 c8 k8
  have b8 := F8.binds (ps := p_f_is_expression) fun _ _ _ _ _ _ us hl => match us, hl with | [_], _ => rfl
  have F9 := fun_mk (st := s_f_law_stream) l9 c9 k9
  have b9 := F9.binds (ps := p_f_law_stream) fun _ _ _ _ _ _ us hl => match us, hl with | [_, _], _ => rfl
  have F10 := fun_mk (st := s_f_law_draw) l10 c10 k10
  have b10 := F10.binds (ps := p_f_law_draw) fun _ _ _ _ _ _ us hl => match us, hl with | [_, _], _ => rfl
  have F11 := fun_mk (st := s_f_law_choose) l11 c11 k11
  have b11 := F11.binds (ps := p_f_law_choose) fun _ _ _ _ _ _ us hl => match us, hl with | [_, _], _ => rfl
  have F12 := fun_mk (st := s_f_law_cell) l12 c12 k12
  have b12 := F12.binds (ps := p_f_law_cell) fun _ _ _ _ _ _ us hl => match us, hl with | [_, _, _], _ => rfl
  have F13 := fun_mk (st := s_f_law_area) l13 c13 k13
  have b13 := F13.binds (ps := p_f_law_area) fun _ _ _ _ _ _ us hl => match us, hl with | [_, _, _], _ => rfl
  have F14 := fun_mk (st := s_f_law_reference) l14 c14 k14
  have b14 := F14.binds (ps := p_f_law_reference) fun _ _ _ _ _ _ us hl => match us, hl with | [_, _, _], _ => rfl
  have F15 := fun_mk (st := s_f_law_array) l15 c15 k15
  have b15 := F15.binds (ps := p_f_law_array) fun _ _ _ _ _ _ us hl => match us, hl with | [_, _, _, _], _ => rfl
  have F16 := fun_mk (st := s_f_law_scalar) l16 c16 k16
  have b16 := F16.binds (ps := p_f_law_scalar) fun _ _ _ _ _ _ us hl => match us, hl with | [_, _, _, _], _ => rfl
  have F17 := fun_mk (st := s_f_law_formula) l17 c17 k17
  have b17 := F17.binds (ps := p_f_law_formula) fun _ _ _ _ _ _ us hl => match us, hl with | [_, _, _, _], _ => rfl
  have F18 := fun_mk (st := s_f_law_integer) l18 c18 k18
  have b18 := F18.binds (ps := p_f_law_integer) fun _ _ _ _ _ _ us hl => match us, hl with | [_, _, _], _ => rfl
  have F19 := fun_mk (st := s_f_law_cell_right) l19 c19 k19
  have b19 := F19.binds (ps := p_f_law_cell_right) fun _ _ _ _ _ _ us hl => match us, hl with | [_], _ => rfl
  have F20 := fun_mk (st := s_f_law_due) l20 c20 k20
  have b20 := F20.binds (ps := p_f_law_due) fun _ _ _ _ _ _ us hl => match us, hl with | [_, _], _ => rfl
  have F21 := fun_mk (st := s_f_law_call_right) l21 c21 k21
  have b21 := F21.binds (ps := p_f_law_call_right) fun _ _ _ _ _ _ us hl => match us, hl with | [_, _], _ => rfl
  have F22 := fun_mk (st := s_f_law_other) l22 c22 k22
  have b22 := F22.binds (ps := p_f_law_other) fun _ _ _ _ _ _ us hl => match us, hl with | [_], _ => rfl
  have F23 := fun_mk (st := s_f_law_bent) l23 c23 k23
  have b23 := F23.binds (ps := p_f_law_bent) fun _ _ _ _ _ _ us hl => match us, hl with | [_, _], _ => rfl
  have F24 := fun_mk (st := s_f_law_right) l24 c24 k24
  have b24 := F24.binds (ps := p_f_law_right) fun _ _ _ _ _ _ us hl => match us, hl with | [_], _ => rfl
  have F25 := fun_mk (st := s_f_law) l25 c25 k25
  have b25 := F25.binds (ps := p_f_law) fun _ _ _ _ _ _ us hl => match us, hl with | [_], _ => rfl
  have T : Txt w K mg (fun n => [f0, f1, f2, f3, f4, f5, f6, f7, f8, f9, f10, f11, f12, f13, f14, f15, f16, f17, f18, f19, f20, f21, f22, f23, f24, fa].getD n 0) (fun n => [PySem.W.fnOf "is_integer_between" "is_integer_between" (defArgs s_f_is_integer_between) (defBody s_f_is_integer_between) (defScope s_f_is_integer_between) .none kV0 dc0 pm0 an0 cd0 ct0, PySem.W.fnOf "is_index" "is_index" (defArgs s_f_is_index) (defBody s_f_is_index) (defScope s_f_is_index) .none kV1 dc1 pm1 an1 cd1 ct1, PySem.W.fnOf "is_cell" "is_cell" (defArgs s_f_is_cell) (defBody s_f_is_cell) (defScope s_f_is_cell) .none kV2 dc2 pm2 an2 cd2 ct2, PySem.W.fnOf "is_area" "is_area" (defArgs s_f_is_area) (defBody s_f_is_area) (defScope s_f_is_area) .none kV3 dc3 pm3 an3 cd3 ct3, PySem.W.fnOf "subexpressions_of" "subexpressions_of" (defArgs s_f_subexpressions_of) (defBody s_f_subexpressions_of) (defScope s_f_subexpressions_of) .none kV4 dc4 pm4 an4 cd4 ct4, PySem.W.fnOf "_one_level_deeper" "_one_level_deeper" (defArgs s_f_one_level_deeper) (defBody s_f_one_level_deeper) (defScope s_f_one_level_deeper) .none kV5 dc5 pm5 an5 cd5 ct5, PySem.W.fnOf "_takes_arguments" "_takes_arguments" (defArgs s_f_takes_arguments) (defBody s_f_takes_arguments) (defScope s_f_takes_arguments) .none kV6 dc6 pm6 an6 cd6 ct6, PySem.W.fnOf "_is_well_formed" "_is_well_formed" (defArgs s_f_is_well_formed) (defBody s_f_is_well_formed) (defScope s_f_is_well_formed) .none kV7 dc7 pm7 an7 cd7 ct7, PySem.W.fnOf "is_expression" "is_expression" (defArgs s_f_is_expression) (defBody s_f_is_expression) (defScope s_f_is_expression) .none kV8 dc8 pm8 an8 cd8 ct8, PySem.W.fnOf "_law_stream" "_law_stream" (defArgs s_f_law_stream) (defBody s_f_law_stream) (defScope s_f_law_stream) .none kV9 dc9 pm9 an9 cd9 ct9, PySem.W.fnOf "_law_draw" "_law_draw" (defArgs s_f_law_draw) (defBody s_f_law_draw) (defScope s_f_law_draw) .none kV10 dc10 pm10 an10 cd10 ct10, PySem.W.fnOf "_law_choose" "_law_choose" (defArgs s_f_law_choose) (defBody s_f_law_choose) (defScope s_f_law_choose) .none kV11 dc11 pm11 an11 cd11 ct11, PySem.W.fnOf "_law_cell" "_law_cell" (defArgs s_f_law_cell) (defBody s_f_law_cell) (defScope s_f_law_cell) .none kV12 dc12 pm12 an12 cd12 ct12, PySem.W.fnOf "_law_area" "_law_area" (defArgs s_f_law_area) (defBody s_f_law_area) (defScope s_f_law_area) .none kV13 dc13 pm13 an13 cd13 ct13, PySem.W.fnOf "_law_reference" "_law_reference" (defArgs s_f_law_reference) (defBody s_f_law_reference) (defScope s_f_law_reference) .none kV14 dc14 pm14 an14 cd14 ct14, PySem.W.fnOf "_law_array" "_law_array" (defArgs s_f_law_array) (defBody s_f_law_array) (defScope s_f_law_array) .none kV15 dc15 pm15 an15 cd15 ct15, PySem.W.fnOf "_law_scalar" "_law_scalar" (defArgs s_f_law_scalar) (defBody s_f_law_scalar) (defScope s_f_law_scalar) .none kV16 dc16 pm16 an16 cd16 ct16, PySem.W.fnOf "_law_formula" "_law_formula" (defArgs s_f_law_formula) (defBody s_f_law_formula) (defScope s_f_law_formula) .none kV17 dc17 pm17 an17 cd17 ct17, PySem.W.fnOf "_law_integer" "_law_integer" (defArgs s_f_law_integer) (defBody s_f_law_integer) (defScope s_f_law_integer) .none kV18 dc18 pm18 an18 cd18 ct18, PySem.W.fnOf "_law_cell_right" "_law_cell_right" (defArgs s_f_law_cell_right) (defBody s_f_law_cell_right) (defScope s_f_law_cell_right) .none kV19 dc19 pm19 an19 cd19 ct19, PySem.W.fnOf "_law_due" "_law_due" (defArgs s_f_law_due) (defBody s_f_law_due) (defScope s_f_law_due) .none kV20 dc20 pm20 an20 cd20 ct20, PySem.W.fnOf "_law_call_right" "_law_call_right" (defArgs s_f_law_call_right) (defBody s_f_law_call_right) (defScope s_f_law_call_right) .none kV21 dc21 pm21 an21 cd21 ct21, PySem.W.fnOf "_law_other" "_law_other" (defArgs s_f_law_other) (defBody s_f_law_other) (defScope s_f_law_other) .none kV22 dc22 pm22 an22 cd22 ct22, PySem.W.fnOf "_law_bent" "_law_bent" (defArgs s_f_law_bent) (defBody s_f_law_bent) (defScope s_f_law_bent) .none kV23 dc23 pm23 an23 cd23 ct23, PySem.W.fnOf "_law_right" "_law_right" (defArgs s_f_law_right) (defBody s_f_law_right) (defScope s_f_law_right) .none kV24 dc24 pm24 an24 cd24 ct24, PySem.W.fnOf "law" "law" (defArgs s_f_law) (defBody s_f_law) (defScope s_f_law) .none kV25 dc25 pm25 an25 cd25 ct25].getD n (PySem.W.fnOf "law" "law" (defArgs s_f_law) (defBody s_f_law) (defScope s_f_law) .none kV25 dc25 pm25 an25 cd25 ct25)) :=
    { g_f_is_integer_between := PySem.W.mg_of X G a0, F_f_is_integer_between := F0, b_f_is_integer_between := b0, g_f_is_index := PySem.W.mg_of X G a1, F_f_is_index := F1, b_f_is_index := b1, g_f_is_cell := PySem.W.mg_of X G a2, F_f_is_cell := F2, b_f_is_cell := b2, g_f_is_area := PySem.W.mg_of X G a3, F_f_is_area := F3, b_f_is_area := b3, g_f_subexpressions_of := PySem.W.mg_of X G a4, F_f_subexpressions_of := F4, b_f_subexpressions_of := b4, g_f_one_level_deeper := PySem.W.mg_of X G a5, F_f_one_level_deeper := F5, b_f_one_level_deeper := b5, g_f_takes_arguments := PySem.W.mg_of X G a6, F_f_takes_arguments := F6, b_f_takes_arguments := b6, g_f_is_well_formed := PySem.W.mg_of X G a7, F_f_is_well_formed := F7, b_f_is_well_formed := b7, g_f_is_expression := PySem.W.mg_of X G a8, F_f_is_expression := F8, b_f_is_expression := b8, g_f_law_stream := PySem.W.mg_of X G a9, F_f_law_stream := F9, b_f_law_stream := b9, g_f_law_draw := PySem.W.mg_of X G a10, F_f_law_draw := F10, b_f_law_draw := b10, g_f_law_choose := PySem.W.mg_of X G a11, F_f_law_choose := F11, b_f_law_choose := b11, g_f_law_cell := PySem.W.mg_of X G a12, F_f_law_cell := F12, b_f_law_cell := b12, g_f_law_area := PySem.W.mg_of X G a13, F_f_law_area := F13, b_f_law_area := b13, g_f_law_reference := PySem.W.mg_of X G a14, F_f_law_reference := F14, b_f_law_reference := b14, g_f_law_array := PySem.W.mg_of X G a15, F_f_law_array := F15, b_f_law_array := b15, g_f_law_scalar := PySem.W.mg_of X G a16, F_f_law_scalar := F16, b_f_law_scalar := b16, g_f_law_formula := PySem.W.mg_of X G a17, F_f_law_formula := F17, b_f_law_formula := b17, g_f_law_integer := PySem.W.mg_of X G a18, F_f_law_integer := F18, b_f_law_integer := b18, g_f_law_cell_right := PySem.W.mg_of X G a19, F_f_law_cell_right := F19, b_f_law_cell_right := b19, g_f_law_due := PySem.W.mg_of X G a20, F_f_law_due := F20, b_f_law_due := b20, g_f_law_call_right := PySem.W.mg_of X G a21, F_f_law_call_right := F21, b_f_law_call_right := b21, g_f_law_other := PySem.W.mg_of X G a22, F_f_law_other := F22, b_f_law_other := b22, g_f_law_bent := PySem.W.mg_of X G a23, F_f_law_bent := F23, b_f_law_bent := b23, g_f_law_right := PySem.W.mg_of X G a24, F_f_law_right := F24, b_f_law_right := b24, g_f_law := PySem.W.mg_of X G a25, F_f_law := F25, b_f_law := b25, z_all := PySem.W.mg_none_of X G z_all, z_bool := PySem.W.mg_none_of X G z_bool, z_int := PySem.W.mg_none_of X G z_int, z_isinstance := PySem.W.mg_none_of X G z_isinstance, z_len := PySem.W.mg_none_of X G z_len, z_list := PySem.W.mg_none_of X G z_list, z_max := PySem.W.mg_none_of X G z_max, z_min := PySem.W.mg_none_of X G z_min, z_range := PySem.W.mg_none_of X G z_range, z_repr := PySem.W.mg_none_of X G z_repr, z_str := PySem.W.mg_none_of X G z_str, z_tuple := PySem.W.mg_none_of X G z_tuple, kc_GRID_SIZE := ⟨_, PySem.W.mg_of X G q_GRID_SIZE⟩, kc_LARGEST_DEPTH := ⟨_, PySem.W.mg_of X G q_LARGEST_DEPTH⟩, kc_LARGEST_NUMBER := ⟨_, PySem.W.mg_of X G q_LARGEST_NUMBER⟩, kc_OPERATORS := ⟨_, _, _, _, PySem.W.mg_of X G q_OPERATORS, ql_OPERATORS, rfl, rfl, qz_OPERATORS, qv_OPERATORS⟩, kd_FUNCTIONS := ⟨[.ref w_FUNCTIONS_0, .ref w_FUNCTIONS_1, .ref w_FUNCTIONS_2, .ref w_FUNCTIONS_3, .ref w_FUNCTIONS_4, .ref w_FUNCTIONS_5, .ref w_FUNCTIONS_6, .ref w_FUNCTIONS_7, .ref w_FUNCTIONS_8, .ref w_FUNCTIONS_9, .ref w_FUNCTIONS_10, .ref w_FUNCTIONS_11, .ref w_FUNCTIONS_12, .ref w_FUNCTIONS_13, .ref w_FUNCTIONS_14, .ref w_FUNCTIONS_15, .ref w_FUNCTIONS_16], ⟨_, _, _, _, PySem.W.mg_of X G q_FUNCTIONS, ql_FUNCTIONS, qk_FUNCTIONS, qm_FUNCTIONS, qe_FUNCTIONS, .cons rfl (.cons rfl (.cons rfl (.cons rfl (.cons rfl (.cons rfl (.cons rfl (.cons rfl (.cons rfl (.cons rfl (.cons rfl (.cons rfl (.cons rfl (.cons rfl (.cons rfl (.cons rfl (.cons rfl (.nil)))))))))))))))))⟩, fun ρ H => VRs.cons_iff.mpr ⟨_, _, rfl, vr_ktup ql_FUNCTIONS_0 qz_FUNCTIONS_0 qv_FUNCTIONS_0 (VRs.cons_iff.mpr ⟨_, _, rfl, VR.int_iff.mpr rfl, VRs.nil_iff.mpr rfl⟩), VRs.cons_iff.mpr ⟨_, _, rfl, vr_ktup ql_FUNCTIONS_1 qz_FUNCTIONS_1 qv_FUNCTIONS_1 (VRs.cons_iff.mpr ⟨_, _, rfl, VR.int_iff.mpr rfl, VRs.nil_iff.mpr rfl⟩), VRs.cons_iff.mpr ⟨_, _, rfl, vr_ktup ql_FUNCTIONS_2 qz_FUNCTIONS_2 qv_FUNCTIONS_2 (VRs.cons_iff.mpr ⟨_, _, rfl, VR.int_iff.mpr rfl, VRs.nil_iff.mpr rfl⟩), VRs.cons_iff.mpr ⟨_, _, rfl, vr_ktup ql_FUNCTIONS_3 qz_FUNCTIONS_3 qv_FUNCTIONS_3 (VRs.cons_iff.mpr ⟨_, _, rfl, VR.int_iff.mpr rfl, VRs.nil_iff.mpr rfl⟩), VRs.cons_iff.mpr ⟨_, _, rfl, vr_ktup ql_FUNCTIONS_4 qz_FUNCTIONS_4 qv_FUNCTIONS_4 (VRs.cons_iff.mpr ⟨_, _, rfl, VR.int_iff.mpr rfl, VRs.nil_iff.mpr rfl⟩), VRs.cons_iff.mpr ⟨_, _, rfl, vr_ktup ql_FUNCTIONS_5 qz_FUNCTIONS_5 qv_FUNCTIONS_5 (VRs.cons_iff.mpr ⟨_, _, rfl, VR.int_iff.mpr rfl, VRs.nil_iff.mpr rfl⟩), VRs.cons_iff.mpr ⟨_, _, rfl, vr_ktup ql_FUNCTIONS_6 qz_FUNCTIONS_6 qv_FUNCTIONS_6 (VRs.cons_iff.mpr ⟨_, _, rfl, VR.int_iff.mpr rfl, VRs.nil_iff.mpr rfl⟩), VRs.cons_iff.mpr ⟨_, _, rfl, vr_ktup ql_FUNCTIONS_7 qz_FUNCTIONS_7 qv_FUNCTIONS_7 (VRs.cons_iff.mpr ⟨_, _, rfl, VR.int_iff.mpr rfl, VRs.nil_iff.mpr rfl⟩), VRs.cons_iff.mpr ⟨_, _, rfl, vr_ktup ql_FUNCTIONS_8 qz_FUNCTIONS_8 qv_FUNCTIONS_8 (VRs.cons_iff.mpr ⟨_, _, rfl, VR.int_iff.mpr rfl, VRs.cons_iff.mpr ⟨_, _, rfl, VR.int_iff.mpr rfl, VRs.nil_iff.mpr rfl⟩⟩), VRs.cons_iff.mpr ⟨_, _, rfl, vr_ktup ql_FUNCTIONS_9 qz_FUNCTIONS_9 qv_FUNCTIONS_9 (VRs.cons_iff.mpr ⟨_, _, rfl, VR.int_iff.mpr rfl, VRs.nil_iff.mpr rfl⟩), VRs.cons_iff.mpr ⟨_, _, rfl, vr_ktup ql_FUNCTIONS_10 qz_FUNCTIONS_10 qv_FUNCTIONS_10 (VRs.cons_iff.mpr ⟨_, _, rfl, VR.int_iff.mpr rfl, VRs.nil_iff.mpr rfl⟩), VRs.cons_iff.mpr ⟨_, _, rfl, vr_ktup ql_FUNCTIONS_11 qz_FUNCTIONS_11 qv_FUNCTIONS_11 (VRs.cons_iff.mpr ⟨_, _, rfl, VR.int_iff.mpr rfl, VRs.nil_iff.mpr rfl⟩), VRs.cons_iff.mpr ⟨_, _, rfl, vr_ktup ql_FUNCTIONS_12 qz_FUNCTIONS_12 qv_FUNCTIONS_12 (VRs.cons_iff.mpr ⟨_, _, rfl, VR.int_iff.mpr rfl, VRs.nil_iff.mpr rfl⟩), VRs.cons_iff.mpr ⟨_, _, rfl, vr_ktup ql_FUNCTIONS_13 qz_FUNCTIONS_13 qv_FUNCTIONS_13 (VRs.cons_iff.mpr ⟨_, _, rfl, VR.int_iff.mpr rfl, VRs.nil_iff.mpr rfl⟩), VRs.cons_iff.mpr ⟨_, _, rfl, vr_ktup ql_FUNCTIONS_14 qz_FUNCTIONS_14 qv_FUNCTIONS_14 (VRs.cons_iff.mpr ⟨_, _, rfl, VR.int_iff.mpr rfl, VRs.nil_iff.mpr rfl⟩), VRs.cons_iff.mpr ⟨_, _, rfl, vr_ktup ql_FUNCTIONS_15 qz_FUNCTIONS_15 qv_FUNCTIONS_15 (VRs.cons_iff.mpr ⟨_, _, rfl, VR.int_iff.mpr rfl, VRs.nil_iff.mpr rfl⟩), VRs.cons_iff.mpr ⟨_, _, rfl, vr_ktup ql_FUNCTIONS_16 qz_FUNCTIONS_16 qv_FUNCTIONS_16 (VRs.cons_iff.mpr ⟨_, _, rfl, VR.int_iff.mpr rfl, VRs.nil_iff.mpr rfl⟩), VRs.nil_iff.mpr rfl⟩⟩⟩⟩⟩⟩⟩⟩⟩⟩⟩⟩⟩⟩⟩⟩⟩⟩ }
  exact ⟨PySem.W.fnOf "law" "law" (defArgs s_f_law) (defBody s_f_law) (defScope s_f_law) .none kV25 dc25 pm25 an25 cd25 ct25, fun s v => .of_eq rfl, fun base _ _ => ok_f_law T⟩
end K05

namespace K05
open PySem Sm Lw
/-! ### values: what stands under them in the store -/
mutual
inductive Dv (m : Nat) (st : Store) : Nat → PV → PyData → Prop
  | non {k : Nat} : Dv m st k .non .none
  | bl {k : Nat} (b : Bool) : Dv m st k (.bl b) (.bool b)
  | int {k : Nat} (i : Int) : Dv m st k (.int i) (.int i)
  | str {k : Nat} (s : Str) : Dv m st k (.str s) (.str s)
  | tup {k : Nat} {xs : List PV} {ds : List PyData} : Dvs m st k xs ds → Dv m st k (.tup xs) (.tuple ds)
  | lst {k n : Nat} {xs : List PV} {ds : List PyData} : n ≠ m → st[n]? = some (.lst xs) → Dvs m st k xs ds → Dv m st (k + 1) (.ref n) (.list ds)
  | dk {k n : Nat} : n ≠ m → st[n]? = some (.dk []) → Dv m st (k + 1) (.ref n) (.dict [])
inductive Dvs (m : Nat) (st : Store) : Nat → List PV → List PyData → Prop
  | nil {k : Nat} : Dvs m st k [] []
  | cons {k : Nat} {x : PV} {d : PyData} {xs : List PV} {ds : List PyData} : Dv m st k x d → Dvs m st k xs ds → Dvs m st k (x :: xs) (d :: ds)
end
def Kp (m : Nat) (st st' : Store) : Prop := ∀ n c, n ≠ m → st[n]? = some c → st'[n]? = some c
theorem Kp.gx {m : Nat} {a b : Store} (g : Gx m a b) : Kp m a b := fun _ _ h e => g.get h e
theorem Kp.ex {m : Nat} {a b : Store} (g : Ex a b) : Kp m a b := fun _ _ _ e => g.get e
section
variable {m : Nat} {st st' : Store}
mutual
theorem Dv.kp (g : Kp m st st') : ∀ {k : Nat} {x : PV} {d : PyData}, Dv m st k x d → Dv m st' k x d
  | _, _, _, .non => .non
  | _, _, _, .bl b => .bl b
  | _, _, _, .int i => .int i
  | _, _, _, .str s => .str s
  | _, _, _, .tup h => .tup (h.kp g)
  | _, _, _, .lst h0 h1 h2 => .lst h0 (g _ _ h0 h1) (h2.kp g)
  | _, _, _, .dk h0 h1 => .dk h0 (g _ _ h0 h1)
theorem Dvs.kp (g : Kp m st st') : ∀ {k : Nat} {xs : List PV} {ds : List PyData}, Dvs m st k xs ds → Dvs m st' k xs ds
  | _, _, _, .nil => .nil
  | _, _, _, .cons a b => .cons (a.kp g) (b.kp g)
end
mutual
theorem Dv.up : ∀ {k j : Nat} {x : PV} {d : PyData}, k ≤ j → Dv m st k x d → Dv m st j x d
  | _, _, _, _, _, .non => .non
  | _, _, _, _, _, .bl b => .bl b
  | _, _, _, _, _, .int i => .int i
  | _, _, _, _, _, .str s => .str s
  | _, _, _, _, hj, .tup h => .tup (h.up hj)
  | _, 0, _, _, hj, .lst h0 h1 h2 => absurd hj (by omega)
  | _, j + 1, _, _, hj, .lst h0 h1 h2 => .lst h0 h1 (h2.up (by omega))
  | _, 0, _, _, hj, .dk h0 h1 => absurd hj (by omega)
  | _, j + 1, _, _, hj, .dk h0 h1 => .dk h0 h1
theorem Dvs.up : ∀ {k j : Nat} {xs : List PV} {ds : List PyData}, k ≤ j → Dvs m st k xs ds → Dvs m st j xs ds
  | _, _, _, _, _, .nil => .nil
  | _, _, _, _, hj, .cons a b => .cons (a.up hj) (b.up hj)
end
mutual
theorem Dv.toX : ∀ {k j : Nat} {x : PV} {d : PyData}, k ≤ j → Dv m st k x d → toDw (refX j st) x = some d
  | _, _, _, _, _, .non => by rw [toDw]
  | _, _, _, _, _, .bl b => by rw [toDw]
  | _, _, _, _, _, .int i => by rw [toDw]
  | _, _, _, _, _, .str s => by rw [toDw]
  | _, _, _, _, hj, .tup h => by rw [toDw, h.toX hj]; rfl
  | _, 0, _, _, hj, .lst h0 h1 h2 => absurd hj (by omega)
  | _, j + 1, _, _, hj, .lst h0 h1 h2 => by
    rw [toDw, refX, getL_lst h1]
    dsimp only
    rw [h2.toX (j := j) (by omega)]
    rfl
  | _, 0, _, _, hj, .dk h0 h1 => absurd hj (by omega)
  | _, j + 1, _, _, hj, .dk (n := n) h0 h1 => by
    have gl : getL st n = none := by unfold getL; rw [h1]
    rw [toDw, refX, gl, getK_dk h1]
    rfl
theorem Dvs.toX : ∀ {k j : Nat} {xs : List PV} {ds : List PyData}, k ≤ j → Dvs m st k xs ds → toDsw (refX j st) xs = some ds
  | _, _, _, _, _, .nil => by rw [toDsw]
  | _, _, _, _, hj, .cons a b => by rw [toDsw, a.toX hj, Option.bind_some, b.toX hj]; rfl
end
end
/-- a value that can be shown: at most so deep, so heavy -/
def V (m : Nat) (st : Store) (j K W : Nat) (x : PV) : Prop := ∃ d, Dv m st j x d ∧ d.showable = true ∧ d.leavesShort 13 = true ∧ d.depth ≤ K ∧ d.weight ≤ W
def Ls (m : Nat) (st : Store) (j K W : Nat) (xs : List PV) : Prop := ∃ ds, Dvs m st j xs ds ∧ PyData.showableAll ds = true ∧ PyData.leavesShortAll 13 ds = true ∧ PyData.depthAll ds ≤ K ∧ PyData.weightAll ds ≤ W
section
variable {m : Nat} {st st' : Store} {j K W : Nat} {x : PV} {xs ys : List PV}
theorem V.kp (h : V m st j K W x) (g : Kp m st st') : V m st' j K W x := by
  obtain ⟨d, a, b⟩ := h
  exact ⟨d, a.kp g, b⟩
theorem Ls.kp (h : Ls m st j K W xs) (g : Kp m st st') : Ls m st' j K W xs := by
  obtain ⟨d, a, b⟩ := h
  exact ⟨d, a.kp g, b⟩
theorem V.gx (h : V m st j K W x) (g : Gx m st st') : V m st' j K W x := h.kp (.gx g)
theorem Ls.gx (h : Ls m st j K W xs) (g : Gx m st st') : Ls m st' j K W xs := h.kp (.gx g)
theorem V.ex (h : V m st j K W x) (g : Ex st st') : V m st' j K W x := h.kp (.ex g)
theorem Ls.ex (h : Ls m st j K W xs) (g : Ex st st') : Ls m st' j K W xs := h.kp (.ex g)
theorem V.more {j' K' W' : Nat} (h : V m st j K W x) (a : j ≤ j') (b : K ≤ K') (c : W ≤ W') : V m st j' K' W' x := by
  obtain ⟨d, h1, h2, h3, h4, h5⟩ := h
  exact ⟨d, h1.up a, h2, h3, Nat.le_trans h4 b, Nat.le_trans h5 c⟩
theorem Ls.more {j' K' W' : Nat} (h : Ls m st j K W xs) (a : j ≤ j') (b : K ≤ K') (c : W ≤ W') : Ls m st j' K' W' xs := by
  obtain ⟨d, h1, h2, h3, h4, h5⟩ := h
  exact ⟨d, h1.up a, h2, h3, Nat.le_trans h4 b, Nat.le_trans h5 c⟩
theorem Ls.nil : Ls m st j K W [] := ⟨[], .nil, rfl, rfl, Nat.zero_le _, Nat.zero_le _⟩
theorem Ls.cons {w v : Nat} (h : V m st j K w x) (g : Ls m st j K v xs) : Ls m st j K (w + 1 + v) (x :: xs) := by
  obtain ⟨d, h1, h2, h3, h4, h5⟩ := h
  obtain ⟨ds, g1, g2, g3, g4, g5⟩ := g
  refine ⟨d :: ds, .cons h1 g1, ?_, ?_, ?_, ?_⟩
  · rw [PyData.showableAll, h2, g2]; rfl
  · rw [PyData.leavesShortAll, h3, g3]; rfl
  · rw [PyData.depthAll]; omega
  · rw [PyData.weightAll]; omega
theorem Ls.uncons (h : Ls m st j K W (x :: xs)) : ∃ w v, V m st j K w x ∧ Ls m st j K v xs ∧ w + 1 + v ≤ W := by
  obtain ⟨ds, h1, h2, h3, h4, h5⟩ := h
  cases h1 with
  | cons a b =>
    rename_i d ds
    rw [PyData.showableAll, Bool.and_eq_true] at h2
    rw [PyData.leavesShortAll, Bool.and_eq_true] at h3
    rw [PyData.depthAll] at h4
    rw [PyData.weightAll] at h5
    exact ⟨d.weight, PyData.weightAll ds, ⟨d, a, h2.1, h3.1, by omega, Nat.le_refl _⟩, ⟨ds, b, h2.2, h3.2, by omega, Nat.le_refl _⟩, by omega⟩
theorem V.tup (h : Ls m st j K W xs) : V m st j (K + 1) W (.tup xs) := by
  obtain ⟨ds, h1, h2, h3, h4, h5⟩ := h
  exact ⟨.tuple ds, .tup h1, by rw [PyData.showable, h2], by rw [PyData.leavesShort, h3], by rw [PyData.depth]; omega, by rw [PyData.weight]; exact h5⟩
theorem V.untup (h : V m st j K W (.tup xs)) : ∃ k, K = k + 1 ∧ Ls m st j k W xs := by
  obtain ⟨d, h1, h2, h3, h4, h5⟩ := h
  cases h1 with
  | tup a =>
    rename_i ds
    rw [PyData.showable] at h2
    rw [PyData.leavesShort] at h3
    rw [PyData.depth] at h4
    rw [PyData.weight] at h5
    exact ⟨K - 1, by omega, ds, a, h2, h3, by omega, h5⟩
theorem V.lst {n : Nat} (hn : n ≠ m) (e : st[n]? = some (.lst xs)) (h : Ls m st j K W xs) : V m st (j + 1) (K + 1) W (.ref n) := by
  obtain ⟨ds, h1, h2, h3, h4, h5⟩ := h
  exact ⟨.list ds, .lst hn e h1, by rw [PyData.showable, h2], by rw [PyData.leavesShort, h3], by rw [PyData.depth]; omega, by rw [PyData.weight]; exact h5⟩
theorem V.dk {n : Nat} (hn : n ≠ m) (e : st[n]? = some (.dk [])) : V m st (j + 1) (K + 1) W (.ref n) := ⟨.dict [], .dk hn e, rfl, rfl, Nat.le_add_left _ _, Nat.zero_le _⟩
theorem Ls.append : ∀ {xs ys : List PV} {w v : Nat}, Ls m st j K w xs → Ls m st j K v ys → Ls m st j K (w + v) (xs ++ ys)
  | [], ys, w, v, _, g => g.more (Nat.le_refl _) (Nat.le_refl _) (Nat.le_add_left _ _)
  | x :: xs, ys, w, v, h, g => by
    obtain ⟨a, b, h1, h2, l⟩ := h.uncons
    exact (Ls.cons h1 (h2.append g)).more (Nat.le_refl _) (Nat.le_refl _) (by omega)
theorem Ls.cut : ∀ {xs : List PV} {W : Nat} (n : Nat), Ls m st j K W xs → ∃ a b, Ls m st j K a (xs.take n) ∧ Ls m st j K b (xs.drop n) ∧ a + b ≤ W
  | [], W, n, h => ⟨0, 0, by rw [List.take_nil]; exact .nil, by rw [List.drop_nil]; exact .nil, Nat.zero_le _⟩
  | x :: xs, W, 0, h => ⟨0, W, .nil, h, by omega⟩
  | x :: xs, W, n + 1, h => by
    obtain ⟨w, v, h1, h2, l⟩ := h.uncons
    obtain ⟨a, b, g1, g2, l2⟩ := h2.cut n
    exact ⟨w + 1 + a, b, .cons h1 g1, g2, by omega⟩
theorem Ls.at {i : Nat} (h : Ls m st j K W xs) (e : xs[i]? = some x) : ∃ a w b, Ls m st j K a (xs.take i) ∧ V m st j K w x ∧ Ls m st j K b (xs.drop (i + 1)) ∧ a + (w + 1) + b ≤ W := by
  obtain ⟨a, b, h1, h2, l⟩ := h.cut i
  have hi : i < xs.length := by rw [List.getElem?_eq_some_iff] at e; exact e.1
  have hx : xs[i] = x := by rw [List.getElem?_eq_some_iff] at e; exact e.2
  rw [List.drop_eq_getElem_cons hi, hx] at h2
  obtain ⟨w, v, g1, g2, l2⟩ := h2.uncons
  exact ⟨a, w, v, h1, g1, g2, by omega⟩
theorem Ls.mem (h : Ls m st j K W xs) (hx : x ∈ xs) : V m st j K W x := by
  obtain ⟨i, hi, rfl⟩ := List.mem_iff_getElem.mp hx
  obtain ⟨a, w, b, _, g, _, l⟩ := h.at (List.getElem?_eq_getElem hi)
  exact g.more (Nat.le_refl _) (Nat.le_refl _) (by omega)
theorem Ls.len : ∀ {xs : List PV} {W : Nat}, Ls m st j K W xs → xs.length ≤ W
  | [], _, _ => Nat.zero_le _
  | x :: xs, W, h => by
    obtain ⟨w, v, _, h2, l⟩ := h.uncons
    have := h2.len
    rw [List.length_cons]
    omega
theorem V.non : V m st j K W .non := ⟨_, .non, rfl, rfl, Nat.zero_le _, Nat.zero_le _⟩
theorem V.bl {b : Bool} : V m st j K W (.bl b) := ⟨_, .bl b, rfl, rfl, Nat.zero_le _, Nat.zero_le _⟩
theorem V.ofFine (h : Lx.Fine K W x) : V m st j K W x := by
  obtain ⟨h1, h2, h3, h4, h5⟩ := h
  have key : ∀ x, plainP x = true → Dv m st j x (dOf x) := by
    intro x
    refine PV.rec (motive_1 := fun x => plainP x = true → Dv m st j x (dOf x)) (motive_2 := fun xs => plainPs xs = true → Dvs m st j xs (dOfs xs)) ?_ ?_ ?_ ?_ ?_ ?_ ?_ ?_ x
    · exact fun _ => .non
    · exact fun b _ => .bl b
    · exact fun i _ => .int i
    · exact fun s _ => .str s
    · exact fun xs ih h => by rw [plainP] at h; rw [dOf]; exact .tup (ih h)
    · exact fun n h => by rw [plainP] at h; cases h
    · exact fun _ => .nil
    · exact fun x xs i1 i2 h => by rw [plainPs, Bool.and_eq_true] at h; rw [dOfs]; exact .cons (i1 h.1) (i2 h.2)
  exact ⟨dOf x, key x h1, h2, h3, h4, h5⟩
theorem V.shown (h : V m st j K W x) (hj : j ≤ 4) (hk : K ≤ 60) (hw : W ≤ 1048576) : ∃ t, ∀ s, Kp m st s → reprX [x] s = .ok (.str t) s := by
  obtain ⟨d, h1, h2, h3, h4, h5⟩ := h
  refine ⟨d.shown, fun s g => ?_⟩
  have t : Sm.toX s x = some d := (h1.kp g).toX hj
  have sx : showsX d = true := by
    unfold showsX
    rw [h2]
    simp only [Bool.true_and, Bool.and_eq_true, decide_eq_true_eq]
    exact ⟨Nat.le_trans h4 hk, PyData.shown_fits (B := 13) (by decide) (by decide) h3 (Nat.le_trans h5 (by simpa using hw))⟩
  simp only [reprX, t, sx, if_true]
end
/-! ### one level: what kind it is -/
inductive Ov (st : Store) : PV → Prop
  | non : Ov st .non
  | bl {b : Bool} : Ov st (.bl b)
  | int {i : Int} : Ov st (.int i)
  | str {s : Str} : Ov st (.str s)
  | tup {xs : List PV} : Ov st (.tup xs)
  | lst {n : Nat} {xs : List PV} : st[n]? = some (.lst xs) → Ov st (.ref n)
  | dk {n : Nat} : st[n]? = some (.dk []) → Ov st (.ref n)
theorem V.ov {m j K W : Nat} {st : Store} {x : PV} (h : V m st j K W x) : Ov st x := by
  obtain ⟨d, h, _⟩ := h
  cases h with
  | non => exact .non
  | bl => exact .bl
  | int => exact .int
  | str => exact .str
  | tup => exact .tup
  | lst _ e _ => exact .lst e
  | dk _ e => exact .dk e
theorem Ov.ex {st st' : Store} {x : PV} (h : Ov st x) (g : Ex st st') : Ov st' x := by
  cases h with
  | non => exact .non
  | bl => exact .bl
  | int => exact .int
  | str => exact .str
  | tup => exact .tup
  | lst e => exact .lst (g.get e)
  | dk e => exact .dk (g.get e)
section
variable {st : Store} {x : PV}
theorem Ov.ty (h : Ov st x) : ∃ t, tyC x st = some t ∧ (t = .int ↔ ∃ i, x = .int i) ∧ (t = .bl ↔ ∃ b, x = .bl b) ∧ (t = .str ↔ ∃ s, x = .str s) ∧ (t = .tup ↔ ∃ xs, x = .tup xs) := by
  cases h with
  | non => exact ⟨.non, rfl, by simp, by simp, by simp, by simp⟩
  | bl => exact ⟨.bl, rfl, by simp, by simp, by simp, by simp⟩
  | int => exact ⟨.int, rfl, by simp, by simp, by simp, by simp⟩
  | str => exact ⟨.str, rfl, by simp, by simp, by simp, by simp⟩
  | tup => exact ⟨.tup, rfl, by simp, by simp, by simp, by simp⟩
  | lst e => exact ⟨.lst, by unfold tyC; dsimp only; rw [getL_lst e], by simp, by simp, by simp, by simp⟩
  | dk e =>
    rename_i n
    have gl : getL st n = none := by unfold getL; rw [e]
    exact ⟨.dct, by unfold tyC; dsimp only; rw [gl]; dsimp only; rw [e], by simp, by simp, by simp, by simp⟩
def isSt : PV → Bool
  | .str _ => true
  | _ => false
def isTp : PV → Bool
  | .tup _ => true
  | _ => false
theorem isi_str (h : Ov st x) : ∃ t, tyC x st = some t ∧ isT t .str = isSt x := by
  obtain ⟨t, e, h1, h2, h3, h4⟩ := h.ty
  refine ⟨t, e, ?_⟩
  by_cases c : t = .str
  · subst c
    obtain ⟨s, rfl⟩ := h3.mp rfl
    rfl
  · have n : isSt x = false := by
      cases x <;> first | rfl | exact absurd (h3.mpr ⟨_, rfl⟩) c
    rw [n]
    cases t <;> first | rfl | exact absurd rfl c
theorem isi_tup (h : Ov st x) : ∃ t, tyC x st = some t ∧ isT t .tup = isTp x := by
  obtain ⟨t, e, h1, h2, h3, h4⟩ := h.ty
  refine ⟨t, e, ?_⟩
  by_cases c : t = .tup
  · subst c
    obtain ⟨s, rfl⟩ := h4.mp rfl
    rfl
  · have n : isTp x = false := by
      cases x <;> first | rfl | exact absurd (h4.mpr ⟨_, rfl⟩) c
    rw [n]
    cases t <;> first | rfl | exact absurd rfl c
@[simp] theorem eqT_int {i j : Int} : eqT (.int i) (.int j) st = .ok (.bl (decide (i = j))) st := rfl
@[simp] theorem eqT_str {a b : Str} : eqT (.str a) (.str b) st = .ok (.bl (decide (a = b))) st := rfl
def isStr (x : PV) (b : Str) : Bool := match x with
  | .str a => decide (a = b)
  | _ => false
theorem eqT_any {b : Str} (ok : PyData.strOk b = true) (h : Ov st x) : eqT x (.str b) st = .ok (.bl (isStr x b)) st := by
  have sh : SeqAt.shaped (.str b) = true := by
    unfold SeqAt.shaped
    simp only [PyData.canLay0, PyData.depth, ok, Bool.true_and]
    exact decide_eq_true (Nat.zero_le _)
  have box : ∀ y, boxP y st = true → isStr y b = false → eqT y (.str b) st = .ok (.bl (isStr y b)) st := fun y h e => by
    unfold eqT
    dsimp only
    rw [if_pos h, e]
  have data : ∀ y d, boxP y st = false → toD st y = some d → SeqAt.shaped d = true → PyData.eqv d (.str b) = false → isStr y b = false → (∀ i, y ≠ .str i) → eqT y (.str b) st = .ok (.bl (isStr y b)) st := fun y d h1 h2 h3 h4 h5 h6 => by
    unfold eqT
    dsimp only
    rw [if_neg (by rw [h1]; simp), h5]
    have e : eqF false y (.str b) st = eqDF false y (.str b) st := by
      unfold eqF
      split
      · rename_i h; cases h
      · exact absurd rfl (h6 _)
      · rename_i h; cases h
      · rfl
    rw [e]
    unfold eqDF
    rw [h2, show toD st (.str b) = some (.str b) from rfl]
    dsimp only
    rw [if_pos ⟨h3, sh⟩, h4]
    rfl
  cases h with
  | non => exact data _ .none rfl rfl (by decide +kernel) rfl rfl (by simp)
  | bl => rename_i c; exact data _ (.bool c) rfl rfl (by cases c <;> decide +kernel) rfl rfl (by simp)
  | int => rename_i i; exact data _ (.int i) rfl rfl (by unfold SeqAt.shaped; simp [PyData.canLay0, PyData.depth]) rfl rfl (by simp)
  | str => rfl
  | tup => exact box _ rfl rfl
  | lst e => exact box _ (by unfold boxP; dsimp only; rw [e]) rfl
  | dk e => exact box _ (by unfold boxP; dsimp only; rw [e]) rfl
theorem inT_any {ss : List Str} (h : Ov st x) : inT x (.tup (ss.map .str)) st = .ok (.bl (ss.any fun b => isStr x b)) st := by
  have hs : (ss.map PV.str).all isStrP = true := by
    rw [List.all_eq_true]
    intro y hy
    obtain ⟨s, _, rfl⟩ := List.mem_map.mp hy
    rfl
  have fs : (ss.map PV.str).all flatP = true := by
    rw [List.all_eq_true]
    intro y hy
    obtain ⟨s, _, rfl⟩ := List.mem_map.mp hy
    rfl
  have box : ∀ y, boxP y st = true → (∀ b, isStr y b = false) → inT y (.tup (ss.map .str)) st = .ok (.bl (ss.any fun b => isStr y b)) st := fun y h e => by
    unfold inT
    dsimp only
    rw [if_pos ⟨h, hs⟩]
    have : (ss.any fun b => isStr y b) = false := by rw [List.any_eq_false]; intro b _; rw [e b]; simp
    rw [this]
  have flat : ∀ y, boxP y st = false → flatP y = true → (∀ b, eqP (.str b) y = isStr y b) → inT y (.tup (ss.map .str)) st = .ok (.bl (ss.any fun b => isStr y b)) st := fun y h f e => by
    unfold inT
    dsimp only
    rw [if_neg (by rw [h]; simp)]
    unfold inF
    dsimp only
    rw [if_pos ⟨f, fs⟩]
    have : ((ss.map PV.str).any fun z => eqP z y) = ss.any fun b => isStr y b := by
      rw [List.any_map]
      congr 1
      funext b
      exact e b
    rw [this]
    rfl
  cases h with
  | non => exact flat _ rfl rfl fun _ => rfl
  | bl => exact flat _ rfl rfl fun _ => rfl
  | int => exact flat _ rfl rfl fun _ => rfl
  | str =>
    rename_i s
    refine flat _ rfl rfl fun b => ?_
    show (b == s) = decide (s = b)
    by_cases c : s = b
    · subst c; simp
    · rw [decide_eq_false c]; exact beq_eq_false_iff_ne.mpr (fun z => c z.symm)
  | tup => exact box _ rfl fun _ => rfl
  | lst e => exact box _ (by unfold boxP; dsimp only; rw [e]) fun _ => rfl
  | dk e => exact box _ (by unfold boxP; dsimp only; rw [e]) fun _ => rfl
end
end K05

namespace K05
open PySem Sm Lw
abbrev t (s : String) : Str := Str.ofString s
/-! ### what is well formed -/
def intB (lo hi : Int) (x : PV) : Bool := match x with
  | .int i => decide (lo ≤ i) && decide (i ≤ hi)
  | _ => false
def isIdx : PV → Bool := intB 0 11
def cellB (ps : List PV) : Bool := decide (ps.length = 2) && ps.all isIdx
def areaB (ps : List PV) : Bool := decide (ps.length = 4) && (ps.all isIdx && match ps with
  | [.int a, .int b, .int c, .int d] => decide (a ≤ c) && decide (b ≤ d)
  | _ => false)
def ENTS : List (Str × PV) := [(Str.ofString "SUM", .tup [.int (1)]), (Str.ofString "COUNT", .tup [.int (1)]), (Str.ofString "MAX", .tup [.int (1)]), (Str.ofString "MIN", .tup [.int (1)]), (Str.ofString "ROWS", .tup [.int (1)]), (Str.ofString "COLUMNS", .tup [.int (1)]), (Str.ofString "TRANSPOSE", .tup [.int (1)]), (Str.ofString "SORT", .tup [.int (1)]), (Str.ofString "SEQ", .tup [.int (1), .int (2)]), (Str.ofString "IFERROR", .tup [.int (2)]), (Str.ofString "FILTER", .tup [.int (2)]), (Str.ofString "TAKE", .tup [.int (2)]), (Str.ofString "DROP", .tup [.int (2)]), (Str.ofString "STACK", .tup [.int (2)]), (Str.ofString "BESIDE", .tup [.int (2)]), (Str.ofString "IF", .tup [.int (3)]), (Str.ofString "INDEX", .tup [.int (3)])]
def fnB (n : Str) (l : Nat) : Bool := match (lookS ENTS n).getD (.tup []) with
  | .tup ts => ts.any fun y => eqP y (.int (l : Int))
  | _ => false
def tkB (n a : PV) : Bool := match n, a with
  | .str n, .tup xs => fnB n xs.length
  | _, _ => false
def ops7 : List Str := ["+", "-", "*", "/", "<", "<=", "="].map Str.ofString
def hd (f : PV → Bool) (ps : List PV) : Bool := match ps with
  | a :: _ => f a
  | [] => false
def two (f : PV → PV → Bool) (ps : List PV) : Bool := match ps with
  | [a, b] => f a b
  | _ => false
def wfB (x : PV) : Bool := match x with
  | .tup (k :: ps) =>
    if isStr k (t "number") = true then decide (ps.length = 1) && hd (intB 0 1000000000) ps
    else if isStr k (t "cell") = true ∨ isStr k (t "spill") = true then cellB ps
    else if isStr k (t "range") = true then areaB ps
    else if isStr k (t "badref") = true then decide (ps.length = 0)
    else if isStr k (t "negate") = true then decide (ps.length = 1)
    else if isStr k (t "binary") = true then decide (ps.length = 3) && hd (fun o => ops7.any fun b => isStr o b) ps
    else isStr k (t "call") && (decide (ps.length = 2) && two tkB ps)
  | _ => false
section
variable {m : Nat} {st : Store} {x : PV}
theorem between (h : Ov st x) {lo hi : Int} : g_f_is_integer_between [x, .int lo, .int hi] st = .ok (.bl (intB lo hi x)) st := by
  have i1 : isT .non .int = false := by decide
  have i2 : isT .bl .int = true := by decide
  have i3 : isT .int .bl = false := by decide
  have i4 : isT .str .int = false ∧ isT .tup .int = false ∧ isT .lst .int = false ∧ isT .dct .int = false := by decide
  cases h with
  | non => simp [g_f_is_integer_between, gOf, m_f_is_integer_between, startS, tyC, i1, intB]
  | bl => simp [g_f_is_integer_between, gOf, m_f_is_integer_between, startS, tyC, i2, intB]
  | int =>
    rename_i i
    by_cases a : lo ≤ i <;> by_cases b : i ≤ hi <;> simp [g_f_is_integer_between, gOf, m_f_is_integer_between, startS, tyC, i3, intB, a, b]
  | str => simp [g_f_is_integer_between, gOf, m_f_is_integer_between, startS, tyC, i4, intB]
  | tup => simp [g_f_is_integer_between, gOf, m_f_is_integer_between, startS, tyC, i4, intB]
  | lst e => simp [g_f_is_integer_between, gOf, m_f_is_integer_between, startS, tyC, i4, intB, getL_lst e]
  | dk e =>
    rename_i n
    have gl : getL st n = none := by unfold getL; rw [e]
    simp [g_f_is_integer_between, gOf, m_f_is_integer_between, startS, tyC, i4, intB, gl, e]
theorem index_ap (h : Ov st x) : g_f_is_index [x] st = .ok (.bl (isIdx x)) st := by
  have b := between h (lo := 0) (hi := 11)
  simp [g_f_is_index, gOf, m_f_is_index, startS, mFn_ap, b, isIdx]
theorem idx_lc {all : List PV} {σ : Slots} (hσ : 1 < σ.length) : ∀ (xs acc : List PV), (∀ x ∈ xs, Ov st x) → acc.length + xs.length ≤ 1000000 →
    lcF (gNm 1) mYes (mFn 1 g_f_is_index (mCons (mVar 1) mNil)) none all σ st.length xs (st ++ [.lst acc]) = .ok (.ref st.length) (st ++ [.lst (acc ++ xs.map fun y => .bl (isIdx y))])
  | [], acc, _, _ => by rw [lcF, if_pos stays_none]; simp
  | x :: xs, acc, hx, hl => by
    rw [List.length_cons] at hl
    have hz : acc.length < sizeLine := Nat.lt_of_lt_of_le (show acc.length < 1000000 by omega) (by decide)
    have ei := index_ap ((hx x (by simp)).ex (Ex.push (c := Cell.lst acc)))
    have g1 : (σ.set 1 (some x))[1]? = some (some x) := List.getElem?_set_self hσ
    rw [lcF, if_pos stays_none]
    simp only [gNm_ap, mYes_ap, bindN_ok, if_true]
    have ef : mFn 1 g_f_is_index (mCons (mVar 1) mNil) (σ.set 1 (some x)) (st ++ [.lst acc]) = .ok (.bl (isIdx x)) (st ++ [.lst acc]) := by simp [mFn_ap, g1, ei]
    rw [ef]
    simp only [bindN_ok, getM_lst get_end, hz, if_true, set_end]
    have ih := idx_lc (all := all) hσ xs (acc ++ [PV.bl (isIdx x)]) (fun y hy => hx y (by simp [hy])) (by rw [List.length_append, List.length_singleton]; omega)
    rw [ih, List.append_assoc]
    rfl
theorem bls_map {f : PV → Bool} : ∀ {xs : List PV}, blsOf (xs.map fun y => .bl (f y)) = some (xs.map f)
  | [] => rfl
  | x :: xs => by rw [List.map_cons, blsOf, bls_map]; rfl
theorem all_map {f : PV → Bool} {xs : List PV} : (xs.map f).all id = xs.all f := by rw [List.all_map]; rfl
theorem all_ap {f : PV → Bool} {xs : List PV} : allF [.ref st.length] (st ++ [.lst (xs.map fun y => .bl (f y))]) = .ok (.bl (xs.all f)) (st ++ [.lst (xs.map fun y => .bl (f y))]) := by
  unfold allF
  dsimp only
  rw [getL_lst get_end]
  dsimp only
  rw [bls_map]
  dsimp only
  rw [all_map]
theorem idx_all {ps : List PV} {σ : Slots} (hσ : 1 < σ.length) (h0 : σ[0]? = some (some (.tup ps))) (hx : ∀ x ∈ ps, Ov st x) (hl : ps.length ≤ 1000000) :
    mCall allF (mCons (mLc (mItT (mVar 0)) (gNm 1) mYes (mFn 1 g_f_is_index (mCons (mVar 1) mNil)) [1]) mNil) σ st = .ok (.bl (ps.all isIdx)) (st ++ [.lst (ps.map fun y => .bl (isIdx y))]) := by
  have lw : 1 < (wipeS σ [1]).length := by simp [wipeS]; exact hσ
  have e := idx_lc (st := st) (all := ps) lw ps [] hx (by simpa using hl)
  rw [List.nil_append] at e
  have ei : mItT (mVar 0) σ st = .ok (none, ps) st := by simp [h0]
  simp only [mCall_ap, mCons_ap, mLc_ap, ei, bind_ok, e, mNil_ap, all_ap]
theorem cell_ap {ps : List PV} (hx : ∀ x ∈ ps, Ov st x) (hl : ps.length ≤ 1000000) : ∃ st', g_f_is_cell [.tup ps] st = .ok (.bl (cellB ps)) st' ∧ Ex st st' := by
  have e := idx_all (σ := [some (.tup ps), none]) (by show 1 < 2; decide) rfl hx hl
  by_cases h : ps.length = 2
  · exact ⟨st ++ [.lst (ps.map fun y => .bl (isIdx y))], by simp [-mLc_ap, -mCall_ap, g_f_is_cell, gOf, m_f_is_cell, startS, tyC]; rw [mCall_ap]; simp [-mLc_ap, -mCall_ap, h, e, cellB], Ex.push⟩
  · have h' : ¬ ((ps.length : Int) = 2) := by omega
    exact ⟨st, by simp [-mLc_ap, -mCall_ap, g_f_is_cell, gOf, m_f_is_cell, startS, tyC]; rw [mCall_ap]; simp [h, h', cellB], Ex.refl⟩
theorem area_ap {ps : List PV} (hx : ∀ x ∈ ps, Ov st x) (hl : ps.length ≤ 1000000) : ∃ st', g_f_is_area [.tup ps] st = .ok (.bl (areaB ps)) st' ∧ Ex st st' := by
  have e := idx_all (σ := [some (.tup ps), none, none, none, none, none]) (by show 1 < 6; decide) rfl hx hl
  have el : mCall lenF (mCons (mVar 0) mNil) [some (.tup ps), none, none, none, none, none] st = .ok (.int (ps.length : Nat)) st := by simp
  have hs : startS N_f_is_area [.tup ps] = [some (.tup ps), none, none, none, none, none] := rfl
  by_cases h : ps.length = 4
  · have h' : ((ps.length : Int) = 4) := by omega
    have c4 : decide ((4 : Int) = 4) = true := by decide
    by_cases ha : ps.all isIdx = true
    · refine ⟨_, ?_, Ex.push (c := Cell.lst (ps.map fun y => .bl (isIdx y)))⟩
      show gOf N_f_is_area m_f_is_area [.tup ps] st = _
      unfold gOf
      rw [hs]
      match ps, h with
      | [a, b, c, d], _ =>
        simp only [List.all_cons, List.all_nil, Bool.and_eq_true, Bool.and_true] at ha
        obtain ⟨a1, b1, c1, d1⟩ := ha
        have key : ∀ z, isIdx z = true → ∃ i, z = .int i := fun z hz => by cases z <;> first | exact ⟨_, rfl⟩ | cases hz
        obtain ⟨i, rfl⟩ := key _ a1
        obtain ⟨j, rfl⟩ := key _ b1
        obtain ⟨k, rfl⟩ := key _ c1
        obtain ⟨l, rfl⟩ := key _ d1
        have al : [PV.int i, .int j, .int k, .int l].all isIdx = true := by simp [a1, b1, c1, d1]
        rw [al] at e
        by_cases p1 : i ≤ k <;> by_cases p2 : j ≤ l <;> simp [-mLc_ap, -mCall_ap, m_f_is_area, tyC, el, e, truF, areaB, a1, b1, c1, d1, p1, p2]
    · refine ⟨_, ?_, Ex.push (c := Cell.lst (ps.map fun y => .bl (isIdx y)))⟩
      show gOf N_f_is_area m_f_is_area [.tup ps] st = _
      unfold gOf
      rw [hs]
      rw [Bool.not_eq_true] at ha
      rw [ha] at e
      simp [-mLc_ap, -mCall_ap, m_f_is_area, tyC, el, e, truF, areaB, ha, h]
  · have h' : ¬ ((ps.length : Int) = 4) := by omega
    refine ⟨st, ?_, Ex.refl⟩
    show gOf N_f_is_area m_f_is_area [.tup ps] st = _
    unfold gOf
    rw [hs]
    simp [-mLc_ap, -mCall_ap, m_f_is_area, tyC, el, truF, areaB, h, h']
theorem look_mem : ∀ {A : List (Str × PV)} {n : Str} {v : PV}, lookS A n = some v → ∃ p ∈ A, p.2 = v
  | [], _, _, h => nomatch h
  | p :: r, n, v, h => by
    unfold lookS at h
    by_cases c : p.1 = n
    · rw [if_pos c] at h
      exact ⟨p, by simp, Option.some.inj h⟩
    · rw [if_neg c] at h
      obtain ⟨q, hq, e⟩ := look_mem h
      exact ⟨q, by simp [hq], e⟩
theorem look_tup {n : Str} : ∃ ts, (lookS ENTS n).getD (.tup []) = .tup ts ∧ ts.all flatP = true := by
  cases h : lookS ENTS n with
  | none => exact ⟨[], rfl, rfl⟩
  | some v =>
    obtain ⟨p, hp, rfl⟩ := look_mem h
    simp only [ENTS, List.mem_cons, List.not_mem_nil, or_false] at hp
    rcases hp with rfl | rfl | rfl | rfl | rfl | rfl | rfl | rfl | rfl | rfl | rfl | rfl | rfl | rfl | rfl | rfl | rfl <;> exact ⟨_, rfl, rfl⟩
theorem inF_int {i : Int} {ts : List PV} {neg : Bool} (h : ts.all flatP = true) : inF neg (.int i) (.tup ts) st = .ok (.bl (if neg then !(ts.any fun y => eqP y (.int i)) else ts.any fun y => eqP y (.int i))) st := by
  unfold inF
  dsimp only
  rw [if_pos ⟨rfl, h⟩]
theorem takes_ap {nm as : PV} (h1 : Ov st nm) (h2 : Ov st as) : g_f_takes_arguments [nm, as] st = .ok (.bl (tkB nm as)) st := by
  obtain ⟨t1, e1, s1⟩ := isi_str h1
  obtain ⟨t2, e2, s2⟩ := isi_tup h2
  have z : (0 : Nat) ≤ sizeLine := Nat.zero_le _
  cases nm with
  | str n =>
    cases as with
    | tup xs =>
      obtain ⟨ts, et, hf⟩ := look_tup (n := n)
      have ei := inF_int (st := st) (i := (xs.length : Int)) (neg := false) hf
      have ef : fnB n xs.length = ts.any fun y => eqP y (.int (xs.length : Int)) := by unfold fnB; rw [et]
      have hs : startS N_f_takes_arguments [.str n, .tup xs] = [some (.str n), some (.tup xs)] := rfl
      show gOf N_f_takes_arguments m_f_takes_arguments [.str n, .tup xs] st = _
      unfold gOf
      rw [hs]
      have eg : mKget ENTS (mVar 0) (mTup mNil) [some (.str n), some (.tup xs)] st = .ok (.tup ts) st := by
        rw [mKget_ap]
        simp [et]
      unfold ENTS at eg
      simp [-mKget_ap, m_f_takes_arguments, tyC, truF, eg, ei, tkB, ef]
    | _ => simp [-mKget_ap, g_f_takes_arguments, gOf, m_f_takes_arguments, startS, e1, s1, e2, s2, truF, isSt, isTp, tkB]
  | _ => simp [-mKget_ap, g_f_takes_arguments, gOf, m_f_takes_arguments, startS, e1, s1, truF, isSt, tkB]
end
end K05

namespace K05
open PySem Sm Lw
open Lx (kids)
theorem cut1 {x : PV} {xs : List PV} : cutP (x :: xs) (some 1) none = xs := by
  unfold cutP
  have e1 : HT.sIx (x :: xs).length 0 (some 1) = 1 := by
    unfold HT.sIx
    simp
  have e2 : HT.sIx (x :: xs).length (x :: xs).length none = (x :: xs).length := rfl
  rw [e1, e2]
  simp
section
variable {m : Nat} {st : Store} {x : PV}
theorem wf_ap {xs : List PV} (hx : ∀ y ∈ xs, Ov st y) (hl : xs.length ≤ 1000000) : ∃ st', g_f_is_well_formed [.tup xs] st = .ok (.bl (wfB (.tup xs))) st' ∧ Ex st st' := by
  have hs : startS N_f_is_well_formed [.tup xs] = [some (.tup xs), none, none] := rfl
  cases xs with
  | nil =>
    refine ⟨st, ?_, Ex.refl⟩
    simp [g_f_is_well_formed, gOf, m_f_is_well_formed, startS, tyC, truF, wfB]
  | cons k ps =>
    have hk := hx k (by simp)
    have hp : ∀ y ∈ ps, Ov st y := fun y hy => hx y (by simp [hy])
    have lp : ps.length ≤ 1000000 := by rw [List.length_cons] at hl; omega
    have ln : ¬ ((ps.length : Int) + 1 = 0) := by omega
    obtain ⟨s1, c1, X1⟩ := cell_ap hp lp
    obtain ⟨s2, c2, X2⟩ := area_ap hp lp
    have k1 := eqT_any (b := t "number") (by decide +kernel) hk
    have k2 := eqT_any (b := t "cell") (by decide +kernel) hk
    have k3 := eqT_any (b := t "spill") (by decide +kernel) hk
    have k4 := eqT_any (b := t "range") (by decide +kernel) hk
    have k5 := eqT_any (b := t "badref") (by decide +kernel) hk
    have k6 := eqT_any (b := t "negate") (by decide +kernel) hk
    have k7 := eqT_any (b := t "binary") (by decide +kernel) hk
    have k8 := eqT_any (b := t "call") (by decide +kernel) hk
    show ∃ st', gOf N_f_is_well_formed m_f_is_well_formed [.tup (k :: ps)] st = _ ∧ _
    unfold gOf
    rw [hs]
    unfold wfB
    dsimp only
    by_cases b1 : isStr k (t "number") = true
    · rw [if_pos b1]
      rw [b1] at k1
      refine ⟨st, ?_, Ex.refl⟩
      by_cases l : ps.length = 1
      · match ps, l with
        | [a], _ =>
          have ha := between (hp a (by simp)) (lo := 0) (hi := 1000000000)
          simp [m_f_is_well_formed, tyC, truF, k1, cut1, mFn_ap, ha, hd]
      · have l' : ¬ ((ps.length : Int) = 1) := by omega
        simp [m_f_is_well_formed, tyC, truF, ln, k1, cut1, l, l']
    · rw [if_neg b1]
      rw [Bool.not_eq_true] at b1
      rw [b1] at k1
      by_cases b2 : isStr k (t "cell") = true ∨ isStr k (t "spill") = true
      · rw [if_pos b2]
        refine ⟨s1, ?_, X1⟩
        rcases b2 with b2 | b2
        · rw [b2] at k2
          simp [m_f_is_well_formed, tyC, truF, ln, k1, k2, cut1, mFn_ap, c1]
        · rw [b2] at k3
          by_cases b2' : isStr k (t "cell") = true
          · rw [b2'] at k2
            simp [m_f_is_well_formed, tyC, truF, ln, k1, k2, cut1, mFn_ap, c1]
          · rw [Bool.not_eq_true] at b2'
            rw [b2'] at k2
            simp [m_f_is_well_formed, tyC, truF, ln, k1, k2, k3, cut1, mFn_ap, c1]
      · rw [if_neg b2]
        obtain ⟨b2a, b2b⟩ := not_or.mp b2
        rw [Bool.not_eq_true] at b2a b2b
        rw [b2a] at k2
        rw [b2b] at k3
        by_cases b4 : isStr k (t "range") = true
        · rw [if_pos b4]
          rw [b4] at k4
          exact ⟨s2, by simp [m_f_is_well_formed, tyC, truF, ln, k1, k2, k3, k4, cut1, mFn_ap, c2], X2⟩
        · rw [if_neg b4]
          rw [Bool.not_eq_true] at b4
          rw [b4] at k4
          refine ⟨st, ?_, Ex.refl⟩
          by_cases b5 : isStr k (t "badref") = true
          · rw [if_pos b5]
            rw [b5] at k5
            by_cases l : ps.length = 0
            · have l' : ((ps.length : Int) = 0) := by omega
              simp [m_f_is_well_formed, tyC, truF, ln, k1, k2, k3, k4, k5, cut1, l]
            · have l' : ¬ ((ps.length : Int) = 0) := by omega
              simp [m_f_is_well_formed, tyC, truF, ln, k1, k2, k3, k4, k5, cut1, l, l']
          · rw [if_neg b5]
            rw [Bool.not_eq_true] at b5
            rw [b5] at k5
            by_cases b6 : isStr k (t "negate") = true
            · rw [if_pos b6]
              rw [b6] at k6
              by_cases l : ps.length = 1
              · have l' : ((ps.length : Int) = 1) := by omega
                simp [m_f_is_well_formed, tyC, truF, ln, k1, k2, k3, k4, k5, k6, cut1, l]
              · have l' : ¬ ((ps.length : Int) = 1) := by omega
                simp [m_f_is_well_formed, tyC, truF, ln, k1, k2, k3, k4, k5, k6, cut1, l, l']
            · rw [if_neg b6]
              rw [Bool.not_eq_true] at b6
              rw [b6] at k6
              by_cases b7 : isStr k (t "binary") = true
              · rw [if_pos b7]
                rw [b7] at k7
                by_cases l : ps.length = 3
                · match ps, l with
                  | [a, b, c], _ =>
                    have ha := inT_any (ss := ops7) (hp a (by simp))
                    unfold ops7 at ha
                    simp only [List.map_cons, List.map_nil] at ha
                    simp [-List.any_cons, m_f_is_well_formed, tyC, truF, k1, k2, k3, k4, k5, k6, k7, cut1, ha, hd, ops7]
                · have l' : ¬ ((ps.length : Int) = 3) := by omega
                  simp [m_f_is_well_formed, tyC, truF, ln, k1, k2, k3, k4, k5, k6, k7, cut1, l, l']
              · rw [if_neg b7]
                rw [Bool.not_eq_true] at b7
                rw [b7] at k7
                by_cases b8 : isStr k (t "call") = true
                · rw [b8] at k8 ⊢
                  by_cases l : ps.length = 2
                  · match ps, l with
                    | [a, b], _ =>
                      have ha := takes_ap (hp a (by simp)) (hp b (by simp))
                      simp [m_f_is_well_formed, tyC, truF, k1, k2, k3, k4, k5, k6, k7, k8, cut1, mFn_ap, ha, two]
                  · have l' : ¬ ((ps.length : Int) = 2) := by omega
                    simp [m_f_is_well_formed, tyC, truF, ln, k1, k2, k3, k4, k5, k6, k7, k8, cut1, l, l']
                · rw [Bool.not_eq_true] at b8
                  rw [b8] at k8 ⊢
                  simp [m_f_is_well_formed, tyC, truF, ln, k1, k2, k3, k4, k5, k6, k7, k8, cut1]
theorem wf_ap' {j K W : Nat} (h : V m st j K W x) (hw : W ≤ 1000000) : ∃ st', g_f_is_well_formed [x] st = .ok (.bl (wfB x)) st' ∧ Ex st st' := by
  cases x with
  | tup xs =>
    obtain ⟨k, _, l⟩ := h.untup
    exact wf_ap (fun y hy => (l.mem hy).ov) (Nat.le_trans l.len hw)
  | _ =>
    obtain ⟨t1, e1, s1⟩ := isi_tup h.ov
    refine ⟨st, ?_, Ex.refl⟩
    simp [g_f_is_well_formed, gOf, m_f_is_well_formed, startS, e1, s1, truF, isTp, wfB]
/-! ### its parts -/
theorem isStr_iff {k : PV} {b : Str} : isStr k b = true ↔ k = .str b := by
  cases k <;> simp [isStr]
inductive Wf : PV → List PV → Prop
  | leaf {s : Str} {ps : List PV} : s ∈ [t "number", t "cell", t "spill", t "range", t "badref"] → Wf (.tup (.str s :: ps)) []
  | neg {a : PV} : Wf (.tup [.str (t "negate"), a]) [a]
  | bin {o a b : PV} : Wf (.tup [.str (t "binary"), o, a, b]) [a, b]
  | call {n : Str} {as : List PV} : Wf (.tup [.str (t "call"), .str n, .tup as]) as
theorem wf_form (h : wfB x = true) : ∃ ks, Wf x ks := by
  unfold wfB at h
  split at h
  · rename_i k ps
    split at h
    · rename_i b
      rw [isStr_iff] at b; subst b
      exact ⟨_, .leaf (by simp)⟩
    · split at h
      · rename_i b
        rcases b with b | b <;> (rw [isStr_iff] at b; subst b; exact ⟨_, .leaf (by simp)⟩)
      · split at h
        · rename_i b
          rw [isStr_iff] at b; subst b
          exact ⟨_, .leaf (by simp)⟩
        · split at h
          · rename_i b
            rw [isStr_iff] at b; subst b
            exact ⟨_, .leaf (by simp)⟩
          · split at h
            · rename_i b
              rw [isStr_iff] at b; subst b
              have l := of_decide_eq_true h
              match ps, l with
              | [a], _ => exact ⟨_, .neg⟩
            · split at h
              · rename_i b
                rw [isStr_iff] at b; subst b
                rw [Bool.and_eq_true] at h
                have l := of_decide_eq_true h.1
                match ps, l with
                | [o, a, b], _ => exact ⟨_, .bin⟩
              · rw [Bool.and_eq_true, Bool.and_eq_true] at h
                obtain ⟨b, l, g⟩ := h
                rw [isStr_iff] at b; subst b
                have l := of_decide_eq_true l
                match ps, l with
                | [a, b], _ =>
                  have g : tkB a b = true := g
                  unfold tkB at g
                  split at g
                  · exact ⟨_, .call⟩
                  · cases g
  · cases h
theorem Wf.kids {ks : List PV} (h : Wf x ks) : kids x = ks := by
  cases h with
  | leaf h =>
    simp only [List.mem_cons, List.not_mem_nil, or_false] at h
    rcases h with rfl | rfl | rfl | rfl | rfl <;> simp [Lx.kids]
  | neg => simp [Lx.kids]
  | bin => simp [Lx.kids]
  | call => simp [Lx.kids]
theorem sub_ap {ks : List PV} (h : Wf x ks) (hl : ks.length ≤ 1000000) : g_f_subexpressions_of [x] st = .ok (.ref st.length) (st ++ [.lst ks]) := by
  have z := size_small hl
  have z1 : (1 : Nat) ≤ sizeLine := by decide
  have z2 : (2 : Nat) ≤ sizeLine := by decide
  cases h with
  | leaf h =>
    simp only [List.mem_cons, List.not_mem_nil, or_false] at h
    rcases h with rfl | rfl | rfl | rfl | rfl <;> simp [g_f_subexpressions_of, gOf, m_f_subexpressions_of, startS]
  | neg => simp [g_f_subexpressions_of, gOf, m_f_subexpressions_of, startS, z1]
  | bin => simp [g_f_subexpressions_of, gOf, m_f_subexpressions_of, startS, z2]
  | call => simp [g_f_subexpressions_of, gOf, m_f_subexpressions_of, startS, listF, newL, z]
theorem Wf.v {j K W : Nat} {ks : List PV} (h : Wf x ks) (v : V m st j K W x) : ∀ y ∈ ks, V m st j K W y := by
  cases h with
  | leaf h => exact fun y hy => nomatch hy
  | neg =>
    obtain ⟨k, rfl, l⟩ := v.untup
    intro y hy
    rw [List.mem_singleton] at hy
    exact (l.mem (by simp [hy])).more (Nat.le_refl _) (by omega) (Nat.le_refl _)
  | bin =>
    obtain ⟨k, rfl, l⟩ := v.untup
    intro y hy
    simp only [List.mem_cons, List.not_mem_nil, or_false] at hy
    rcases hy with rfl | rfl <;> exact (l.mem (by simp)).more (Nat.le_refl _) (by omega) (Nat.le_refl _)
  | call =>
    obtain ⟨k, rfl, l⟩ := v.untup
    have va := l.mem (x := .tup ks) (by simp)
    obtain ⟨k', rfl, l'⟩ := va.untup
    exact fun y hy => (l'.mem hy).more (Nat.le_refl _) (by omega) (Nat.le_refl _)
/-! ### how large -/
end
mutual
def sz : PV → Nat
  | .tup xs => szs xs + 1
  | _ => 1
def szs : List PV → Nat
  | [] => 0
  | x :: xs => sz x + szs xs
end
theorem sz_pos {x : PV} : 1 ≤ sz x := by cases x <;> simp [sz]
theorem szs_app : ∀ {xs ys : List PV}, szs (xs ++ ys) = szs xs + szs ys
  | [], ys => by rw [List.nil_append, szs, Nat.zero_add]
  | x :: xs, ys => by rw [List.cons_append, szs, szs, szs_app, Nat.add_assoc]
theorem szs_len : ∀ {xs : List PV}, xs.length ≤ szs xs
  | [] => Nat.zero_le _
  | x :: xs => by
    rw [List.length_cons, szs]
    have := szs_len (xs := xs)
    have := sz_pos (x := x)
    omega
theorem Wf.sz {x : PV} {ks : List PV} (h : Wf x ks) : szs ks + 1 ≤ sz x := by
  cases h <;> simp [K05.sz, K05.szs] <;> omega
section
variable {m : Nat} {st : Store}
mutual
theorem Dv.size : ∀ {k : Nat} {x : PV} {d : PyData}, Dv m st k x d → sz x ≤ d.weight + 1
  | _, _, _, .non => Nat.le_add_left _ _
  | _, _, _, .bl _ => Nat.le_add_left _ _
  | _, _, _, .int _ => Nat.le_add_left _ _
  | _, _, _, .str _ => Nat.le_add_left _ _
  | _, _, _, .tup h => by rw [sz, PyData.weight]; exact Nat.add_le_add_right h.size 1
  | _, _, _, .lst _ _ _ => Nat.le_add_left _ _
  | _, _, _, .dk _ _ => Nat.le_add_left _ _
theorem Dvs.size : ∀ {k : Nat} {xs : List PV} {ds : List PyData}, Dvs m st k xs ds → szs xs ≤ PyData.weightAll ds
  | _, _, _, .nil => Nat.zero_le _
  | _, _, _, .cons a b => by
    rw [szs, PyData.weightAll]
    have := a.size
    have := b.size
    omega
end
theorem V.size {j K W : Nat} {x : PV} (h : V m st j K W x) : sz x ≤ W + 1 := by
  obtain ⟨d, a, _, _, _, w⟩ := h
  have := a.size
  omega
end
end K05

namespace K05
open PySem Sm Lw
open Lx (kids)
/-! ### level by level -/
section
variable {m : Nat} {j K W : Nat}
theorem getL_set {st : Store} {p d : Nat} {c : Cell} {xs : List PV} (h : getL st p = some xs) (hd : p ≠ d) : getL (st.set d c) p = some xs := by
  unfold getL at h ⊢
  rw [List.getElem?_set_ne (Ne.symm hd)]
  exact h
theorem getL_ex' {a b : Store} {p : Nat} {xs : List PV} (h : Ex a b) (hp : getL a p = some xs) : getL b p = some xs := by
  unfold getL at hp ⊢
  cases e : a[p]? with
  | none => rw [e] at hp; cases hp
  | some c => rw [e] at hp; rw [h.get e]; exact hp
theorem inner {p d : Nat} {all : List PV} {a b : Option PV} (hpd : p ≠ d) : ∀ (cs acc : List PV) (st : Store), getL st p = some all → st[d]? = some (.lst acc) → acc.length + cs.length ≤ 1000000 →
    innerF (gNm 2) mYes (mVar 2) (some p) all [a, b, none] d cs st = some (st.set d (.lst (acc ++ cs)))
  | [], acc, st, hp, hd, _ => by rw [innerF, if_pos (stays_some hp), List.append_nil, set_same hd]
  | c :: cs, acc, st, hp, hd, hl => by
    rw [List.length_cons] at hl
    have hz : acc.length < sizeLine := Nat.lt_of_lt_of_le (show acc.length < 1000000 by omega) (by decide)
    rw [innerF, if_pos (stays_some hp)]
    simp only [gNm_ap, List.set_cons_succ, List.set_cons_zero, mYes_ap, if_true, mVar_ap, List.getElem?_cons_succ, List.getElem?_cons_zero, getM_lst hd, hz]
    rw [inner hpd cs (acc ++ [c]) _ (getL_set hp hpd) (List.getElem?_set_self (lt_of_some hd)) (by rw [List.length_append, List.length_singleton]; omega), List.set_set, List.append_assoc, List.singleton_append]
theorem outer {w d : Nat} {all : List PV} {a : Option PV} (hwd : w ≠ d) : ∀ (r acc : List PV) (st : Store), getL st w = some all → st[d]? = some (.lst acc) → (∀ y ∈ r, ∃ ks, Wf y ks) → acc.length + (r.flatMap kids).length ≤ 1000000 →
    ∃ st', lc2F (gNm 1) mYes (mItL (mFn 1 g_f_subexpressions_of (mCons (mVar 1) mNil))) (gNm 2) mYes (mVar 2) (some w) all [a, none, none] [2] d r st = .ok (.ref d) st' ∧ st'[d]? = some (.lst (acc ++ r.flatMap kids)) ∧ Fx d st st'
  | [], acc, st, hw, hd, _, _ => ⟨st, by rw [lc2F, if_pos (stays_some hw)], by rw [List.flatMap_nil, List.append_nil]; exact hd, Fx.refl⟩
  | y :: r, acc, st, hw, hd, hr, hl => by
    rw [List.flatMap_cons, List.length_append] at hl
    obtain ⟨ks, hk⟩ := hr y (by simp)
    have hk' := hk.kids
    obtain ⟨s1, h1⟩ : ∃ s1, st ++ [Cell.lst (kids y)] = s1 := ⟨_, rfl⟩
    have X1 : Ex st s1 := h1 ▸ Ex.push
    have e1 : g_f_subexpressions_of [y] st = .ok (.ref st.length) s1 := by rw [← h1, hk']; exact sub_ap hk (by rw [← hk']; omega)
    have hL : getL s1 st.length = some (kids y) := h1 ▸ getL_lst get_end
    have d1 : s1[d]? = some (.lst acc) := X1.get hd
    have ei := inner (p := st.length) (d := d) (all := kids y) (a := a) (b := some y) (Nat.ne_of_gt (lt_of_some hd)) (kids y) acc s1 hL d1 (by omega)
    obtain ⟨s2, e2, h2, F2⟩ := outer hwd r (acc ++ kids y) (s1.set d (.lst (acc ++ kids y))) (getL_set (getL_ex' X1 hw) hwd) (List.getElem?_set_self (lt_of_some d1)) (fun z hz => hr z (by simp [hz])) (by rw [List.length_append]; omega)
    refine ⟨s2, ?_, by rw [h2, List.flatMap_cons, List.append_assoc], (X1.fx.trans Fx.set).trans F2⟩
    rw [lc2F, if_pos (stays_some hw)]
    have em : mItL (mFn 1 g_f_subexpressions_of (mCons (mVar 1) mNil)) [a, some y, none] st = .ok (some st.length, kids y) s1 := by simp [mFn_ap, e1, hL]
    simp only [gNm_ap, List.set_cons_succ, List.set_cons_zero, mYes_ap, if_true, em]
    show (match innerF (gNm 2) mYes (mVar 2) (some st.length) (kids y) [a, some y, none] d (kids y) s1 with | some s4 => _ | none => _) = _
    rw [ei]
    exact e2
theorem one_level {w : Nat} {L : List PV} {st : Store} (hw : st[w]? = some (.lst L)) (hx : ∀ y ∈ L, ∃ ks, Wf y ks) (hl : (L.flatMap kids).length ≤ 1000000) : ∃ st', g_f_one_level_deeper [.ref w] st = .ok (.ref st.length) st' ∧ st'[st.length]? = some (.lst (L.flatMap kids)) ∧ Ex st st' := by
  obtain ⟨s1, h1⟩ : ∃ s1, st ++ [Cell.lst []] = s1 := ⟨_, rfl⟩
  have X1 : Ex st s1 := h1 ▸ Ex.push
  obtain ⟨s2, e2, h2, F2⟩ := outer (w := w) (d := st.length) (all := L) (a := some (.ref w)) (Nat.ne_of_lt (lt_of_some hw)) L [] s1 (getL_lst (X1.get hw)) (h1 ▸ get_end) hx (by simpa using hl)
  refine ⟨s2, ?_, by rw [h2, List.nil_append], Fx.ex_of X1 F2 (Nat.le_refl _)⟩
  have eI : mItL (mVar 0) [some (.ref w), none, none] st = .ok (some w, L) st := by simp [getL_lst hw]
  have hs : startS N_f_one_level_deeper [.ref w] = [some (.ref w), none, none] := rfl
  show gOf N_f_one_level_deeper m_f_one_level_deeper [.ref w] st = _
  unfold gOf
  rw [hs]
  simp only [m_f_one_level_deeper, mRet_ap, mLc2, eI, bind_ok, h1]
  show (match (Res.fl _ (lc2F (gNm 1) mYes (mItL (mFn 1 g_f_subexpressions_of (mCons (mVar 1) mNil))) (gNm 2) mYes (mVar 2) (some w) L [some (.ref w), none, none] [2] st.length L s1) _) with | .rt x s1 => _ | .nx _ s1 => _ | .exc c fs _ s1 => _ | _ => _) = _
  rw [e2]
  rfl
/-- are all of a list well formed? -/
theorem wf_lc {w d : Nat} {all : List PV} (hwd : w ≠ d) (hW : W ≤ 1000000) {σ : Slots} (hσ : 3 < σ.length) : ∀ (xs acc : List PV) (st : Store), getL st w = some all → st[d]? = some (.lst acc) → (d ≠ m → False) ∨ True → (∀ x ∈ xs, V m st j K W x) → (∀ s, Fx d st s → ∀ x ∈ xs, V m s j K W x) → acc.length + xs.length ≤ 1000000 →
    ∃ st', lcF (gNm 3) mYes (mFn 1 g_f_is_well_formed (mCons (mVar 3) mNil)) (some w) all σ d xs st = .ok (.ref d) st' ∧ st'[d]? = some (.lst (acc ++ xs.map fun y => .bl (wfB y))) ∧ Fx d st st'
  | [], acc, st, hw, hd, _, _, _, _ => ⟨st, by rw [lcF, if_pos (stays_some hw)], by simpa using hd, Fx.refl⟩
  | x :: xs, acc, st, hw, hd, _, hx, hf, hl => by
    rw [List.length_cons] at hl
    have hz : acc.length < sizeLine := Nat.lt_of_lt_of_le (show acc.length < 1000000 by omega) (by decide)
    obtain ⟨s1, e1, X1⟩ := wf_ap' (hx x (by simp)) hW
    have d1 := X1.get hd
    have F1 : Fx d st (s1.set d (.lst (acc ++ [.bl (wfB x)]))) := X1.fx.trans Fx.set
    obtain ⟨s2, e2, h2, F2⟩ := wf_lc hwd hW hσ xs (acc ++ [PV.bl (wfB x)]) (s1.set d (.lst (acc ++ [.bl (wfB x)]))) (getL_set (getL_ex' X1 hw) hwd) (List.getElem?_set_self (lt_of_some d1)) (.inr trivial) (fun y hy => hf _ F1 y (by simp [hy])) (fun s F y hy => hf s (F1.trans F) y (by simp [hy])) (by rw [List.length_append, List.length_singleton]; omega)
    refine ⟨s2, ?_, by rw [h2, List.append_assoc]; rfl, F1.trans F2⟩
    have g1 : (σ.set 3 (some x))[3]? = some (some x) := List.getElem?_set_self hσ
    have ef : mFn 1 g_f_is_well_formed (mCons (mVar 3) mNil) (σ.set 3 (some x)) st = .ok (.bl (wfB x)) s1 := by simp [mFn_ap, g1, e1]
    rw [lcF, if_pos (stays_some hw)]
    simp only [gNm_ap, mYes_ap, bindN_ok, if_true, ef, getM_lst d1, hz]
    exact e2
theorem Fx.kp_new {d : Nat} {a b : Store} (hd : a.length ≤ d) (h : Fx d a b) : Ex a b := ⟨h.le, fun i hi => h.old i hi (by omega)⟩
theorem wf_all {w : Nat} {L : List PV} {st : Store} {σ : Slots} (hσ : 3 < σ.length) (h1 : σ[1]? = some (some (.ref w))) (hw : st[w]? = some (.lst L)) (hx : ∀ y ∈ L, V m st j K W y) (hW : W ≤ 1000000) (hl : L.length ≤ 1000000) :
    ∃ st', mCall allF (mCons (mLc (mItL (mVar 1)) (gNm 3) mYes (mFn 1 g_f_is_well_formed (mCons (mVar 3) mNil)) [3]) mNil) σ st = .ok (.bl (L.all wfB)) st' ∧ Ex st st' := by
  obtain ⟨s1, h1'⟩ : ∃ s1, st ++ [Cell.lst []] = s1 := ⟨_, rfl⟩
  have X1 : Ex st s1 := h1' ▸ Ex.push
  have lw : 3 < (wipeS σ [3]).length := by simp [wipeS]; exact hσ
  have keep : ∀ s, Fx st.length s1 s → ∀ x ∈ L, V m s j K W x := fun s F x hxL => (hx x hxL).ex (Fx.ex_of X1 F (Nat.le_refl _))
  obtain ⟨s2, e2, h2, F2⟩ := wf_lc (m := m) (j := j) (K := K) (W := W) (w := w) (d := st.length) (all := L) (Nat.ne_of_lt (lt_of_some hw)) hW lw L [] s1 (getL_lst (X1.get hw)) (h1' ▸ get_end) (.inr trivial) (keep s1 Fx.refl) keep (by simpa using hl)
  rw [List.nil_append] at h2
  refine ⟨s2, ?_, Fx.ex_of X1 F2 (Nat.le_refl _)⟩
  have ei : mItL (mVar 1) σ st = .ok (some w, L) st := by simp [h1, getL_lst hw]
  have ea : allF [.ref st.length] s2 = .ok (.bl (L.all wfB)) s2 := by
    unfold allF
    dsimp only
    rw [getL_lst h2]
    dsimp only
    rw [bls_map]
    dsimp only
    rw [all_map]
  simp only [mCall_ap, mCons_ap, mLc_ap, ei, bind_ok, h1', e2, mNil_ap, ea]
/-! ### the answer -/
def isX : Nat → PV → Bool
  | 0, _ => false
  | n + 1, x => wfB x && (kids x).all (isX n)
def lev : Nat → List PV → Option (List PV)
  | 0, L => some L
  | n + 1, L => if L.all wfB = true then lev n (L.flatMap kids) else none
theorem all_flat {f : PV → Bool} : ∀ {L : List PV}, (L.flatMap kids).all f = L.all fun x => (kids x).all f
  | [] => rfl
  | x :: L => by rw [List.flatMap_cons, List.all_append, List.all_cons, all_flat]
theorem all_and {f g : PV → Bool} : ∀ {L : List PV}, (L.all f && L.all g) = L.all fun x => f x && g x
  | [] => rfl
  | x :: L => by
    rw [List.all_cons, List.all_cons, List.all_cons, ← all_and]
    cases f x <;> cases g x <;> simp
theorem lev_all : ∀ {n : Nat} {L : List PV}, (match lev n L with | some L' => L'.isEmpty | none => false) = L.all (isX n)
  | 0, [] => rfl
  | 0, x :: L => rfl
  | n + 1, L => by
    have e : L.all (isX (n + 1)) = (L.all wfB && (L.flatMap kids).all (isX n)) := by
      rw [all_flat, all_and]
      rfl
    rw [e]
    unfold lev
    by_cases h : L.all wfB = true
    · rw [if_pos h, h, lev_all, Bool.true_and]
    · rw [if_neg h]
      rw [Bool.not_eq_true] at h
      rw [h]
      rfl
theorem kids_sz : ∀ {L : List PV}, (∀ y ∈ L, ∃ ks, Wf y ks) → szs (L.flatMap kids) ≤ szs L
  | [], _ => Nat.le_refl _
  | x :: L, h => by
    obtain ⟨ks, hk⟩ := h x (by simp)
    rw [List.flatMap_cons, szs_app, szs, hk.kids]
    have := hk.sz
    have := kids_sz (L := L) fun y hy => h y (by simp [hy])
    omega
theorem level_loop {x : PV} (hW : W ≤ 1000000) {all : List PV} : ∀ (us : List Int) (L : List PV) (w : Nat) (o2 : Option PV) (st : Store), st[w]? = some (.lst L) → (∀ y ∈ L, V m st j K W y) → szs L ≤ 1000000 →
    ∃ st', Ex st st' ∧ ((lev us.length L = none ∧ loopF (gNm 2) L1_f_is_expression none all (us.map .int) [some x, some (.ref w), o2, none] st = .rt (.bl false) st') ∨
      ∃ w' L' o2', lev us.length L = some L' ∧ st'[w']? = some (.lst L') ∧ L'.length ≤ 1000000 ∧ loopF (gNm 2) L1_f_is_expression none all (us.map .int) [some x, some (.ref w), o2, none] st = .nx [some x, some (.ref w'), o2', none] st')
  | [], L, w, o2, st, hw, hx, hs => ⟨st, Ex.refl, .inr ⟨w, L, o2, rfl, hw, Nat.le_trans szs_len hs, by rw [List.map_nil, loopF, if_pos stays_none]⟩⟩
  | u :: us, L, w, o2, st, hw, hx, hs => by
    have hl : L.length ≤ 1000000 := Nat.le_trans szs_len hs
    obtain ⟨s1, e1, X1⟩ := wf_all (m := m) (j := j) (K := K) (W := W) (σ := [some x, some (.ref w), some (.int u), none]) (by show 3 < 4; decide) rfl hw hx hW hl
    rw [List.map_cons, loopF, if_pos stays_none]
    simp only [gNm_ap, List.set_cons_succ, List.set_cons_zero]
    rw [List.length_cons]
    unfold lev
    by_cases h : L.all wfB = true
    · rw [if_pos h]
      rw [h] at e1
      have hwf : ∀ y ∈ L, ∃ ks, Wf y ks := fun y hy => wf_form (List.all_eq_true.mp h y hy)
      have hk := kids_sz hwf
      obtain ⟨s2, e2, w2, X2⟩ := one_level (X1.get hw) hwf (Nat.le_trans szs_len (Nat.le_trans hk hs))
      have hx2 : ∀ y ∈ L.flatMap kids, V m s2 j K W y := fun y hy => by
        obtain ⟨z, hz, hy⟩ := List.mem_flatMap.mp hy
        obtain ⟨ks, q⟩ := hwf z hz
        rw [q.kids] at hy
        exact (q.v (hx z hz) y hy).ex (X1.trans X2)
      obtain ⟨s3, X3, r⟩ := level_loop (x := x) hW (all := all) us (L.flatMap kids) s1.length (some (.int u)) s2 w2 hx2 (Nat.le_trans hk hs)
      refine ⟨s3, (X1.trans X2).trans X3, ?_⟩
      have eb : L1_f_is_expression [some x, some (.ref w), some (.int u), none] st = .nx [some x, some (.ref s1.length), some (.int u), none] s2 := by
        simp [-mLc_ap, -mCall_ap, L1_f_is_expression, e1, truF, mFn_ap, e2]
      rw [eb]
      exact r
    · rw [if_neg h]
      rw [Bool.not_eq_true] at h
      rw [h] at e1
      refine ⟨s1, X1, .inl ⟨rfl, ?_⟩⟩
      have eb : L1_f_is_expression [some x, some (.ref w), some (.int u), none] st = .rt (.bl false) s1 := by
        simp [-mLc_ap, -mCall_ap, L1_f_is_expression, e1, truF]
      rw [eb]
theorem expr_ap {x : PV} {st : Store} (h : V m st j K W x) (hW : W ≤ 900000) : ∃ st', g_f_is_expression [x] st = .ok (.bl (isX 12 x)) st' ∧ Ex st st' := by
  obtain ⟨s1, h1⟩ : ∃ s1, st ++ [Cell.lst [x]] = s1 := ⟨_, rfl⟩
  have X1 : Ex st s1 := h1 ▸ Ex.push
  have w1 : s1[st.length]? = some (.lst [x]) := h1 ▸ get_end
  have sz1 : szs [x] ≤ 1000000 := by rw [szs, szs]; have := h.size; omega
  have z1 : (1 : Nat) ≤ sizeLine := by decide
  obtain ⟨s2, X2, r⟩ := level_loop (x := x) (all := (rangeI 0 12).map .int) (by omega : W ≤ 1000000) (rangeI 0 12) [x] st.length none s1 w1 (fun y hy => by rw [List.mem_singleton] at hy; subst hy; exact h.ex X1) sz1
  have la := lev_all (n := 12) (L := [x])
  have l12 : (rangeI 0 12).length = 12 := by decide
  rw [l12] at r
  have eX : [x].all (isX 12) = isX 12 x := by simp
  rw [eX] at la
  have hs : startS N_f_is_expression [x] = [some x, none, none, none] := rfl
  refine ⟨s2, ?_, X1.trans X2⟩
  show gOf N_f_is_expression m_f_is_expression [x] st = _
  unfold gOf
  rw [hs]
  rcases r with ⟨e, l⟩ | ⟨w', L', o2', e, hw', ll, l⟩
  · rw [e] at la
    simp [m_f_is_expression, z1, h1, rangeP_eq, l, ← la]
  · rw [e] at la
    have gl := getL_lst hw'
    cases L' with
    | nil => simp [m_f_is_expression, z1, h1, rangeP_eq, l, ← la, gl]
    | cons y L' =>
      have ne : ¬ ((L'.length : Int) + 1 = 0) := by omega
      simp [m_f_is_expression, z1, h1, rangeP_eq, l, ← la, gl, ne]
end
end K05

namespace K05
open PySem Sm Lw
open Lx (kids)
/-! ### the law's answer -/
theorem val_app {kvs : List (L2.Key × PV)} {k k' : L2.Key} {z : PV} : valP (kvs ++ [(k, z)]) k' = match valP kvs k' with | some v => some v | none => if k = k' then some z else none := by
  induction kvs with
  | nil => by_cases h : k = k' <;> simp [valP, h]
  | cons p r ih =>
    unfold valP at ih ⊢
    rw [List.cons_append, List.find?_cons, List.find?_cons]
    by_cases h : p.1 = k'
    · simp [h]
    · simp only [h, decide_false]
      exact ih
theorem val_swap {kvs : List (L2.Key × PV)} {k k' : L2.Key} {z : PV} (hk : (kvs.any fun kv => decide (kv.1 = k)) = true) : valP (swapP kvs k z) k' = if k = k' then some z else valP kvs k' := by
  have key : ∀ kvs : List (L2.Key × PV), valP (swapP kvs k z) k' = if k = k' then (if (kvs.any fun kv => decide (kv.1 = k)) = true then some z else none) else valP kvs k' := by
    intro kvs
    induction kvs with
    | nil => simp [valP, swapP]
    | cons p r ih =>
      unfold valP swapP at ih ⊢
      rw [List.map_cons, List.find?_cons, List.find?_cons, List.any_cons]
      by_cases h : p.1 = k
      · rw [if_pos h]
        by_cases g : k = k'
        · simp [h, g]
        · have g' : ¬ p.1 = k' := by rw [h]; exact g
          rw [if_neg g] at ih ⊢
          simp only [g', decide_false]
          exact ih
      · rw [if_neg h]
        by_cases g : p.1 = k'
        · have g' : ¬ k = k' := fun e => h (by rw [g, e])
          simp [g, g']
        · simp only [g, h, decide_false, Bool.false_or]
          exact ih
  rw [key, if_pos hk]
theorem val_put {kvs : List (L2.Key × PV)} {k k' : L2.Key} {z : PV} : valP (putP kvs k z) k' = if k = k' then some z else valP kvs k' := by
  unfold putP
  by_cases h : (kvs.any fun kv => decide (kv.1 = k)) = true
  · rw [if_pos h, val_swap h]
  · rw [if_neg h, val_app]
    have n : valP kvs k = none := by
      unfold valP
      rw [List.find?_eq_none.mpr]
      · rfl
      · intro x hx e
        exact h (List.any_eq_true.mpr ⟨x, hx, e⟩)
    by_cases g : k = k'
    · subst g; rw [n]
    · rw [if_neg g, if_neg g]
      cases valP kvs k' <;> rfl
theorem put_len {kvs : List (L2.Key × PV)} {k : L2.Key} {z : PV} : (putP kvs k z).length ≤ kvs.length + 1 := by
  unfold putP swapP
  split
  · rw [List.length_map]; omega
  · rw [List.length_append]; exact Nat.le_refl _
def puts (v : PV) (r : List Str) (D : List (L2.Key × PV)) : List (L2.Key × PV) := r.foldl (fun D n => putP D (.inr n) v) D
theorem val_puts {v : PV} {x : Str} : ∀ {r : List Str} {D : List (L2.Key × PV)}, valP (puts v r D) (.inr x) = if x ∈ r then some v else valP D (.inr x)
  | [], D => by rw [if_neg (by simp)]; rfl
  | n :: r, D => by
    show valP (puts v r (putP D (.inr n) v)) (.inr x) = _
    rw [val_puts, val_put]
    by_cases h : x ∈ r
    · rw [if_pos h, if_pos (by simp [h])]
    · rw [if_neg h]
      by_cases g : n = x
      · subst g; rw [if_pos rfl, if_pos (by simp)]
      · rw [if_neg (fun e => g (Sum.inr.inj e)), if_neg (by simp [h]; exact fun e => g e.symm)]
theorem puts_len {v : PV} : ∀ {r : List Str} {D : List (L2.Key × PV)}, (puts v r D).length ≤ D.length + r.length
  | [], D => Nat.le_refl _
  | n :: r, D => by
    show (puts v r (putP D (.inr n) v)).length ≤ _
    have := puts_len (v := v) (r := r) (D := putP D (.inr n) v)
    have := put_len (kvs := D) (k := .inr n) (z := v)
    rw [List.length_cons]
    omega
def N1 : List Str := ["SUM", "COUNT", "MAX", "MIN", "ROWS", "COLUMNS", "TRANSPOSE", "SORT"].map Str.ofString
def N2 : List Str := ["IFERROR", "FILTER", "TAKE", "DROP", "STACK", "BESIDE"].map Str.ofString
def D3 : List (L2.Key × PV) := [(.inr (t "SEQ"), .tup [.int 1, .int 2]), (.inr (t "IF"), .tup [.int 3]), (.inr (t "INDEX"), .tup [.int 3])]
def D17 : List (L2.Key × PV) := puts (.tup [.int 2]) N2 (puts (.tup [.int 1]) N1 D3)
theorem look_none : ∀ {A : List (Str × PV)} {n : Str}, (∀ p ∈ A, p.1 ≠ n) → lookS A n = none
  | [], _, _ => rfl
  | p :: r, n, h => by
    unfold lookS
    rw [if_neg (h p (by simp))]
    exact look_none fun q hq => h q (by simp [hq])
theorem tables {x : Str} : (valP D17 (.inr x)).getD (.tup []) = (lookS ENTS x).getD (.tup []) := by
  unfold D17
  rw [val_puts, val_puts]
  by_cases h2 : x ∈ N2
  · rw [if_pos h2]
    simp only [N2, List.map_cons, List.map_nil, List.mem_cons, List.not_mem_nil, or_false] at h2
    rcases h2 with rfl | rfl | rfl | rfl | rfl | rfl <;> rfl
  · rw [if_neg h2]
    by_cases h1 : x ∈ N1
    · rw [if_pos h1]
      simp only [N1, List.map_cons, List.map_nil, List.mem_cons, List.not_mem_nil, or_false] at h1
      rcases h1 with rfl | rfl | rfl | rfl | rfl | rfl | rfl | rfl <;> rfl
    · rw [if_neg h1]
      by_cases g1 : x = t "SEQ"
      · subst g1; rfl
      · by_cases g2 : x = t "IF"
        · subst g2; rfl
        · by_cases g3 : x = t "INDEX"
          · subst g3; rfl
          · have e1 : valP D3 (.inr x) = none := by
              unfold valP D3
              rw [List.find?_eq_none.mpr]
              · rfl
              · intro y hy e
                simp only [List.mem_cons, List.not_mem_nil, or_false] at hy
                have e := of_decide_eq_true e
                rcases hy with rfl | rfl | rfl
                · exact g1 (Sum.inr.inj e).symm
                · exact g2 (Sum.inr.inj e).symm
                · exact g3 (Sum.inr.inj e).symm
            have e2 : lookS ENTS x = none := look_none fun p hp e => by
              simp only [N1, N2, List.map_cons, List.map_nil, List.mem_cons, List.not_mem_nil, or_false, not_or] at h1 h2
              simp only [ENTS, List.mem_cons, List.not_mem_nil, or_false] at hp
              rcases hp with rfl | rfl | rfl | rfl | rfl | rfl | rfl | rfl | rfl | rfl | rfl | rfl | rfl | rfl | rfl | rfl | rfl <;> simp_all
            rw [e1, e2]
section
variable {m : Nat} {j K W : Nat} {rd rc : MC}
theorem put1 {p q : Nat} {P D : PV} {o4 : Option PV} (hpq : p ≠ q) {all : List PV} : ∀ (r : List Str) (o3 : Option PV) (kvs : List (L2.Key × PV)) (st : Store), getL st q = some all → st[p]? = some (.dk kvs) → kvs.length + r.length ≤ 1000 →
    ∃ o3', loopF (gNm 3) (L1_f_law_call_right rd rc) (some q) all (r.map .str) [some P, some D, some (.ref p), o3, o4] st = .nx [some P, some D, some (.ref p), o3', o4] (st.set p (.dk (puts (.tup [.int 1]) r kvs)))
  | [], o3, kvs, st, hq, hp, _ => ⟨o3, by rw [List.map_nil, loopF, if_pos (stays_some hq)]; rw [show puts (.tup [.int 1]) [] kvs = kvs from rfl, set_same hp]⟩
  | n :: r, o3, kvs, st, hq, hp, hl => by
    rw [List.length_cons] at hl
    have z : kvs.length < sizeLine := Nat.lt_of_lt_of_le (show kvs.length < 1000000 by omega) (by decide)
    have z1 : (1 : Nat) ≤ sizeLine := by decide
    have lp := lt_of_some hp
    have pl := put_len (kvs := kvs) (k := .inr n) (z := .tup [.int 1])
    obtain ⟨o3', e⟩ := put1 (P := P) (D := D) (o4 := o4) hpq r (some (.str n)) (putP kvs (.inr n) (.tup [.int 1])) (st.set p (.dk (putP kvs (.inr n) (.tup [.int 1])))) (getL_set hq hpq.symm) (List.getElem?_set_self lp) (by omega)
    refine ⟨o3', ?_⟩
    rw [List.map_cons, loopF, if_pos (stays_some hq)]
    simp only [gNm_ap, List.set_cons_succ, List.set_cons_zero]
    have eb : L1_f_law_call_right rd rc [some P, some D, some (.ref p), some (.str n), o4] st = .nx [some P, some D, some (.ref p), some (.str n), o4] (st.set p (.dk (putP kvs (.inr n) (.tup [.int 1])))) := by
      simp [L1_f_law_call_right, z1, getK_dk hp, z]
    rw [eb]
    dsimp only
    rw [e, List.set_set]
    rfl
theorem put2 {p q : Nat} {P D : PV} {o4 : Option PV} (hpq : p ≠ q) {all : List PV} : ∀ (r : List Str) (o3 : Option PV) (kvs : List (L2.Key × PV)) (st : Store), getL st q = some all → st[p]? = some (.dk kvs) → kvs.length + r.length ≤ 1000 →
    ∃ o3', loopF (gNm 3) (L2_f_law_call_right rd rc) (some q) all (r.map .str) [some P, some D, some (.ref p), o3, o4] st = .nx [some P, some D, some (.ref p), o3', o4] (st.set p (.dk (puts (.tup [.int 2]) r kvs)))
  | [], o3, kvs, st, hq, hp, _ => ⟨o3, by rw [List.map_nil, loopF, if_pos (stays_some hq)]; rw [show puts (.tup [.int 2]) [] kvs = kvs from rfl, set_same hp]⟩
  | n :: r, o3, kvs, st, hq, hp, hl => by
    rw [List.length_cons] at hl
    have z : kvs.length < sizeLine := Nat.lt_of_lt_of_le (show kvs.length < 1000000 by omega) (by decide)
    have z1 : (1 : Nat) ≤ sizeLine := by decide
    have lp := lt_of_some hp
    have pl := put_len (kvs := kvs) (k := .inr n) (z := .tup [.int 2])
    obtain ⟨o3', e⟩ := put2 (P := P) (D := D) (o4 := o4) hpq r (some (.str n)) (putP kvs (.inr n) (.tup [.int 2])) (st.set p (.dk (putP kvs (.inr n) (.tup [.int 2])))) (getL_set hq hpq.symm) (List.getElem?_set_self lp) (by omega)
    refine ⟨o3', ?_⟩
    rw [List.map_cons, loopF, if_pos (stays_some hq)]
    simp only [gNm_ap, List.set_cons_succ, List.set_cons_zero]
    have eb : L2_f_law_call_right rd rc [some P, some D, some (.ref p), some (.str n), o4] st = .nx [some P, some D, some (.ref p), some (.str n), o4] (st.set p (.dk (putP kvs (.inr n) (.tup [.int 2])))) := by
      simp [L2_f_law_call_right, z1, getK_dk hp, z]
    rw [eb]
    dsimp only
    rw [e, List.set_set]
    rfl
/-- those that are not due -/
theorem left_lc {n : Int} {f : PV → Bool} {P : PV} {p : Nat} {o3 : Option PV} {all : List PV} (ih : ∀ y st, V m st j K W y → ∃ st', rd [y, .int (n - 1)] st = .ok (.bl (f y)) st' ∧ Ex st st') {d : Nat} : ∀ (xs acc : List PV) (st : Store), st[d]? = some (.lst acc) → (∀ s, Fx d st s → ∀ y ∈ xs, V m s j K W y) → acc.length + xs.length ≤ 1000000 →
    ∃ st', lcF (gNm 4) (mNotT (mTru (mFn 2 rd (mCons (mVar 4) (mCons (mOp subF (mVar 1) (mC (.int 1))) mNil))))) (mVar 4) none all [some P, some (.int n), some (.ref p), o3, none] d xs st = .ok (.ref d) st' ∧ st'[d]? = some (.lst (acc ++ xs.filter fun y => !f y)) ∧ Fx d st st'
  | [], acc, st, hd, _, _ => ⟨st, by rw [lcF, if_pos stays_none], by simpa using hd, Fx.refl⟩
  | x :: xs, acc, st, hd, hv, hl => by
    rw [List.length_cons] at hl
    have hz : acc.length < sizeLine := Nat.lt_of_lt_of_le (show acc.length < 1000000 by omega) (by decide)
    obtain ⟨s1, e1, X1⟩ := ih x st (hv st Fx.refl x (by simp))
    have d1 := X1.get hd
    have et : mNotT (mTru (mFn 2 rd (mCons (mVar 4) (mCons (mOp subF (mVar 1) (mC (.int 1))) mNil)))) [some P, some (.int n), some (.ref p), o3, some x] st = .ok (!f x) s1 := by simp [mFn_ap, e1, truF]
    rw [lcF, if_pos stays_none]
    simp only [gNm_ap, List.set_cons_succ, List.set_cons_zero, et, bindN_ok]
    by_cases h : f x = true
    · obtain ⟨s2, e2, h2, F2⟩ := left_lc (P := P) (p := p) (o3 := o3) (all := all) ih xs acc s1 d1 (fun s F y hy => hv s (X1.fx.trans F) y (by simp [hy])) (by omega)
      refine ⟨s2, ?_, by rw [h2]; simp [h], X1.fx.trans F2⟩
      simp only [h, Bool.not_true, Bool.false_eq_true, if_false]
      exact e2
    · rw [Bool.not_eq_true] at h
      have F1 : Fx d st (s1.set d (.lst (acc ++ [x]))) := X1.fx.trans Fx.set
      obtain ⟨s2, e2, h2, F2⟩ := left_lc (P := P) (p := p) (o3 := o3) (all := all) ih xs (acc ++ [x]) (s1.set d (.lst (acc ++ [x]))) (List.getElem?_set_self (lt_of_some d1)) (fun s F y hy => hv s (F1.trans F) y (by simp [hy])) (by rw [List.length_append, List.length_singleton]; omega)
      refine ⟨s2, ?_, by rw [h2]; simp [h], F1.trans F2⟩
      simp only [h, Bool.not_false, if_true, mVar_ap, List.getElem?_cons_succ, List.getElem?_cons_zero, bindN_ok, getM_lst d1, hz]
      exact e2
theorem eq_nil {st : Store} {a b : Nat} {xs : List PV} (ha : getL st a = some xs) (hb : getL st b = some []) : eqT (.ref a) (.ref b) st = .ok (.bl xs.isEmpty) st := by
  unfold eqT
  dsimp only
  rw [ha, hb]
  dsimp only
  cases xs with
  | nil =>
    rw [if_pos rfl]
    have ta : toD st (.ref a) = some (.list []) := by unfold toD; rw [toDw, refD, ha]; rfl
    have tb : toD st (.ref b) = some (.list []) := by unfold toD; rw [toDw, refD, hb]; rfl
    unfold eqF eqDF
    dsimp only
    rw [ta, tb]
    dsimp only
    rw [if_pos ⟨by decide +kernel, by decide +kernel⟩]
    rfl
  | cons y ys => rw [if_neg (by simp)]; rfl
end
end K05

namespace K05
open PySem Sm Lw
open Lx (kids)
def allT (g : PV → Bool) (_ a : PV) : Bool := match a with
  | .tup as => as.all g
  | _ => false
section
variable {m : Nat} {j K W : Nat} {st : Store}
theorem call_ap {f : Nat} {n : Int} {g : PV → Bool} {ps : List PV} (ih : ∀ y st, V m st j K W y → ∃ st', g_f_law_due f [y, .int (n - 1)] st = .ok (.bl (g y)) st' ∧ Ex st st') (hp : Ls m st j K W ps) (hW : W ≤ 900000) :
    ∃ st', g_f_law_call_right (f + 1) [.tup ps, .int n] st = .ok (.bl ((decide (ps.length = 2) && two tkB ps) && two (allT g) ps)) st' ∧ Ex st st' := by
  have z1 : (1 : Nat) ≤ sizeLine := by decide
  have z2 : (2 : Nat) ≤ sizeLine := by decide
  have z8 : (8 : Nat) ≤ sizeLine := by decide
  have z6 : (6 : Nat) ≤ sizeLine := by decide
  obtain ⟨s1, h1⟩ : ∃ s1, st ++ [Cell.dk D3] = s1 := ⟨_, rfl⟩
  have X1 : Ex st s1 := h1 ▸ Ex.push
  obtain ⟨n1, hn1⟩ : ∃ n1, N1.map PV.str = n1 := ⟨_, rfl⟩
  obtain ⟨n2, hn2⟩ : ∃ n2, N2.map PV.str = n2 := ⟨_, rfl⟩
  obtain ⟨s2, h2⟩ : ∃ s2, s1 ++ [Cell.lst n1] = s2 := ⟨_, rfl⟩
  have X2 : Ex s1 s2 := h2 ▸ Ex.push
  have p1 : s1[st.length]? = some (.dk D3) := h1 ▸ get_end
  have q2 : getL s2 s1.length = some n1 := getL_lst (h2 ▸ get_end)
  have ne1 : st.length ≠ s1.length := Nat.ne_of_lt (lt_of_some p1)
  obtain ⟨o3, e3⟩ := put1 (rd := g_f_law_due f) (rc := g_f_law_call_right f) (P := .tup ps) (D := .int n) (o4 := none) ne1 (all := n1) N1 none D3 s2 q2 (X2.get p1) (by decide)
  obtain ⟨s3, h3⟩ : ∃ s3 : Store, s2.set st.length (.dk (puts (.tup [.int 1]) N1 D3)) = s3 := ⟨_, rfl⟩
  rw [h3] at e3
  have l2 : st.length < s2.length := lt_of_some (X2.get p1)
  have p3 : s3[st.length]? = some (.dk (puts (.tup [.int 1]) N1 D3)) := by rw [← h3]; exact List.getElem?_set_self l2
  obtain ⟨s4, h4⟩ : ∃ s4 : Store, s3 ++ [Cell.lst n2] = s4 := ⟨_, rfl⟩
  have X4 : Ex s3 s4 := h4 ▸ Ex.push
  have q4 : getL s4 s3.length = some n2 := getL_lst (h4 ▸ get_end)
  have ne3 : st.length ≠ s3.length := Nat.ne_of_lt (lt_of_some p3)
  have pl := puts_len (v := .tup [.int 1]) (r := N1) (D := D3)
  obtain ⟨o5, e5⟩ := put2 (rd := g_f_law_due f) (rc := g_f_law_call_right f) (P := .tup ps) (D := .int n) (o4 := none) ne3 (all := n2) N2 o3 (puts (.tup [.int 1]) N1 D3) s4 q4 (X4.get p3) (Nat.le_trans (Nat.add_le_add_right pl _) (by decide))
  obtain ⟨s5, h5⟩ : ∃ s5 : Store, s4.set st.length (.dk D17) = s5 := ⟨_, rfl⟩
  have e5' : loopF (gNm 3) (L2_f_law_call_right (g_f_law_due f) (g_f_law_call_right f)) (some s3.length) n2 (N2.map .str) [some (.tup ps), some (.int n), some (.ref st.length), o3, none] s4 = .nx [some (.tup ps), some (.int n), some (.ref st.length), o5, none] s5 := by rw [← h5]; exact e5
  have l4 : st.length < s4.length := lt_of_some (X4.get p3)
  have p5 : s5[st.length]? = some (.dk D17) := by rw [← h5]; exact List.getElem?_set_self l4
  have F5 : Fx st.length s1 s5 := by
    refine ((X2.fx.trans ?_).trans X4.fx).trans ?_
    · rw [← h3]; exact Fx.set
    · rw [← h5]; exact Fx.set
  have X5 : Ex st s5 := Fx.ex_of X1 F5 (Nat.le_refl _)
  have hs : startS N_f_law_call_right [.tup ps, .int n] = [some (.tup ps), some (.int n), none, none, none] := rfl
  have md : mDict (((mC (.str (Str.ofString "SEQ"))), (mTup (mCons (mC (.int 1)) (mCons (mC (.int 2)) mNil)))) :: (((mC (.str (Str.ofString "IF"))), (mTup (mCons (mC (.int 3)) mNil))) :: (((mC (.str (Str.ofString "INDEX"))), (mTup (mCons (mC (.int 3)) mNil))) :: []))) [some (.tup ps), some (.int n), none, none, none] st = .ok (.ref st.length) s1 :=
    h1 ▸ dict_ap (kvs := D3) (by simp [z1, z2, D3]) (by decide) rfl
  have ml1 : ∀ σ : Slots, mItL (mLst (mCons (mC (.str (Str.ofString "SUM"))) (mCons (mC (.str (Str.ofString "COUNT"))) (mCons (mC (.str (Str.ofString "MAX"))) (mCons (mC (.str (Str.ofString "MIN"))) (mCons (mC (.str (Str.ofString "ROWS"))) (mCons (mC (.str (Str.ofString "COLUMNS"))) (mCons (mC (.str (Str.ofString "TRANSPOSE"))) (mCons (mC (.str (Str.ofString "SORT"))) mNil))))))))) σ s1 = .ok (some s1.length, n1) s2 := fun σ => by
    have hn := hn1
    simp only [N1, List.map_cons, List.map_nil] at hn
    have zn : n1.length ≤ sizeLine := by rw [← hn]; exact z8
    simp [zn, hn, h2, q2]
  have ml2 : ∀ σ : Slots, mItL (mLst (mCons (mC (.str (Str.ofString "IFERROR"))) (mCons (mC (.str (Str.ofString "FILTER"))) (mCons (mC (.str (Str.ofString "TAKE"))) (mCons (mC (.str (Str.ofString "DROP"))) (mCons (mC (.str (Str.ofString "STACK"))) (mCons (mC (.str (Str.ofString "BESIDE"))) mNil))))))) σ s3 = .ok (some s3.length, n2) s4 := fun σ => by
    have hn := hn2
    simp only [N2, List.map_cons, List.map_nil] at hn
    have zn : n2.length ≤ sizeLine := by rw [← hn]; exact z6
    simp [zn, hn, h4, q4]
  rw [hn1] at e3
  rw [hn2] at e5'
  have hp5 := hp.ex X5
  show ∃ st', gOf N_f_law_call_right (m_f_law_call_right (g_f_law_due f) (g_f_law_call_right f)) [.tup ps, .int n] st = _ ∧ _
  unfold gOf
  rw [hs]
  by_cases l : ps.length = 2
  · match ps, l with
    | [a, b], _ =>
      obtain ⟨w, v, va, lb, _⟩ := hp5.uncons
      obtain ⟨w', v', vb, _, lw⟩ := lb.uncons
      obtain ⟨t1, e6, i6⟩ := isi_str va.ov
      obtain ⟨t2, e7, i7⟩ := isi_tup vb.ov
      cases a with
      | str x =>
        cases b with
        | tup as =>
          obtain ⟨ts, et, hf⟩ := look_tup (n := x)
          have eg := tables (x := x)
          rw [et] at eg
          have ei := inF_int (st := s5) (i := (as.length : Int)) (neg := true) hf
          have ef : fnB x as.length = ts.any fun y => eqP y (.int (as.length : Int)) := by unfold fnB; rw [et]
          have gk := getK_dk p5
          have mg : mGet (mVar 2) (mOp ixF (mVar 0) (mC (.int 0))) (mTup mNil) [some (.tup [.str x, .tup as]), some (.int n), some (.ref st.length), o5, none] s5 = .ok (.tup ts) s5 := by
            unfold mGet dgetF
            simp [gk, eg]
          by_cases h : fnB x as.length = true
          · rw [← ef, h] at ei
            obtain ⟨s6, h6⟩ : ∃ s6, s5 ++ [Cell.lst []] = s6 := ⟨_, rfl⟩
            have X6 : Ex s5 s6 := h6 ▸ Ex.push
            obtain ⟨k, hk, la⟩ := vb.untup
            have keep : ∀ s, Fx s5.length s6 s → ∀ y ∈ as, V m s j K W y := fun s F y hy => ((la.mem hy).more (Nat.le_refl _) (by omega) (by have := la.len; omega)).ex (Fx.ex_of X6 F (Nat.le_refl _))
            obtain ⟨s7, e8, h8, F8⟩ := left_lc (P := .tup [.str x, .tup as]) (p := st.length) (o3 := o5) (all := as) ih as [] s6 (h6 ▸ get_end) keep (by have := la.len; simp; omega)
            obtain ⟨s8, h9⟩ : ∃ s8, s7 ++ [Cell.lst []] = s8 := ⟨_, rfl⟩
            have X9 : Ex s7 s8 := h9 ▸ Ex.push
            have X8 : Ex s5 s7 := Fx.ex_of X6 F8 (Nat.le_refl _)
            have en := eq_nil (st := s8) (getL_lst (X9.get h8)) (getL_lst (h9 ▸ get_end))
            refine ⟨s8, ?_, X5.trans (X8.trans X9)⟩
            have ef2 : (as.filter fun y => !g y).isEmpty = as.all g := by
              rw [Bool.eq_iff_iff, List.isEmpty_iff, List.filter_eq_nil_iff, List.all_eq_true]
              simp
            rw [List.nil_append, ef2] at en
            have wi : wipeS [some (.tup [.str x, .tup as]), some (.int n), some (.ref st.length), o5, none] [4] = [some (.tup [.str x, .tup as]), some (.int n), some (.ref st.length), o5, none] := rfl
            simp [-mItL_ap, m_f_law_call_right, md, ml1, e3, ml2, e5', tyC, truF, mg, ei, z1, h6, wi, e8, h9, en, two, tkB, allT, h]
          · rw [Bool.not_eq_true] at h
            rw [← ef, h] at ei
            refine ⟨s5, ?_, X5⟩
            simp [-mItL_ap, m_f_law_call_right, md, ml1, e3, ml2, e5', tyC, truF, mg, ei, two, tkB, h]
        | _ =>
          refine ⟨s5, ?_, X5⟩
          simp [-mItL_ap, m_f_law_call_right, md, ml1, e3, ml2, e5', e6, i6, e7, i7, truF, isSt, isTp, two, tkB]
      | _ =>
        refine ⟨s5, ?_, X5⟩
        simp [-mItL_ap, m_f_law_call_right, md, ml1, e3, ml2, e5', e6, i6, truF, isSt, two, tkB]
  · have l' : ¬ ((ps.length : Int) = 2) := by omega
    refine ⟨s5, ?_, X5⟩
    simp [-mItL_ap, m_f_law_call_right, md, ml1, e3, ml2, e5', l, l']
theorem due_stop {f : Nat} {n : Int} {x : PV} (h : V m st j K W x) (hn : (∀ s ps, x ≠ .tup (.str s :: ps)) ∨ n = 0) : g_f_law_due (f + 1) [x, .int n] st = .ok (.bl false) st := by
  have hs : startS N_f_law_due [x, .int n] = [some x, some (.int n), none, none] := rfl
  show gOf N_f_law_due (m_f_law_due (g_f_law_due f) (g_f_law_call_right f)) [x, .int n] st = _
  unfold gOf
  rw [hs]
  obtain ⟨t1, e1, i1⟩ := isi_tup h.ov
  cases x with
  | tup xs =>
    cases xs with
    | nil => simp [m_f_law_due, tyC, truF]
    | cons k ps =>
      have ln : ¬ ((ps.length : Int) + 1 = 0) := by omega
      have tt : tyC (.tup (k :: ps)) st = some .tup := rfl
      obtain ⟨k', hk, l⟩ := h.untup
      have vk := l.mem (x := k) (by simp)
      obtain ⟨t2, e2, i2⟩ := isi_str vk.ov
      rcases hn with hn | rfl
      · have is : isSt k = false := by
          cases k <;> first | rfl | exact absurd rfl (hn _ _)
        rw [is] at i2
        simp [m_f_law_due, tt, truF, ln, e2, i2]
      · by_cases c : isSt k = true
        · rw [c] at i2; simp [m_f_law_due, tt, truF, ln, e2, i2]
        · rw [Bool.not_eq_true] at c; rw [c] at i2; simp [m_f_law_due, tt, truF, ln, e2, i2]
  | _ =>
    simp [m_f_law_due, e1, i1, truF, isTp]
theorem lawint (h : Ov st x) {lo hi : Int} : g_f_law_integer [x, .int lo, .int hi] st = .ok (.bl (intB lo hi x)) st := between h
theorem cellr_ap {ps : List PV} (h : ∀ y ∈ ps, Ov st y) : g_f_law_cell_right [.tup ps] st = .ok (.bl (cellB ps)) st := by
  by_cases l : ps.length = 2
  · match ps, l with
    | [a, b], _ =>
      have ha := lawint (h a (by simp)) (lo := 0) (hi := 11)
      have hb := lawint (h b (by simp)) (lo := 0) (hi := 11)
      by_cases c : intB 0 11 a = true
      · rw [c] at ha
        simp [g_f_law_cell_right, gOf, m_f_law_cell_right, startS, mFn_ap, ha, hb, truF, cellB, isIdx, c]
      · rw [Bool.not_eq_true] at c
        rw [c] at ha
        simp [g_f_law_cell_right, gOf, m_f_law_cell_right, startS, mFn_ap, ha, truF, cellB, isIdx, c]
  · have l' : ¬ ((ps.length : Int) = 2) := by omega
    simp [g_f_law_cell_right, gOf, m_f_law_cell_right, startS, cellB, l, l']
end
end K05

namespace K05
open PySem Sm Lw
open Lx (kids)
section
variable {m : Nat} {j K W : Nat} {st : Store}
theorem idxs {a : PV} (h : isIdx a = true) : ∃ i, a = .int i ∧ 0 ≤ i ∧ i ≤ 11 := by
  cases a with
  | int i =>
    simp only [isIdx, intB, Bool.and_eq_true, decide_eq_true_eq] at h
    exact ⟨i, rfl, h.1, h.2⟩
  | _ => cases h
theorem leaf_all {s : Str} {ps : List PV} {f : PV → Bool} (h : s ∈ [t "number", t "cell", t "spill", t "range", t "badref"]) : (kids (.tup (.str s :: ps))).all f = true := by
  rw [(Wf.leaf (ps := ps) h).kids]
  rfl
theorem in2 {s : Str} : inT (.str s) (.tup [.str (Str.ofString "cell"), .str (Str.ofString "spill")]) st = .ok (.bl (isStr (.str s) (t "cell") || isStr (.str s) (t "spill"))) st := by
  have h := inT_any (st := st) (x := .str s) (ss := [t "cell", t "spill"]) .str
  simpa using h
theorem in7 {s : Str} : inF true (.str s) (.tup [.str (Str.ofString "+"), .str (Str.ofString "-"), .str (Str.ofString "*"), .str (Str.ofString "/"), .str (Str.ofString "<"), .str (Str.ofString "<="), .str (Str.ofString "=")]) st = .ok (.bl (!(ops7.any fun b => isStr (.str s) b))) st := by
  unfold inF
  dsimp only
  rw [if_pos ⟨rfl, rfl⟩]
  have e : ([PV.str (Str.ofString "+"), .str (Str.ofString "-"), .str (Str.ofString "*"), .str (Str.ofString "/"), .str (Str.ofString "<"), .str (Str.ofString "<="), .str (Str.ofString "=")].any fun y => eqP y (.str s)) = ops7.any fun b => isStr (.str s) b := by
    show ((ops7.map PV.str).any fun y => eqP y (.str s)) = _
    rw [List.any_map]
    congr 1
    funext b
    show (b == s) = decide (s = b)
    by_cases c : s = b
    · subst c; simp
    · rw [decide_eq_false c]; exact beq_eq_false_iff_ne.mpr (fun z => c z.symm)
  rw [e]
  rfl
theorem cut_lo {a b c d : PV} : cutP [a, b, c, d] none (some 2) = [a, b] := rfl
theorem cut_hi {a b c d : PV} : cutP [a, b, c, d] (some 2) none = [c, d] := rfl
theorem due_step {f : Nat} {n : Nat} {s : Str} {ps : List PV} (ih : ∀ y st, V m st j K W y → ∃ st', g_f_law_due (f + 1) [y, .int n] st = .ok (.bl (isX n y)) st' ∧ Ex st st') (ih2 : ∀ y st, V m st j K W y → ∃ st', g_f_law_due f [y, .int n] st = .ok (.bl (isX n y)) st' ∧ Ex st st')
    (hx : V m st j K W (.tup (.str s :: ps))) (hW : W ≤ 900000) : ∃ st', g_f_law_due (f + 2) [.tup (.str s :: ps), .int ((n + 1 : Nat) : Int)] st = .ok (.bl (isX (n + 1) (.tup (.str s :: ps)))) st' ∧ Ex st st' := by
  obtain ⟨k', hk, l⟩ := hx.untup
  obtain ⟨w, v, _, lp, lw⟩ := l.uncons
  have lpW : Ls m st j K W ps := lp.more (Nat.le_refl _) (by omega) (by omega)
  have ho : ∀ y ∈ ps, Ov st y := fun y hy => (lp.mem hy).ov
  have ln : ¬ ((ps.length : Int) + 1 = 0) := by omega
  have nz : ¬ ((n : Int) + 1 = 0) := by omega
  have ns : (n : Int) + 1 - 1 = n := by omega
  have tt : tyC (.tup (.str s :: ps)) st = some .tup := rfl
  have ts : tyC (.str s) st = some .str := rfl
  have p9 : powOk 10 9 = true := by decide +kernel
  have e9 : (10 : Int) ^ (9 : Int).toNat = 1000000000 := by decide
  have z2 : (2 : Nat) ≤ sizeLine := by decide
  have z7 : (7 : Nat) ≤ sizeLine := by decide
  have hs : startS N_f_law_due [.tup (.str s :: ps), .int ((n + 1 : Nat) : Int)] = [some (.tup (.str s :: ps)), some (.int ((n + 1 : Nat) : Int)), none, none] := rfl
  show ∃ st', gOf N_f_law_due (m_f_law_due (g_f_law_due (f + 1)) (g_f_law_call_right (f + 1))) [.tup (.str s :: ps), .int ((n + 1 : Nat) : Int)] st = _ ∧ _
  unfold gOf
  rw [hs]
  have i2 := in2 (st := st) (s := s)
  have iss : ∀ b, isStr (.str s) b = decide (s = b) := fun b => rfl
  unfold isX wfB
  dsimp only
  simp only [iss, decide_eq_true_eq] at i2 ⊢
  by_cases b1 : s = t "number"
  · rw [if_pos b1, leaf_all (by rw [b1]; simp), Bool.and_true]
    have b1' := eq_true b1
    refine ⟨st, ?_, Ex.refl⟩
    by_cases l : ps.length = 1
    · match ps, l with
      | [a], _ =>
        have ha := lawint (ho a (by simp)) (lo := 0) (hi := 1000000000)
        simp [m_f_law_due, tt, ts, truF, nz, cut1, b1', mFn_ap, p9, e9, ha, hd]
    · have l' : ¬ ((ps.length : Int) = 1) := by omega
      simp [m_f_law_due, tt, ts, truF, ln, nz, cut1, b1', l, l']
  · rw [if_neg b1]
    have n1 := eq_false b1
    by_cases b2 : s = t "cell" ∨ s = t "spill"
    · have hm : s ∈ [t "number", t "cell", t "spill", t "range", t "badref"] := by rcases b2 with h | h <;> rw [h] <;> simp
      rw [if_pos b2, leaf_all hm, Bool.and_true]
      have cr := cellr_ap ho
      have i2' : inT (.str s) (.tup [.str (Str.ofString "cell"), .str (Str.ofString "spill")]) st = .ok (.bl true) st := by
        rw [i2]
        rcases b2 with h | h <;> simp [h]
      exact ⟨st, by simp [m_f_law_due, tt, ts, truF, ln, nz, cut1, n1, z2, i2', mFn_ap, cr], Ex.refl⟩
    · rw [if_neg b2]
      obtain ⟨b2a, b2b⟩ := not_or.mp b2
      have i2' : inT (.str s) (.tup [.str (Str.ofString "cell"), .str (Str.ofString "spill")]) st = .ok (.bl false) st := by
        rw [i2]
        simp [b2a, b2b]
      by_cases b4 : s = t "range"
      · rw [if_pos b4, leaf_all (by rw [b4]; simp), Bool.and_true]
        have b4' := eq_true b4
        refine ⟨st, ?_, Ex.refl⟩
        by_cases l : ps.length = 4
        · match ps, l with
          | [a, b, c, d], _ =>
            have c1 := cellr_ap (st := st) (ps := [a, b]) (fun y hy => ho y (by simp only [List.mem_cons, List.not_mem_nil, or_false] at hy ⊢; rcases hy with rfl | rfl <;> simp))
            have c2 := cellr_ap (st := st) (ps := [c, d]) (fun y hy => ho y (by simp only [List.mem_cons, List.not_mem_nil, or_false] at hy ⊢; rcases hy with rfl | rfl <;> simp))
            by_cases ga : cellB [a, b] = true
            · rw [ga] at c1
              by_cases gb : cellB [c, d] = true
              · rw [gb] at c2
                simp only [cellB, List.length_cons, List.length_nil, List.all_cons, List.all_nil, Bool.and_eq_true, Bool.and_true, decide_eq_true_eq] at ga gb
                obtain ⟨_, a1, b1⟩ := ga
                obtain ⟨_, c1', d1⟩ := gb
                obtain ⟨i, rfl, _⟩ := idxs a1
                obtain ⟨j', rfl, _⟩ := idxs b1
                obtain ⟨k, rfl, _⟩ := idxs c1'
                obtain ⟨l4, rfl, _⟩ := idxs d1
                by_cases p1 : i ≤ k <;> by_cases p2 : j' ≤ l4 <;> simp [m_f_law_due, tt, ts, truF, nz, cut1, n1, z2, i2', b4', cut_lo, cut_hi, mFn_ap, c1, c2, areaB, a1, b1, c1', d1, p1, p2]
              · rw [Bool.not_eq_true] at gb
                rw [gb] at c2
                have ab : areaB [a, b, c, d] = false := by
                  simp only [cellB, List.length_cons, List.length_nil, List.all_cons, List.all_nil, Bool.and_true] at gb
                  unfold areaB
                  have : ([a, b, c, d].all isIdx) = false := by
                    simp at gb ⊢
                    intro _ _ hc
                    exact gb hc
                  rw [this]; simp
                simp [m_f_law_due, tt, ts, truF, nz, cut1, n1, z2, i2', b4', cut_lo, cut_hi, mFn_ap, c1, c2, ab]
            · rw [Bool.not_eq_true] at ga
              rw [ga] at c1
              have ab : areaB [a, b, c, d] = false := by
                simp only [cellB, List.length_cons, List.length_nil, List.all_cons, List.all_nil, Bool.and_true] at ga
                unfold areaB
                have : ([a, b, c, d].all isIdx) = false := by
                  simp at ga ⊢
                  intro ha hb
                  exact absurd hb (by rw [ga ha]; simp)
                rw [this]; simp
              simp [m_f_law_due, tt, ts, truF, nz, cut1, n1, z2, i2', b4', cut_lo, cut_hi, mFn_ap, c1, ab]
        · have l' : ¬ ((ps.length : Int) = 4) := by omega
          simp [m_f_law_due, tt, ts, truF, ln, nz, cut1, n1, z2, i2', b4', areaB, l, l']
      · rw [if_neg b4]
        have n4 := eq_false b4
        by_cases b5 : s = t "badref"
        · rw [if_pos b5, leaf_all (by rw [b5]; simp), Bool.and_true]
          have b5' := eq_true b5
          have eq0 : eqT (.tup ps) (.tup []) st = .ok (.bl ps.isEmpty) st := rfl
          have e0 : ps.isEmpty = decide (ps.length = 0) := by cases ps <;> simp
          exact ⟨st, by simp [m_f_law_due, tt, ts, truF, ln, nz, cut1, n1, z2, i2', n4, b5', eq0, e0], Ex.refl⟩
        · rw [if_neg b5]
          have n5 := eq_false b5
          by_cases b6 : s = t "negate"
          · rw [if_pos b6]
            have b6' := eq_true b6
            by_cases l : ps.length = 1
            · match ps, l with
              | [a], _ =>
                obtain ⟨s1, e1, X1⟩ := ih a st (lpW.mem (by simp))
                have hk : kids (.tup [.str s, a]) = [a] := by rw [b6]; exact Wf.neg.kids
                exact ⟨s1, by rw [hk]; simp [m_f_law_due, tt, ts, truF, nz, cut1, n1, z2, i2', n4, n5, b6', mFn_ap, ns, e1], X1⟩
            · have l' : ¬ ((ps.length : Int) = 1) := by omega
              exact ⟨st, by simp [m_f_law_due, tt, ts, truF, ln, nz, cut1, n1, z2, i2', n4, n5, b6', l, l'], Ex.refl⟩
          · rw [if_neg b6]
            have n6 := eq_false b6
            by_cases b7 : s = t "binary"
            · rw [if_pos b7]
              have b7' := eq_true b7
              by_cases l : ps.length = 3
              · match ps, l with
                | [o, a, b], _ =>
                  obtain ⟨t1, e6, i6⟩ := isi_str (ho o (by simp))
                  have hk : kids (.tup [.str s, o, a, b]) = [a, b] := by rw [b7]; exact Wf.bin.kids
                  rw [hk]
                  have hg : isSt o = false → (ops7.any fun b => isStr o b) = false := fun z => by
                    rw [List.any_eq_false]
                    intro b _
                    cases o <;> first | (cases z; done) | simp [isStr]
                  cases o with
                  | str x =>
                    have i7 := in7 (st := st) (s := x)
                    by_cases g : (ops7.any fun b => isStr (.str x) b) = true
                    · rw [g] at i7
                      obtain ⟨s1, e1, X1⟩ := ih a st (lpW.mem (by simp))
                      by_cases ga : isX n a = true
                      · rw [ga] at e1
                        obtain ⟨s2, e2, X2⟩ := ih b s1 ((lpW.mem (by simp)).ex X1)
                        exact ⟨s2, by simp [-List.any_eq_true, m_f_law_due, tt, ts, tyC, truF, nz, cut1, n1, z2, z7, i2', n4, n5, n6, b7', i7, mFn_ap, ns, e1, e2, hd, g, ga], X1.trans X2⟩
                      · rw [Bool.not_eq_true] at ga
                        rw [ga] at e1
                        exact ⟨s1, by simp [-List.any_eq_true, m_f_law_due, tt, ts, tyC, truF, nz, cut1, n1, z2, z7, i2', n4, n5, n6, b7', i7, mFn_ap, ns, e1, hd, g, ga], X1⟩
                    · rw [Bool.not_eq_true] at g
                      rw [g] at i7
                      exact ⟨st, by simp [-List.any_eq_true, m_f_law_due, tt, ts, tyC, truF, nz, cut1, n1, z2, z7, i2', n4, n5, n6, b7', i7, hd, g], Ex.refl⟩
                  | _ =>
                    have g := hg rfl
                    refine ⟨st, ?_, Ex.refl⟩
                    simp [-List.any_eq_true, -List.any_eq_false, m_f_law_due, tt, ts, e6, i6, isSt, truF, nz, cut1, n1, z2, i2', n4, n5, n6, b7', hd, g]
              · have l' : ¬ ((ps.length : Int) = 3) := by omega
                exact ⟨st, by simp [m_f_law_due, tt, ts, truF, ln, nz, cut1, n1, z2, i2', n4, n5, n6, b7', l, l'], Ex.refl⟩
            · rw [if_neg b7]
              have n7 := eq_false b7
              by_cases b8 : s = t "call"
              · have b8' := eq_true b8
                have ih2' : ∀ y st, V m st j K W y → ∃ st', g_f_law_due f [y, .int (((n + 1 : Nat) : Int) - 1)] st = .ok (.bl (isX n y)) st' ∧ Ex st st' := fun y st h => by
                  rw [show ((n + 1 : Nat) : Int) - 1 = n by omega]
                  exact ih2 y st h
                obtain ⟨s1, e1, X1⟩ := call_ap ih2' lpW hW
                refine ⟨s1, ?_, X1⟩
                have ek : ((decide (ps.length = 2) && two tkB ps) && two (allT (isX n)) ps) = ((decide (ps.length = 2) && two tkB ps) && (kids (.tup (.str s :: ps))).all (isX n)) := by
                  cases hh : (decide (ps.length = 2) && two tkB ps) with
                  | false => rfl
                  | true =>
                    rw [Bool.and_eq_true] at hh
                    have l := of_decide_eq_true hh.1
                    match ps, l, hh with
                    | [a, b], _, hh =>
                      have g : tkB a b = true := hh.2
                      unfold tkB at g
                      split at g
                      · rw [b8, Wf.call.kids]; rfl
                      · cases g
                rw [ek] at e1
                simp [m_f_law_due, tt, ts, truF, ln, nz, cut1, n1, z2, i2', n4, n5, n6, n7, b8', mFn_ap]
                rw [show ((n : Int) + 1) = ((n + 1 : Nat) : Int) by omega, e1]
                rfl
              · have n8 := eq_false b8
                exact ⟨st, by simp [m_f_law_due, tt, ts, truF, ln, nz, cut1, n1, z2, i2', n4, n5, n6, n7, n8], Ex.refl⟩
theorem isX_other {n : Nat} {x : PV} (h : ∀ s ps, x ≠ .tup (.str s :: ps)) : isX n x = false := by
  cases n with
  | zero => rfl
  | succ n =>
    have : wfB x = false := by
      cases hw : wfB x with
      | false => rfl
      | true =>
        obtain ⟨ks, w⟩ := wf_form hw
        cases w <;> exact absurd rfl (h _ _)
    unfold isX
    rw [this]
    rfl
theorem due_ap (hW : W ≤ 900000) : ∀ (n f : Nat) (x : PV) (st : Store), 2 * n + 1 ≤ f → V m st j K W x → ∃ st', g_f_law_due f [x, .int n] st = .ok (.bl (isX n x)) st' ∧ Ex st st'
  | 0, 0, _, _, h, _ => absurd h (by omega)
  | 0, f + 1, x, st, _, hx => ⟨st, due_stop hx (.inr rfl), Ex.refl⟩
  | n + 1, 0, _, _, h, _ => absurd h (by omega)
  | n + 1, 1, _, _, h, _ => absurd h (by omega)
  | n + 1, f + 2, x, st, h, hx => by
    by_cases c : ∃ s ps, x = .tup (.str s :: ps)
    · obtain ⟨s, ps, rfl⟩ := c
      exact due_step (fun y st hy => due_ap hW n (f + 1) y st (by omega) hy) (fun y st hy => due_ap hW n f y st (by omega) hy) hx hW
    · have c' : ∀ s ps, x ≠ .tup (.str s :: ps) := fun s ps e => c ⟨s, ps, e⟩
      rw [isX_other c']
      exact ⟨st, due_stop hx (.inl c'), Ex.refl⟩
/-! ### one value -/
theorem right_ap {x : PV} (h : V m st j K W x) (hj : j ≤ 4) (hk : K ≤ 60) (hW : W ≤ 900000) : ∃ st', g_f_law_right [x] st = .ok (.bl true) st' ∧ Ex st st' := by
  obtain ⟨u, hu⟩ := h.shown hj hk (by omega)
  have e0 := hu st (fun _ _ _ e => e)
  obtain ⟨s1, e1, X1⟩ := expr_ap h hW
  obtain ⟨s2, e2, X2⟩ := due_ap hW 12 26 x s1 (by decide) (h.ex X1)
  have e3 := hu s2 (.ex (X1.trans X2))
  refine ⟨s2, ?_, X1.trans X2⟩
  have e2' : g_f_law_due 26 [x, .int 12] s1 = .ok (.bl (isX 12 x)) s2 := e2
  generalize isX 12 x = b at e1 e2'
  simp [g_f_law_right, gOf, m_f_law_right, startS, e0, mFn_ap, e1, tyC, e2', e3]
end
end K05

namespace K05
open PySem Sm Lw
theorem cut_take {xs : List PV} {i : Nat} (h : i ≤ xs.length) : cutP xs none (some (i : Int)) = xs.take i := by
  unfold cutP
  have e1 : HT.sIx xs.length 0 none = 0 := rfl
  have e2 : HT.sIx xs.length xs.length (some (i : Int)) = i := by
    unfold HT.sIx
    dsimp only
    rw [if_neg (by omega), Int.toNat_natCast]
    exact Nat.min_eq_left h
  rw [e1, e2]
  simp
theorem cut_drop {xs : List PV} {i : Nat} (h : i ≤ xs.length) : cutP xs (some (i : Int)) none = xs.drop i := by
  unfold cutP
  have e1 : HT.sIx xs.length xs.length none = xs.length := rfl
  have e2 : HT.sIx xs.length 0 (some (i : Int)) = i := by
    unfold HT.sIx
    dsimp only
    rw [if_neg (by omega), Int.toNat_natCast]
    exact Nat.min_eq_left h
  rw [e1, e2, List.take_of_length_le (by rw [List.length_drop]; exact Nat.le_refl _)]
section
variable {m : Nat} {st : Store}
theorem V.str' {j K : Nat} {s : Str} (h : PyData.strOk s = true) (hl : s.cps.size ≤ 12) : V m st j K 12 (.str s) := V.ofFine (Lx.fine_str h hl)
theorem V.int' {j K : Nat} {i : Int} (h : (PyData.int i).showable = true) (hl : (PyData.int i).leavesShort 13 = true) (hw : (PyData.int i).weight ≤ 40) : V m st j K 40 (.int i) := ⟨_, .int i, h, hl, Nat.zero_le _, hw⟩
theorem choose_tup {n : Nat} {xs : List PV} (h : Stm st n) (h0 : xs ≠ []) (h1 : xs.length < 1000000) : ∃ x st', Lw.g_f_law_choose [.ref n, .tup xs] st = .ok x st' ∧ x ∈ xs ∧ Gx n st st' := by
  have hp : 0 < xs.length := List.length_pos_iff.mpr h0
  obtain ⟨v, st', e, v0, v1, G, le⟩ := draw h (z := (xs.length : Nat)) (by omega) (by omega)
  obtain ⟨k, rfl⟩ : ∃ k : Nat, v = (k : Int) := ⟨v.toNat, by omega⟩
  have hk : k < xs.length := by omega
  refine ⟨xs[k], st', ?_, List.getElem_mem hk, G⟩
  have ea : L2.atI xs (k : Int) = some xs[k] := by rw [atI_cast]; exact List.getElem?_eq_getElem hk
  simp [Lw.g_f_law_choose, gOf, Lw.m_f_law_choose, startS, mFn_ap, e, ea]
theorem other_ap (S : Stm st m) : ∃ x st', g_f_law_other [.ref m] st = .ok x st' ∧ V m st' 1 3 60 x ∧ Gx m st st' := by
  have p9 : powOk 10 9 = true := by decide +kernel
  obtain ⟨A, hA⟩ : ∃ A, [PV.non, .bl true, .bl false, .int 0, .int 1, .int 11, .int 12, .int (-1), .int 1000000000, .int 1000000001, .str (t ""), .str (t "number"), .str (t "cell"), .str (t "spill"), .str (t "range"), .str (t "badref")] = A := ⟨_, rfl⟩
  obtain ⟨B, hB⟩ : ∃ B, [PV.str (t "negate"), .str (t "binary"), .str (t "call"), .str (t "SUM"), .str (t "sum"), .str (t "SEQ"), .str (t "IF"), .str (t "INDEX"), .str (t "TAKE"), .str (t "+"), .str (t "<="), .str (t ">"), .str (t "=="), .str (t "mod")] = B := ⟨_, rfl⟩
  have z16 : (16 : Nat) ≤ sizeLine := by decide
  have z14 : (14 : Nat) ≤ sizeLine := by decide
  have z9 : (9 : Nat) ≤ sizeLine := by decide
  have z1 : (1 : Nat) ≤ sizeLine := by decide
  have z2 : (2 : Nat) ≤ sizeLine := by decide
  have z3 : (3 : Nat) ≤ sizeLine := by decide
  have zA : A.length ≤ sizeLine := by rw [← hA]; exact z16
  have zB : B.length ≤ sizeLine := by rw [← hB]; exact z14
  obtain ⟨s1, h1⟩ : ∃ s1, st ++ [Cell.lst A] = s1 := ⟨_, rfl⟩
  obtain ⟨s2, h2⟩ : ∃ s2, s1 ++ [Cell.lst B] = s2 := ⟨_, rfl⟩
  have X1 : Ex st s1 := h1 ▸ Ex.push
  have X2 : Ex s1 s2 := h2 ▸ Ex.push
  have gA : getM s2 st.length = some A := getM_lst (X2.get (h1 ▸ get_end))
  have gB : getM s2 s1.length = some B := getM_lst (h2 ▸ get_end)
  obtain ⟨s3, h3⟩ : ∃ s3, s2 ++ [Cell.lst (A ++ B)] = s3 := ⟨_, rfl⟩
  have X3 : Ex s2 s3 := h3 ▸ Ex.push
  have eAB : newL (A ++ B) s2 = .ok (.ref s2.length) s3 := by rw [newL, if_pos (size_small (by rw [← hA, ← hB]; exact (show (30 : Nat) ≤ 1000000 by decide))), h3]
  obtain ⟨s4, h4⟩ : ∃ s4, s3 ++ [Cell.lst []] = s4 := ⟨_, rfl⟩
  obtain ⟨s5, h5⟩ : ∃ s5, s4 ++ [Cell.dk []] = s5 := ⟨_, rfl⟩
  obtain ⟨s6, h6⟩ : ∃ s6, s5 ++ [Cell.lst [.int 1]] = s6 := ⟨_, rfl⟩
  have X4 : Ex s3 s4 := h4 ▸ Ex.push
  have X5 : Ex s4 s5 := h5 ▸ Ex.push
  have X6 : Ex s5 s6 := h6 ▸ Ex.push
  obtain ⟨C, hC⟩ : ∃ C, [PV.tup [], .ref s3.length, .ref s4.length, .tup [.str (t "number"), .int 1], .tup [.str (t "cell"), .int 0, .int 0], .tup [.str (t "badref")], .tup [.tup [.str (t "number"), .int 2], .tup [.str (t "number"), .int 3]], .ref s5.length, .tup [.int 1]] = C := ⟨_, rfl⟩
  have zC : C.length ≤ sizeLine := by rw [← hC]; exact z9
  obtain ⟨s7, h7⟩ : ∃ s7, s6 ++ [Cell.lst C] = s7 := ⟨_, rfl⟩
  have X7 : Ex s6 s7 := h7 ▸ Ex.push
  have X37 : Ex s3 s7 := X4.trans (X5.trans (X6.trans X7))
  have gAB : getM s7 s2.length = some (A ++ B) := getM_lst (X37.get (h3 ▸ get_end))
  have gC : getM s7 s6.length = some C := getM_lst (h7 ▸ get_end)
  obtain ⟨s8, h8⟩ : ∃ s8, s7 ++ [Cell.lst (A ++ B ++ C)] = s8 := ⟨_, rfl⟩
  have X8 : Ex s7 s8 := h8 ▸ Ex.push
  have eABC : newL (A ++ B ++ C) s7 = .ok (.ref s7.length) s8 := by rw [newL, if_pos (size_small (by rw [← hA, ← hB, ← hC]; exact (show (39 : Nat) ≤ 1000000 by decide))), h8]
  have X18 : Ex st s8 := X1.trans (X2.trans (X3.trans (X37.trans X8)))
  have G8 : Gx m st s8 := X18.gx S
  have lt : m < st.length := S.lt
  have k8 : getL s8 s7.length = some (A ++ B ++ C) := getL_lst (h8 ▸ get_end)
  have le7 : st.length ≤ s7.length := (X1.trans (X2.trans (X3.trans X37))).le
  obtain ⟨y, s9, e9, hy, G9, _⟩ := choose G8.stm k8 (by omega) (by rw [← hA]; simp) (by rw [← hA, ← hB, ← hC]; exact (show (39 : Nat) < 1000000 by decide))
  have le3 : st.length ≤ s3.length := (X1.trans (X2.trans X3)).le
  have le4 : st.length ≤ s4.length := Nat.le_trans le3 X4.le
  have le5 : st.length ≤ s5.length := Nat.le_trans le4 X5.le
  have c4 : s9[s3.length]? = some (.lst []) := G9.get (by omega) (X8.get (X7.get (X6.get (X5.get (h4 ▸ get_end)))))
  have c5 : s9[s4.length]? = some (.dk []) := G9.get (by omega) (X8.get (X7.get (X6.get (h5 ▸ get_end))))
  have c6 : s9[s5.length]? = some (.lst [.int 1]) := G9.get (by omega) (X8.get (X7.get (h6 ▸ get_end)))
  refine ⟨y, s9, ?_, ?_, G8.trans G9⟩
  · have hs : startS N_f_law_other [.ref m] = [some (.ref m), none] := rfl
    show gOf N_f_law_other m_f_law_other [.ref m] st = _
    unfold gOf
    rw [hs]
    have hA' := hA
    have hB' := hB
    have hC' := hC
    obtain ⟨σ5, hσ⟩ : ∃ σ5 : Slots, [some (.ref m), some (.ref s2.length)] = σ5 := ⟨_, rfl⟩
    have v1 : σ5[1]? = some (some (.ref s2.length)) := by rw [← hσ]; rfl
    have i4 : mLst mNil σ5 s3 = .ok (.ref s3.length) s4 := by simp [h4]
    have i5 : mDnew σ5 s4 = .ok (.ref s4.length) s5 := by simp [h5]
    have i6 : mLst (mCons (mC (.int 1)) mNil) σ5 s5 = .ok (.ref s5.length) s6 := by simp [h6, z1]
    have o : ∀ r : MA, mLst (mCons (mTup mNil) r) σ5 s3 = ((mCons (mTup mNil) r) σ5 s3).bind fun xs s1 => if xs.length ≤ sizeLine then .ok (.ref s1.length) (s1 ++ [.lst xs]) else .no := fun r => rfl
    have t1 : ∀ r, mSeq (mAsg (mLst (mCons (mC .non) (mCons (mC (.bl true)) (mCons (mC (.bl false)) (mCons (mC (.int 0)) (mCons (mC (.int 1)) (mCons (mC (.int 11)) (mCons (mC (.int 12)) (mCons (mUn negF (mC (.int 1))) (mCons (mOp powF (mC (.int 10)) (mC (.int 9))) (mCons (mOp addF (mOp powF (mC (.int 10)) (mC (.int 9))) (mC (.int 1))) (mCons (mC (.str (Str.ofString ""))) (mCons (mC (.str (Str.ofString "number"))) (mCons (mC (.str (Str.ofString "cell"))) (mCons (mC (.str (Str.ofString "spill"))) (mCons (mC (.str (Str.ofString "range"))) (mCons (mC (.str (Str.ofString "badref"))) mNil))))))))))))))))) (gNm 1)) r [some (.ref m), none] st = r [some (.ref m), some (.ref st.length)] s1 := fun r => by
      simp [p9] at hA' ⊢
      simp [hA', zA, z16, h1]
    have t2 : ∀ r, mSeq (mAsg (mOp addF (mVar 1) (mLst (mCons (mC (.str (Str.ofString "negate"))) (mCons (mC (.str (Str.ofString "binary"))) (mCons (mC (.str (Str.ofString "call"))) (mCons (mC (.str (Str.ofString "SUM"))) (mCons (mC (.str (Str.ofString "sum"))) (mCons (mC (.str (Str.ofString "SEQ"))) (mCons (mC (.str (Str.ofString "IF"))) (mCons (mC (.str (Str.ofString "INDEX"))) (mCons (mC (.str (Str.ofString "TAKE"))) (mCons (mC (.str (Str.ofString "+"))) (mCons (mC (.str (Str.ofString "<="))) (mCons (mC (.str (Str.ofString ">"))) (mCons (mC (.str (Str.ofString "=="))) (mCons (mC (.str (Str.ofString "mod"))) mNil)))))))))))))))) (gNm 1)) r [some (.ref m), some (.ref st.length)] s1 = r σ5 s3 := fun r => by
      simp [hB', zB, h2, gA, gB, eAB, hσ]
    unfold m_f_law_other
    rw [t1, t2]
    simp [-List.append_assoc, -mLst_ap, -mDnew_ap, v1, o, i4, i5, i6, z1, z2, z3, hC', zC, h7, gAB, gC, eABC]
    rw [← hσ]
    simp [mFn_ap, e9]
  · rw [List.mem_append, List.mem_append] at hy
    have st' : ∀ s : Str, PyData.strOk s = true → s.cps.size ≤ 12 → V m s9 1 3 60 (.str s) := fun s h l => (V.str' (j := 1) (K := 3) h l).more (Nat.le_refl _) (Nat.le_refl _) (by decide)
    have it' : ∀ i : Int, (PyData.int i).showable = true → (PyData.int i).leavesShort 13 = true → (PyData.int i).weight ≤ 40 → V m s9 1 3 60 (.int i) := fun i a b c => (V.int' (j := 1) (K := 3) a b c).more (Nat.le_refl _) (Nat.le_refl _) (by decide)
    have fi : ∀ {k : Nat} {i : Int}, 0 ≤ i → i < 16 → V m s9 1 k 4 (.int i) := fun a b => V.ofFine (Lx.fine_int a b)
    rcases hy with (hy | hy) | hy
    · rw [← hA] at hy
      simp only [List.mem_cons, List.not_mem_nil, or_false] at hy
      rcases hy with rfl | rfl | rfl | rfl | rfl | rfl | rfl | rfl | rfl | rfl | rfl | rfl | rfl | rfl | rfl | rfl
      · exact .non
      · exact .bl
      · exact .bl
      all_goals first | exact it' _ (by decide +kernel) (by decide +kernel) (by decide +kernel) | exact st' _ (by decide +kernel) (by decide +kernel)
    · rw [← hB] at hy
      simp only [List.mem_cons, List.not_mem_nil, or_false] at hy
      rcases hy with rfl | rfl | rfl | rfl | rfl | rfl | rfl | rfl | rfl | rfl | rfl | rfl | rfl | rfl <;> exact st' _ (by decide +kernel) (by decide +kernel)
    · rw [← hC] at hy
      simp only [List.mem_cons, List.not_mem_nil, or_false] at hy
      have num : ∀ {k : Nat} (i : Int), 0 ≤ i → i < 16 → V m s9 1 (k + 1) 20 (.tup [.str (t "number"), .int i]) := fun i a b => (V.tup (.cons (V.str' (by decide +kernel) (by decide +kernel)) (.cons (fi a b) .nil (v := 0)))).more (Nat.le_refl _) (Nat.le_refl _) (by decide)
      rcases hy with rfl | rfl | rfl | rfl | rfl | rfl | rfl | rfl | rfl
      · exact (V.tup (K := 0) (.nil (W := 0))).more (Nat.le_refl _) (by decide) (by decide)
      · exact (V.lst (j := 0) (K := 0) (W := 0) (by omega) c4 .nil).more (Nat.le_refl _) (by decide) (by decide)
      · exact (V.dk (j := 0) (K := 0) (W := 0) (by omega) c5).more (Nat.le_refl _) (by decide) (by decide)
      · exact (num (k := 0) 1 (by decide) (by decide)).more (Nat.le_refl _) (by decide) (by decide)
      · exact (V.tup (K := 0) (.cons (V.str' (by decide +kernel) (by decide +kernel)) (.cons (fi (by decide) (by decide)) (.cons (fi (by decide) (by decide)) .nil (v := 0))))).more (Nat.le_refl _) (by decide) (by decide)
      · exact (V.tup (K := 0) (.cons (V.str' (by decide +kernel) (by decide +kernel)) .nil (v := 0))).more (Nat.le_refl _) (by decide) (by decide)
      · exact (V.tup (K := 1) (.cons (num 2 (by decide) (by decide)) (.cons (num 3 (by decide) (by decide)) .nil (v := 0)))).more (Nat.le_refl _) (by decide) (by decide)
      · exact (V.lst (j := 0) (K := 0) (W := 5) (by omega) c6 (.cons (V.ofFine (Lx.fine_int (by decide) (by decide))) .nil (v := 0))).more (Nat.le_refl _) (by decide) (by decide)
      · exact (V.tup (K := 0) (.cons (fi (by decide) (by decide)) .nil (v := 0))).more (Nat.le_refl _) (by decide) (by decide)
theorem bent_ap : ∀ (n K j W : Nat) (x : PV) (st : Store), K < n → W ≤ 400000 → V m st j K W x → Stm st m → ∃ y st', g_f_law_bent n [.ref m, x] st = .ok y st' ∧ V m st' (j + 1) (K + 3) (2 * W + 100) y ∧ Gx m st st'
  | 0, K, j, W, x, st, h, _, _, _ => absurd h (by omega)
  | n + 1, K, j, W, x, st, hn, hW, hx, S => by
    have other : ∀ s, Gx m st s → ∃ y st', g_f_law_other [.ref m] s = .ok y st' ∧ V m st' (j + 1) (K + 3) (2 * W + 100) y ∧ Gx m st st' := fun s G => by
      obtain ⟨y, s1, e1, v1, G1⟩ := other_ap G.stm
      exact ⟨y, s1, e1, v1.more (by omega) (by omega) (by omega), G.trans G1⟩
    have hs : startS N_f_law_bent [.ref m, x] = [some (.ref m), some x, none, none] := rfl
    show ∃ y st', gOf N_f_law_bent (m_f_law_bent (g_f_law_bent n)) [.ref m, x] st = _ ∧ _
    unfold gOf
    rw [hs]
    cases x with
    | tup xs =>
      cases xs with
      | nil =>
        obtain ⟨y, s1, e1, v1, G1⟩ := other st (.refl S)
        have q : eqT (.tup []) (.tup []) st = .ok (.bl true) st := rfl
        exact ⟨y, s1, by simp [m_f_law_bent, tyC, truF, q, mFn_ap, e1], v1, G1⟩
      | cons a r =>
        obtain ⟨xs, hxs⟩ : ∃ xs, a :: r = xs := ⟨_, rfl⟩
        rw [hxs] at hx ⊢
        have ne : xs ≠ [] := by rw [← hxs]; simp
        have q : ∀ s, eqT (.tup xs) (.tup []) s = .ok (.bl false) s := fun s => by rw [← hxs]; rfl
        obtain ⟨k, rfl, l⟩ := hx.untup
        have lx := l.len
        have lp : 0 < xs.length := List.length_pos_iff.mpr ne
        obtain ⟨v, s1, e1, v0, v1, G1, _⟩ := draw S (z := 8) (by decide) (by decide)
        by_cases hv : v = 0
        · subst hv
          obtain ⟨y, s2, e2, v2, G2⟩ := other s1 G1
          exact ⟨y, s2, by simp [m_f_law_bent, tyC, truF, q, mFn_ap, e1, e2], v2, G2⟩
        · obtain ⟨i', s2, e2, i0, i1, G2, _⟩ := draw G1.stm (z := (xs.length : Nat)) (by omega) (by omega)
          obtain ⟨i, rfl⟩ : ∃ i : Nat, i' = (i : Int) := ⟨i'.toNat, by omega⟩
          have hi : i < xs.length := by omega
          obtain ⟨w, s3, e3, w0, w1, G3, _⟩ := draw G2.stm (z := 11) (by decide) (by decide)
          have G13 := (G1.trans G2).trans G3
          have l3 := l.gx G13
          have c1 := cut_take (xs := xs) (i := i) (by omega)
          have c2 := cut_drop (xs := xs) (i := i) (by omega)
          have c3 : cutP xs none (some ((i : Int) + 1)) = xs.take (i + 1) := cut_take (xs := xs) (i := i + 1) (by omega)
          have c4 : cutP xs (some ((i : Int) + 1)) none = xs.drop (i + 1) := cut_drop (xs := xs) (i := i + 1) (by omega)
          have big : ∀ {n : Nat}, n ≤ 1000000 → n ≤ sizeLine := fun h => size_small h
          have lt1 : (xs.take i).length = i := by rw [List.length_take]; omega
          have lt2 : (xs.take (i + 1)).length = i + 1 := by rw [List.length_take]; omega
          have ld1 : (xs.drop i).length = xs.length - i := List.length_drop
          have ld2 : (xs.drop (i + 1)).length = xs.length - (i + 1) := List.length_drop
          have ea : L2.atI xs (i : Int) = some xs[i] := by rw [atI_cast]; exact List.getElem?_eq_getElem hi
          have base : ∀ (rest : MS), rest [some (.ref m), some (.tup xs), some (.int i), some (.int w)] s3 = rest [some (.ref m), some (.tup xs), some (.int i), some (.int w)] s3 := fun _ => rfl
          obtain ⟨A, ww, B, g1, g2, g3, lw⟩ := l3.at (List.getElem?_eq_getElem hi)
          have zz1 : i + (xs.length - (i + 1)) ≤ sizeLine := big (by omega)
          have zz2 : i + 1 + (xs.length - i) ≤ sizeLine := big (by omega)
          have zz3 : i + 1 ≤ sizeLine := big (by omega)
          have zz4 : i + 1 + (xs.length - (i + 1)) ≤ sizeLine := big (by omega)
          have zz5 : (1 : Nat) ≤ sizeLine := by decide
          have lt1' : min i xs.length = i := by omega
          have lt2' : min (i + 1) xs.length = i + 1 := by omega
          by_cases w0' : w = 0
          · subst w0'
            refine ⟨.tup (xs.take i ++ xs.drop (i + 1)), s3, ?_, (V.tup (g1.append g3)).more (by omega) (by omega) (by omega), G13⟩
            simp [m_f_law_bent, tyC, truF, q, mFn_ap, e1, hv, e2, e3, c1, c4, lt1', zz1]
          · by_cases w1' : w = 1
            · subst w1'
              obtain ⟨a1, b1, h1, _, q1⟩ := l3.cut (i + 1)
              obtain ⟨a2, b2, _, h2, q2⟩ := l3.cut i
              refine ⟨.tup (xs.take (i + 1) ++ xs.drop i), s3, ?_, (V.tup (h1.append h2)).more (by omega) (by omega) (by omega), G13⟩
              simp [m_f_law_bent, tyC, truF, q, mFn_ap, e1, hv, e2, e3, c2, c3, lt2', zz2]
            · by_cases w2' : w = 2
              · subst w2'
                obtain ⟨y, s4, e4, v4, G4⟩ := other_ap G3.stm
                obtain ⟨a2, b2, h1, h2, q2⟩ := l3.cut i
                refine ⟨.tup (xs.take i ++ [y] ++ xs.drop i), s4, ?_, ?_, G13.trans G4⟩
                · simp [m_f_law_bent, tyC, truF, q, mFn_ap, e1, hv, e2, e3, c1, c2, e4, lt1', zz3, zz5, zz2]
                · have t1 := ((h1.gx G4).more (Nat.le_succ j) (by omega : k ≤ k + 3) (Nat.le_refl _)).append ((Ls.cons (v4.more (by omega : 1 ≤ j + 1) (by omega : 3 ≤ k + 3) (Nat.le_refl _)) .nil (v := 0)).append ((h2.gx G4).more (Nat.le_succ j) (by omega : k ≤ k + 3) (Nat.le_refl _)))
                  rw [← List.append_assoc] at t1
                  exact (V.tup t1).more (Nat.le_refl _) (by omega) (by omega)
              · by_cases w3' : w = 3
                · subst w3'
                  obtain ⟨y, s4, e4, hy, G4⟩ := choose_tup G3.stm ne (by omega)
                  have v4 := (l3.mem hy).gx G4
                  refine ⟨.tup (xs.take i ++ [y] ++ xs.drop (i + 1)), s4, ?_, ?_, G13.trans G4⟩
                  · simp [m_f_law_bent, tyC, truF, q, mFn_ap, e1, hv, e2, e3, c1, c4, e4, lt1', zz3, zz5, zz4]
                  · have t1 := (g1.gx G4).append ((Ls.cons v4 .nil (v := 0)).append (g3.gx G4))
                    rw [← List.append_assoc] at t1
                    exact (V.tup t1).more (by omega) (by omega) (by omega)
                · by_cases w4' : w = 4
                  · subst w4'
                    have zl : xs.length ≤ sizeLine := big (by omega)
                    have hm : s3.length ≠ m := Nat.ne_of_gt G3.stm.lt
                    have X4 : Ex s3 (s3 ++ [.lst xs]) := Ex.push
                    refine ⟨.ref s3.length, s3 ++ [.lst xs], ?_, (V.lst hm get_end (l3.ex X4)).more (Nat.le_refl _) (by omega) (by omega), G13.ex X4⟩
                    simp [m_f_law_bent, tyC, truF, q, mFn_ap, e1, hv, e2, e3, listF, newL, zl]
                  · obtain ⟨y, s4, e4, v4, G4⟩ := bent_ap n k j ww xs[i] s3 (by omega) (by omega) g2 G3.stm
                    refine ⟨.tup (xs.take i ++ [y] ++ xs.drop (i + 1)), s4, ?_, ?_, G13.trans G4⟩
                    · simp [m_f_law_bent, tyC, truF, q, mFn_ap, e1, hv, e2, e3, c1, c4, w0', w1', w2', w3', w4', ea, e4, lt1', zz3, zz5, zz4]
                    · have t1 := ((g1.gx G4).more (Nat.le_succ j) (by omega : k ≤ k + 3) (Nat.le_refl _)).append ((Ls.cons v4 .nil (v := 0)).append ((g3.gx G4).more (Nat.le_succ j) (by omega : k ≤ k + 3) (Nat.le_refl _)))
                      rw [← List.append_assoc] at t1
                      exact (V.tup t1).more (Nat.le_refl _) (by omega) (by omega)
    | _ =>
      obtain ⟨y, s1, e1, v1, G1⟩ := other st (.refl S)
      obtain ⟨t1, e6, i6⟩ := isi_tup hx.ov
      exact ⟨y, s1, by simp [m_f_law_bent, e6, i6, isTp, truF, mFn_ap, e1], v1, G1⟩
end
end K05

namespace K05
open PySem Sm Lw
/-- all is as it was, but for the stream m and the list p -/
structure Hx (m p : Nat) (st st' : Store) : Prop where
  le : st.length ≤ st'.length
  old : ∀ i, i < st.length → i ≠ m → i ≠ p → st'[i]? = st[i]?
  stm : Stm st' m
theorem Hx.refl {m p : Nat} {st : Store} (S : Stm st m) : Hx m p st st := ⟨Nat.le_refl _, fun _ _ _ _ => rfl, S⟩
theorem Hx.trans {m p : Nat} {a b c : Store} (h : Hx m p a b) (g : Hx m p b c) : Hx m p a c := ⟨Nat.le_trans h.le g.le, fun i hi h1 h2 => (g.old i (Nat.lt_of_lt_of_le hi h.le) h1 h2).trans (h.old i hi h1 h2), g.stm⟩
theorem Gx.hx {m p : Nat} {a b : Store} (h : Gx m a b) : Hx m p a b := ⟨h.le, fun i hi h1 _ => h.old i hi h1, h.stm⟩
theorem Hx.get {m p i : Nat} {a b : Store} {c : Cell} (h : Hx m p a b) (h1 : i ≠ m) (h2 : i ≠ p) (e : a[i]? = some c) : b[i]? = some c := by rw [h.old i (lt_of_some e) h1 h2]; exact e
theorem Hx.put {m p : Nat} {a : Store} {c : Cell} (S : Stm a m) (hpm : p ≠ m) : Hx m p a (a.set p c) := by
  obtain ⟨x, y, e, r⟩ := S
  exact ⟨by rw [List.length_set]; exact Nat.le_refl _, fun i hi h1 h2 => by rw [List.getElem?_set_ne (Ne.symm h2)], ⟨x, y, by rw [List.getElem?_set_ne hpm]; exact e, r⟩⟩
section
variable {m : Nat} {st : Store}
/-- what has no reference in it stands in every store -/
theorem V.free {m' : Nat} {st' : Store} {x : PV} {K W : Nat} (h : V m st 0 K W x) : V m' st' 0 K W x := by
  obtain ⟨d, hd, r⟩ := h
  refine ⟨d, ?_, r⟩
  have key : ∀ x, ∀ d, Dv m st 0 x d → Dv m' st' 0 x d := by
    intro x
    refine PV.rec (motive_1 := fun x => ∀ d, Dv m st 0 x d → Dv m' st' 0 x d) (motive_2 := fun xs => ∀ ds, Dvs m st 0 xs ds → Dvs m' st' 0 xs ds) ?_ ?_ ?_ ?_ ?_ ?_ ?_ ?_ x
    · intro d h; cases h; exact .non
    · intro b d h; cases h; exact .bl b
    · intro i d h; cases h; exact .int i
    · intro s d h; cases h; exact .str s
    · intro xs ih d h
      cases h with
      | tup a => exact .tup (ih _ a)
    · intro n d h; cases h
    · intro ds h; cases h; exact .nil
    · intro x xs i1 i2 ds h
      cases h with
      | cons a b => exact .cons (i1 _ a) (i2 _ b)
  exact key x d hd
/-- a wrapping -/
theorem wrap_ap {p : Nat} {c u : Int} {x0 x1 : PV} {K W : Nat} {o5 o6 o7 o8 : Option PV} (S : Stm st m) (hpm : p ≠ m) (hp : st[p]? = some (.lst [x0, x1])) (h1 : V m st 0 K W x1) :
    ∃ y a b st', L1_f_law [some (.ref 0), some (.int c), some (.ref m), some (.ref p), some (.int u), o5, o6, o7, o8] st = .nx [some (.ref 0), some (.int c), some (.ref m), some (.ref p), some (.int u), a, b, o7, o8] st' ∧ st'[p]? = some (.lst [x0, y]) ∧ V m st' 0 (K + 3) (W + 100) y ∧ Hx m p st st' := by
  have z1 : (1 : Nat) ≤ sizeLine := by decide
  have z2 : (2 : Nat) ≤ sizeLine := by decide
  have z3 : (3 : Nat) ≤ sizeLine := by decide
  have z4 : (4 : Nat) ≤ sizeLine := by decide
  obtain ⟨A, hA⟩ : ∃ A, [PV.tup [.str (t "negate"), x1], .tup [.str (t "call"), .str (t "SUM"), .tup [x1]], .tup [.str (t "binary"), .str (t "+"), .tup [.str (t "number"), .int 1], x1]] = A := ⟨_, rfl⟩
  obtain ⟨B, hB⟩ : ∃ B, [PV.tup [.str (t "call"), .str (t "TAKE"), .tup [.tup [.str (t "number"), .int 1], x1]], .tup [.str (t "call"), .str (t "IF"), .tup [.tup [.str (t "number"), .int 1], .tup [.str (t "number"), .int 1], x1]]] = B := ⟨_, rfl⟩
  have zA : A.length ≤ sizeLine := by rw [← hA]; exact z3
  have zB : B.length ≤ sizeLine := by rw [← hB]; exact z2
  obtain ⟨s1, h1'⟩ : ∃ s1, st ++ [Cell.lst A] = s1 := ⟨_, rfl⟩
  obtain ⟨s2, h2⟩ : ∃ s2, s1 ++ [Cell.lst B] = s2 := ⟨_, rfl⟩
  have X1 : Ex st s1 := h1' ▸ Ex.push
  have X2 : Ex s1 s2 := h2 ▸ Ex.push
  have gp0 : getL st p = some [x0, x1] := getL_lst hp
  have gp1 : getL s1 p = some [x0, x1] := getL_lst (X1.get hp)
  have gA : getM s2 st.length = some A := getM_lst (X2.get (h1' ▸ get_end))
  have gB : getM s2 s1.length = some B := getM_lst (h2 ▸ get_end)
  obtain ⟨s3, h3⟩ : ∃ s3, s2 ++ [Cell.lst (A ++ B)] = s3 := ⟨_, rfl⟩
  have X3 : Ex s2 s3 := h3 ▸ Ex.push
  have eAB : newL (A ++ B) s2 = .ok (.ref s2.length) s3 := by rw [newL, if_pos (size_small (by rw [← hA, ← hB]; exact (show (5 : Nat) ≤ 1000000 by decide))), h3]
  have X13 : Ex st s3 := X1.trans (X2.trans X3)
  have G3 : Gx m st s3 := X13.gx S
  have lt : m < st.length := S.lt
  have le2 : st.length ≤ s2.length := (X1.trans X2).le
  obtain ⟨y, s4, e4, hy, G4, _⟩ := choose G3.stm (getL_lst (h3 ▸ get_end : s3[s2.length]? = some (.lst (A ++ B)))) (by omega) (by rw [← hA]; simp) (by rw [← hA, ← hB]; exact (show (5 : Nat) < 1000000 by decide))
  have G := G3.trans G4
  have p4 : s4[p]? = some (.lst [x0, x1]) := G.get hpm hp
  have lp := lt_of_some p4
  have gm4 := getM_lst p4
  refine ⟨y, some (.tup [.str (t "number"), .int 1]), some (.ref s2.length), s4.set p (.lst [x0, y]), ?_, List.getElem?_set_self lp, ?_, (Gx.hx G).trans (Hx.put G.stm hpm)⟩
  · have hA' := hA
    have hB' := hB
    have ma : mLst (mCons (mTup (mCons (mC (.str (Str.ofString "negate"))) (mCons (mOp ixF (mVar 3) (mC (.int 1))) mNil))) (mCons (mTup (mCons (mC (.str (Str.ofString "call"))) (mCons (mC (.str (Str.ofString "SUM"))) (mCons (mTup (mCons (mOp ixF (mVar 3) (mC (.int 1))) mNil)) mNil)))) (mCons (mTup (mCons (mC (.str (Str.ofString "binary"))) (mCons (mC (.str (Str.ofString "+"))) (mCons (mVar 5) (mCons (mOp ixF (mVar 3) (mC (.int 1))) mNil))))) mNil))) [some (.ref 0), some (.int c), some (.ref m), some (.ref p), some (.int u), some (.tup [.str (t "number"), .int 1]), o6, o7, o8] st = .ok (.ref st.length) s1 := by
      simp [gp0, z1, z2, z3, z4, hA', zA, h1']
    have mb : mLst (mCons (mTup (mCons (mC (.str (Str.ofString "call"))) (mCons (mC (.str (Str.ofString "TAKE"))) (mCons (mTup (mCons (mVar 5) (mCons (mOp ixF (mVar 3) (mC (.int 1))) mNil))) mNil)))) (mCons (mTup (mCons (mC (.str (Str.ofString "call"))) (mCons (mC (.str (Str.ofString "IF"))) (mCons (mTup (mCons (mVar 5) (mCons (mVar 5) (mCons (mOp ixF (mVar 3) (mC (.int 1))) mNil)))) mNil)))) mNil)) [some (.ref 0), some (.int c), some (.ref m), some (.ref p), some (.int u), some (.tup [.str (t "number"), .int 1]), some (.ref st.length), o7, o8] s1 = .ok (.ref s1.length) s2 := by
      simp [gp1, z1, z2, z3, z4, hB', zB, h2]
    simp [-mLst_ap, L1_f_law, z2, ma, mb, gA, gB, eAB, mFn_ap, e4, gm4]
  · refine V.free (m := m) (st := st) ?_
    have fi : ∀ {k : Nat} {i : Int}, 0 ≤ i → i < 16 → V m st 0 k 4 (.int i) := fun a b => V.ofFine (Lx.fine_int a b)
    have num : ∀ {k : Nat}, V m st 0 (k + 1) 18 (.tup [.str (t "number"), .int 1]) := fun {k} => (V.tup (.cons (V.str' (by decide +kernel) (by decide +kernel)) (.cons (fi (by decide) (by decide)) .nil (v := 0)))).more (Nat.le_refl _) (Nat.le_refl _) (by decide)
    have q : ∀ {s : Str}, PyData.strOk s = true → s.cps.size ≤ 12 → V m st 0 (K + 1) 12 (.str s) := fun h l => V.str' h l
    have x1' : V m st 0 (K + 1) W x1 := h1.more (Nat.le_refl _) (by omega) (Nat.le_refl _)
    rw [List.mem_append] at hy
    rcases hy with hy | hy
    · rw [← hA] at hy
      simp only [List.mem_cons, List.not_mem_nil, or_false] at hy
      rcases hy with rfl | rfl | rfl
      · exact (V.tup (.cons (q (by decide +kernel) (by decide +kernel)) (.cons x1' .nil (v := 0)))).more (Nat.le_refl _) (by omega) (by omega)
      · have a : V m st 0 (K + 1) (W + 1) (.tup [x1]) := (V.tup (.cons h1 .nil (v := 0))).more (Nat.le_refl _) (Nat.le_refl _) (by omega)
        exact (V.tup (.cons (q (by decide +kernel) (by decide +kernel)) (.cons (q (by decide +kernel) (by decide +kernel)) (.cons a .nil (v := 0))))).more (Nat.le_refl _) (by omega) (by omega)
      · exact (V.tup (.cons (q (by decide +kernel) (by decide +kernel)) (.cons (q (by decide +kernel) (by decide +kernel)) (.cons num (.cons x1' .nil (v := 0)))))).more (Nat.le_refl _) (by omega) (by omega)
    · rw [← hB] at hy
      simp only [List.mem_cons, List.not_mem_nil, or_false] at hy
      have q2 : ∀ {s : Str}, PyData.strOk s = true → s.cps.size ≤ 12 → V m st 0 (K + 2) 12 (.str s) := fun h l => V.str' h l
      rcases hy with rfl | rfl
      · have a : V m st 0 (K + 2) (W + 20) (.tup [.tup [.str (t "number"), .int 1], x1]) := (V.tup (.cons num (.cons x1' .nil (v := 0)))).more (Nat.le_refl _) (Nat.le_refl _) (by omega)
        exact (V.tup (.cons (q2 (by decide +kernel) (by decide +kernel)) (.cons (q2 (by decide +kernel) (by decide +kernel)) (.cons a .nil (v := 0))))).more (Nat.le_refl _) (by omega) (by omega)
      · have a : V m st 0 (K + 2) (W + 39) (.tup [.tup [.str (t "number"), .int 1], .tup [.str (t "number"), .int 1], x1]) := (V.tup (.cons num (.cons num (.cons x1' .nil (v := 0))))).more (Nat.le_refl _) (Nat.le_refl _) (by omega)
        exact (V.tup (.cons (q2 (by decide +kernel) (by decide +kernel)) (.cons (q2 (by decide +kernel) (by decide +kernel)) (.cons a .nil (v := 0))))).more (Nat.le_refl _) (by omega) (by omega)
theorem wraps {p : Nat} {c : Int} {x0 : PV} {o7 o8 : Option PV} (hpm : p ≠ m) {all : List PV} : ∀ (us : List Int) (x1 : PV) (K W : Nat) (o4 o5 o6 : Option PV) (st : Store), Stm st m → st[p]? = some (.lst [x0, x1]) → V m st 0 K W x1 →
    ∃ y o4' o5' o6' st', loopF (gNm 4) L1_f_law none all (us.map .int) [some (.ref 0), some (.int c), some (.ref m), some (.ref p), o4, o5, o6, o7, o8] st = .nx [some (.ref 0), some (.int c), some (.ref m), some (.ref p), o4', o5', o6', o7, o8] st' ∧ st'[p]? = some (.lst [x0, y]) ∧ V m st' 0 (K + 3 * us.length) (W + 100 * us.length) y ∧ Hx m p st st'
  | [], x1, K, W, o4, o5, o6, st, S, hp, h1 => ⟨x1, o4, o5, o6, st, by rw [List.map_nil, loopF, if_pos stays_none], hp, h1, Hx.refl S⟩
  | u :: us, x1, K, W, o4, o5, o6, st, S, hp, h1 => by
    obtain ⟨y, a, b, s1, e1, p1, v1, H1⟩ := wrap_ap (c := c) (u := u) (o5 := o5) (o6 := o6) (o7 := o7) (o8 := o8) S hpm hp h1
    obtain ⟨y', o4', o5', o6', s2, e2, p2, v2, H2⟩ := wraps (c := c) (x0 := x0) (o7 := o7) (o8 := o8) hpm us y (K + 3) (W + 100) (some (.int u)) a b s1 H1.stm p1 v1
    refine ⟨y', o4', o5', o6', s2, ?_, p2, v2.more (Nat.le_refl _) (by rw [List.length_cons]; omega) (by rw [List.length_cons]; omega), H1.trans H2⟩
    rw [List.map_cons, loopF, if_pos stays_none]
    simp only [gNm_ap, List.set_cons_succ, List.set_cons_zero]
    rw [e1]
    exact e2
/-- a value bent and judged -/
theorem bend_ap {p : Nat} {c u : Int} {x : PV} {o5 o6 o8 : Option PV} (S : Stm st m) (h : V m st 0 49 10000 x) :
    ∃ b st', L2_f_law [some (.ref 0), some (.int c), some (.ref m), some (.ref p), some (.int u), o5, o6, some x, o8] st = .nx [some (.ref 0), some (.int c), some (.ref m), some (.ref p), some (.int u), o5, o6, some x, b] st' ∧ Gx m st st' := by
  obtain ⟨y, s1, e1, v1, G1⟩ := bent_ap 60 49 0 10000 x st (by decide) (by decide) h S
  by_cases hu : 4 < u
  · obtain ⟨y2, s2, e2, v2, G2⟩ := bent_ap 60 (49 + 3) (0 + 1) (2 * 10000 + 100) y s1 (by decide) (by decide) v1 G1.stm
    obtain ⟨s3, e3, X3⟩ := right_ap v2 (by decide) (by decide) (by decide)
    refine ⟨some y2, s3, ?_, (G1.trans G2).ex X3⟩
    simp [L2_f_law, mFn_ap, e1, hu, e2, e3, truF]
  · obtain ⟨s3, e3, X3⟩ := right_ap v1 (by decide) (by decide) (by decide)
    refine ⟨some y, s3, ?_, G1.ex X3⟩
    simp [L2_f_law, mFn_ap, e1, hu, e3, truF]
theorem bends {p : Nat} {c : Int} {x : PV} {o5 o6 : Option PV} {all : List PV} : ∀ (us : List Int) (o4 o8 : Option PV) (st : Store), Stm st m → V m st 0 49 10000 x →
    ∃ o4' o8' st', loopF (gNm 4) L2_f_law none all (us.map .int) [some (.ref 0), some (.int c), some (.ref m), some (.ref p), o4, o5, o6, some x, o8] st = .nx [some (.ref 0), some (.int c), some (.ref m), some (.ref p), o4', o5, o6, some x, o8'] st' ∧ Gx m st st'
  | [], o4, o8, st, S, h => ⟨o4, o8, st, by rw [List.map_nil, loopF, if_pos stays_none], .refl S⟩
  | u :: us, o4, o8, st, S, h => by
    obtain ⟨b, s1, e1, G1⟩ := bend_ap (p := p) (c := c) (u := u) (o5 := o5) (o6 := o6) (o8 := o8) S h
    obtain ⟨o4', o8', s2, e2, G2⟩ := bends (p := p) (c := c) (o5 := o5) (o6 := o6) us (some (.int u)) b s1 G1.stm (h.gx G1)
    refine ⟨o4', o8', s2, ?_, G1.trans G2⟩
    rw [List.map_cons, loopF, if_pos stays_none]
    simp only [gNm_ap, List.set_cons_succ, List.set_cons_zero]
    rw [e1]
    exact e2
theorem value_ap {p : Nat} {c : Int} {x : PV} {o4 o5 o6 o8 : Option PV} (S : Stm st m) (h : V m st 0 49 10000 x) :
    ∃ o4' o8' st', L3_f_law [some (.ref 0), some (.int c), some (.ref m), some (.ref p), o4, o5, o6, some x, o8] st = .nx [some (.ref 0), some (.int c), some (.ref m), some (.ref p), o4', o5, o6, some x, o8'] st' ∧ Gx m st st' := by
  obtain ⟨s1, e1, X1⟩ := right_ap h (by decide) (by decide) (by decide)
  have G1 := X1.gx S
  obtain ⟨o4', o8', s2, e2, G2⟩ := bends (p := p) (c := c) (o5 := o5) (o6 := o6) (all := (rangeI 0 8).map .int) (rangeI 0 8) o4 o8 s1 G1.stm (h.gx G1)
  refine ⟨o4', o8', s2, ?_, G1.trans G2⟩
  simp [L3_f_law, mFn_ap, e1, truF, rangeP_eq, e2]
theorem values {p : Nat} {c : Int} (hpm : p ≠ m) {all : List PV} {o5 o6 : Option PV} : ∀ (xs : List PV) (o4 o7 o8 : Option PV) (st : Store), Stm st m → getL st p = some all → (∀ x ∈ xs, V m st 0 49 10000 x) →
    ∃ o4' o7' o8' st', loopF (gNm 7) L3_f_law (some p) all xs [some (.ref 0), some (.int c), some (.ref m), some (.ref p), o4, o5, o6, o7, o8] st = .nx [some (.ref 0), some (.int c), some (.ref m), some (.ref p), o4', o5, o6, o7', o8'] st' ∧ Gx m st st'
  | [], o4, o7, o8, st, S, hp, _ => ⟨o4, o7, o8, st, by rw [loopF, if_pos (stays_some hp)], .refl S⟩
  | x :: xs, o4, o7, o8, st, S, hp, hx => by
    obtain ⟨o4', o8', s1, e1, G1⟩ := value_ap (p := p) (c := c) (o4 := o4) (o5 := o5) (o6 := o6) (o8 := o8) S (hx x (by simp))
    have hp1 : getL s1 p = some all := by
      unfold getL at hp ⊢
      cases e : st[p]? with
      | none => rw [e] at hp; cases hp
      | some c => rw [e] at hp; rw [G1.get hpm e]; exact hp
    obtain ⟨o4'', o7', o8'', s2, e2, G2⟩ := values (c := c) (o5 := o5) (o6 := o6) hpm xs o4' (some x) o8' s1 G1.stm hp1 (fun y hy => (hx y (by simp [hy])).gx G1)
    refine ⟨o4'', o7', o8'', s2, ?_, G1.trans G2⟩
    rw [loopF, if_pos (stays_some hp)]
    simp only [gNm_ap, List.set_cons_succ, List.set_cons_zero]
    rw [e1]
    exact e2
end
end K05

namespace K05
open PySem Sm Lw
theorem fine_v {m : Nat} {st : Store} {n : Nat} {x : PV} (h : Lx.Xq n x) : V m st 0 (2 * n) (Lx.wide n) x := V.ofFine h.fine
theorem start_ap {ns : List Int} (hb : Bits ns) {c : Nat} (hc : c < 2000) {o2 o3 o4 o5 o6 o7 o8 : Option PV} {st : Store} (h0 : st[0]? = some (.rol (ns.map .int))) :
    ∃ a2 a3 a4 a5 a6 a7 a8 st', L4_f_law [some (.ref 0), some (.int c), o2, o3, o4, o5, o6, o7, o8] st = .nx [some (.ref 0), some (.int c), a2, a3, a4, a5, a6, a7, a8] st' ∧ st'[0]? = some (.rol (ns.map .int)) := by
  obtain ⟨s1, e1, X1, S1, l1⟩ := stream (m := 0) (i := c) (ns := ns) (st := st) (getL_rol h0) hc hb
  obtain ⟨v, s2, e2, v0, v1, G2, _⟩ := draw S1 (z := 4) (by decide) (by decide)
  obtain ⟨k, rfl⟩ : ∃ k : Nat, v = (k : Int) := ⟨v.toNat, by omega⟩
  obtain ⟨x0, s3, e3, q0, G3⟩ := Lx.formula_ap (R := 12) (C := 12) (d := k + 1) G2.stm (by decide) (by decide) (by omega)
  obtain ⟨x1, s4, e4, q1, G4⟩ := Lx.formula_ap (R := 12) (C := 12) (d := 2) G3.stm (by decide) (by decide) (by decide)
  have e3' : Lx.g_f_law_formula [.ref st.length, .int 12, .int 12, .int (1 + (k : Int))] s2 = .ok x0 s3 := by rw [show 1 + (k : Int) = ((k + 1 : Nat) : Int) by omega]; exact e3
  have e4' : Lx.g_f_law_formula [.ref st.length, .int 12, .int 12, .int 2] s3 = .ok x1 s4 := e4
  have G24 := (G2.trans G3).trans G4
  obtain ⟨s5, h5⟩ : ∃ s5, s4 ++ [Cell.lst [x0, x1]] = s5 := ⟨_, rfl⟩
  have X5 : Ex s4 s5 := h5 ▸ Ex.push
  have G5 := G24.ex X5
  have hpm : s4.length ≠ st.length := Nat.ne_of_gt G24.stm.lt
  have p5 : s5[s4.length]? = some (.lst [x0, x1]) := h5 ▸ get_end
  obtain ⟨u, s6, e6, u0, u1, G6, _⟩ := draw G5.stm (z := 3) (by decide) (by decide)
  obtain ⟨n, rfl⟩ : ∃ n : Nat, u = (n : Int) := ⟨u.toNat, by omega⟩
  have V1 : ∀ s, V st.length s 0 6 (Lx.wide 3) x1 := fun s => fine_v q1
  have V0 : ∀ s, V st.length s 0 49 10000 x0 := fun s => (fine_v (q0.mono (by omega : k + 1 + 1 ≤ 5))).more (Nat.le_refl _) (by decide) (by decide)
  obtain ⟨us, hus⟩ : ∃ us : List Int, rangeI 0 (11 + n) = us := ⟨_, rfl⟩
  have lus : us.length = 11 + n := by rw [← hus]; simp [rangeI]
  obtain ⟨y, o4', o5', o6', s7, e7, p7, v7, H7⟩ := wraps (m := st.length) (p := s4.length) (c := (c : Int)) (x0 := x0) (o7 := o7) (o8 := o8) hpm (all := us.map .int) us x1 6 (Lx.wide 3) o4 o5 o6 s6 G6.stm (G6.get hpm p5) (V1 s6)
  have Vy : ∀ s, V st.length s 0 49 10000 y := fun s => (V.free v7).more (Nat.le_refl _) (by rw [lus]; omega) (by rw [lus, show Lx.wide 3 = 780 by decide]; omega)
  obtain ⟨o4'', o7'', o8'', s8, e8, G8⟩ := values (m := st.length) (p := s4.length) (c := (c : Int)) hpm (all := [x0, y]) (o5 := o5') (o6 := o6') [x0, y] o4' o7 o8 s7 H7.stm (getL_lst p7) (fun z hz => by
    simp only [List.mem_cons, List.not_mem_nil, or_false] at hz
    rcases hz with rfl | rfl
    · exact V0 s7
    · exact Vy s7)
  have z2 : (2 : Nat) ≤ sizeLine := by decide
  have n0 : (0 : Nat) ≠ st.length := Nat.ne_of_lt (lt_of_some h0)
  have n4 : (0 : Nat) ≠ s4.length := by
    have := G24.stm.lt
    omega
  refine ⟨some (.ref st.length), some (.ref s4.length), o4'', o5', o6', o7'', o8'', s8, ?_, G8.get n0 (H7.get n0 n4 (G6.get n0 (X5.get (G24.get n0 (X1.get h0)))))⟩
  have er : rangeP 0 (11 + n) = us.map .int := by rw [← hus, rangeP_eq]
  obtain ⟨z, hz⟩ : ∃ z : Int, 11 + (n : Int) = z := ⟨_, rfl⟩
  have hr : -4611686018427387904 ≤ z ∧ z < 4611686018427387904 := by omega
  have hn : z.toNat = 11 + n := by omega
  have gl : getL s7 s4.length = some [x0, y] := getL_lst p7
  simp [L4_f_law, mFn_ap, e1, e2, e3', e4', z2, h5, e6, hz, hr, hn, er, e7, gl, e8]
theorem starts {ns : List Int} (hb : Bits ns) {all : List PV} : ∀ (cs : List Nat) (o1 o2 o3 o4 o5 o6 o7 o8 : Option PV) (st : Store), (∀ c ∈ cs, c < 2000) → st[0]? = some (.rol (ns.map .int)) →
    ∃ σ' st', loopF (gNm 1) L4_f_law none all (cs.map fun c => .int (c : Nat)) [some (.ref 0), o1, o2, o3, o4, o5, o6, o7, o8] st = .nx σ' st' ∧ σ'.length = 9 ∧ 0 < st'.length
  | [], o1, o2, o3, o4, o5, o6, o7, o8, st, _, h0 => ⟨_, st, by rw [List.map_nil, loopF, if_pos stays_none], rfl, lt_of_some h0⟩
  | c :: cs, o1, o2, o3, o4, o5, o6, o7, o8, st, hc, h0 => by
    obtain ⟨a2, a3, a4, a5, a6, a7, a8, s1, e1, h1⟩ := start_ap hb (c := c) (hc c (by simp)) (o2 := o2) (o3 := o3) (o4 := o4) (o5 := o5) (o6 := o6) (o7 := o7) (o8 := o8) h0
    obtain ⟨σ', s2, e2, l2, p2⟩ := starts hb (all := all) cs (some (.int c)) a2 a3 a4 a5 a6 a7 a8 s1 (fun x hx => hc x (by simp [hx])) h1
    refine ⟨σ', s2, ?_, l2, p2⟩
    rw [List.map_cons, loopF, if_pos stays_none]
    simp only [gNm_ap, List.set_cons_succ, List.set_cons_zero]
    rw [e1]
    exact e2
theorem finals {q : Nat} {all : List PV} {m : Nat} : ∀ (xs : List PV) (σ : Slots) (st : Store), σ.length = 9 → getL st q = some all → (∀ x ∈ xs, V m st 1 5 100 x) →
    ∃ σ' st', loopF (gNm 7) L5_f_law (some q) all xs σ st = .nx σ' st'
  | [], σ, st, _, hq, _ => ⟨σ, st, by rw [loopF, if_pos (stays_some hq)]⟩
  | x :: xs, σ, st, hσ, hq, hx => by
    obtain ⟨s1, e1, X1⟩ := right_ap (hx x (by simp)) (by decide) (by decide) (by decide)
    obtain ⟨σ', s2, e2⟩ := finals (all := all) xs (σ.set 7 (some x)) s1 (by rw [List.length_set]; exact hσ) (getL_ex' X1 hq) (fun y hy => (hx y (by simp [hy])).ex X1)
    refine ⟨σ', s2, ?_⟩
    have g7 : (σ.set 7 (some x))[7]? = some (some x) := List.getElem?_set_self (by omega)
    rw [loopF, if_pos (stays_some hq)]
    simp only [gNm_ap]
    have eb : L5_f_law (σ.set 7 (some x)) st = .nx (σ.set 7 (some x)) s1 := by simp [L5_f_law, g7, mFn_ap, e1, truF]
    rw [eb]
    exact e2
theorem last_ap {σ : Slots} {st : Store} (hσ : σ.length = 9) (hp : 0 < st.length) : ∃ σ' st', mFor (mItL (mLst (mCons (mC .non) (mCons (mC (.int 5)) (mCons (mC (.bl true)) (mCons (mC (.str (Str.ofString "A1"))) (mCons (mC (.str (Str.ofString ""))) (mCons (mLst mNil) (mCons (mTup mNil) (mCons mDnew (mCons (mTup (mCons (mC (.str (Str.ofString "number"))) mNil)) (mCons (mTup (mCons (mC (.str (Str.ofString "number"))) (mCons (mC (.bl true)) mNil))) (mCons (mLst (mCons (mC (.str (Str.ofString "number"))) (mCons (mC (.int 1)) mNil))) (mCons (mTup (mCons (mC (.str (Str.ofString "badref"))) (mCons (mC (.int 0)) mNil))) mNil)))))))))))))) (gNm 7) L5_f_law σ st = .nx σ' st' := by
  have z1 : (1 : Nat) ≤ sizeLine := by decide
  have z2 : (2 : Nat) ≤ sizeLine := by decide
  have z12 : (12 : Nat) ≤ sizeLine := by decide
  obtain ⟨s1, h1⟩ : ∃ s1, st ++ [Cell.lst []] = s1 := ⟨_, rfl⟩
  obtain ⟨s2, h2⟩ : ∃ s2, s1 ++ [Cell.dk []] = s2 := ⟨_, rfl⟩
  obtain ⟨s3, h3⟩ : ∃ s3, s2 ++ [Cell.lst [.str (t "number"), .int 1]] = s3 := ⟨_, rfl⟩
  obtain ⟨A, hA⟩ : ∃ A, [PV.non, .int 5, .bl true, .str (t "A1"), .str (t ""), .ref st.length, .tup [], .ref s1.length, .tup [.str (t "number")], .tup [.str (t "number"), .bl true], .ref s2.length, .tup [.str (t "badref"), .int 0]] = A := ⟨_, rfl⟩
  have zA : A.length ≤ sizeLine := by rw [← hA]; exact z12
  obtain ⟨s4, h4⟩ : ∃ s4, s3 ++ [Cell.lst A] = s4 := ⟨_, rfl⟩
  have X1 : Ex st s1 := h1 ▸ Ex.push
  have X2 : Ex s1 s2 := h2 ▸ Ex.push
  have X3 : Ex s2 s3 := h3 ▸ Ex.push
  have X4 : Ex s3 s4 := h4 ▸ Ex.push
  have q : getL s4 s3.length = some A := getL_lst (h4 ▸ get_end)
  have c1 : s4[st.length]? = some (.lst []) := X4.get (X3.get (X2.get (h1 ▸ get_end)))
  have c2 : s4[s1.length]? = some (.dk []) := X4.get (X3.get (h2 ▸ get_end))
  have c3 : s4[s2.length]? = some (.lst [.str (t "number"), .int 1]) := X4.get (h3 ▸ get_end)
  have l1 := X1.le
  have l2 := X2.le
  have hv : ∀ x ∈ A, V 0 s4 1 5 100 x := fun x hx => by
    have fi : ∀ {k : Nat} {i : Int}, 0 ≤ i → i < 16 → V 0 s4 1 k 4 (.int i) := fun a b => V.ofFine (Lx.fine_int a b)
    have fi0 : ∀ {k : Nat} {i : Int}, 0 ≤ i → i < 16 → V 0 s4 0 k 4 (.int i) := fun a b => V.ofFine (Lx.fine_int a b)
    have fs : ∀ {j k : Nat} {s : Str}, PyData.strOk s = true → s.cps.size ≤ 12 → V 0 s4 j k 12 (.str s) := fun h l => V.str' h l
    rw [← hA] at hx
    simp only [List.mem_cons, List.not_mem_nil, or_false] at hx
    rcases hx with rfl | rfl | rfl | rfl | rfl | rfl | rfl | rfl | rfl | rfl | rfl | rfl
    · exact .non
    · exact (fi (k := 0) (by decide) (by decide)).more (Nat.le_refl _) (by decide) (by decide)
    · exact .bl
    · exact (fs (j := 1) (k := 0) (by decide +kernel) (by decide +kernel)).more (Nat.le_refl _) (by decide) (by decide)
    · exact (fs (j := 1) (k := 0) (by decide +kernel) (by decide +kernel)).more (Nat.le_refl _) (by decide) (by decide)
    · exact (V.lst (j := 0) (K := 0) (W := 0) (by omega) c1 .nil).more (Nat.le_refl _) (by decide) (by decide)
    · exact (V.tup (K := 0) (.nil (W := 0))).more (Nat.le_refl _) (by decide) (by decide)
    · exact (V.dk (j := 0) (K := 0) (W := 0) (by omega) c2).more (Nat.le_refl _) (by decide) (by decide)
    · exact (V.tup (K := 0) (.cons (fs (by decide +kernel) (by decide +kernel)) .nil (v := 0))).more (Nat.le_refl _) (by decide) (by decide)
    · exact (V.tup (K := 0) (.cons (fs (by decide +kernel) (by decide +kernel)) (.cons (V.bl (W := 0)) .nil (v := 0)))).more (Nat.le_refl _) (by decide) (by decide)
    · exact (V.lst (j := 0) (K := 0) (W := 18) (by omega) c3 ((Ls.cons (fs (by decide +kernel) (by decide +kernel)) (.cons (fi0 (by decide) (by decide)) .nil (v := 0))).more (Nat.le_refl _) (Nat.le_refl _) (by decide))).more (Nat.le_refl _) (by decide) (by decide)
    · exact (V.tup (K := 0) (.cons (fs (by decide +kernel) (by decide +kernel)) (.cons (fi (by decide) (by decide)) .nil (v := 0)))).more (Nat.le_refl _) (by decide) (by decide)
  obtain ⟨σ', s5, e5⟩ := finals (all := A) A σ s4 hσ q hv
  have i1 : mLst mNil σ st = .ok (.ref st.length) s1 := by simp [h1]
  have i2 : mDnew σ s1 = .ok (.ref s1.length) s2 := by simp [h2]
  have i3 : mLst (mCons (mC (.str (Str.ofString "number"))) (mCons (mC (.int 1)) mNil)) σ s2 = .ok (.ref s2.length) s3 := by simp [h3, z2]
  have o : ∀ r : MA, mLst (mCons (mC .non) r) σ st = ((mCons (mC .non) r) σ st).bind fun xs s1 => if xs.length ≤ sizeLine then .ok (.ref s1.length) (s1 ++ [.lst xs]) else .no := fun r => rfl
  refine ⟨σ', s5, ?_⟩
  have hA' := hA
  simp [-List.append_assoc, -mLst_ap, -mDnew_ap, o, i1, i2, i3, z1, z2, hA', zA, h4, q, e5]
theorem law_true (ns : List Int) (hl : ns.length ≤ 63) (hbb : ∀ z ∈ ns, Builtin.Int.intBits z ≤ 1048576) : Meets g_f_law ns := by
  obtain ⟨s0, hs0⟩ : ∃ s0, [Cell.rol (ns.map .int)] = s0 := ⟨_, rfl⟩
  have key : ∀ k : Nat, k < 2000 → ∃ σ' st', loopF (gNm 1) L4_f_law none (rangeP 0 k) (rangeP 0 k) [some (.ref 0), none, none, none, none, none, none, none, none] s0 = .nx σ' st' ∧ σ'.length = 9 ∧ 0 < st'.length := fun k hk => by
    have e : rangeP 0 k = (List.range k).map fun c => PV.int (c : Nat) := by simp [rangeP]
    rw [e]
    exact starts (bits_of hbb) (List.range k) none none none none none none none none _ (fun c hc => by rw [List.mem_range] at hc; omega) (by rw [← hs0]; rfl)
  have hL : getL s0 0 = some (ns.map .int) := by rw [← hs0]; rfl
  obtain ⟨m, em, hm⟩ : ∃ m : Int, (if (if (ns.length : Int) < 5 then (ns.length : Int) else 5) > 2 then (if (ns.length : Int) < 5 then (ns.length : Int) else 5) else 2) = m ∧ 0 ≤ m ∧ m ≤ 5 := ⟨_, rfl, by split <;> split <;> omega, by split <;> split <;> omega⟩
  have hr : -4611686018427387904 ≤ m ∧ m < 4611686018427387904 := by omega
  obtain ⟨σ2, st2, e, l2, p2⟩ := key m.toNat (by omega)
  obtain ⟨σ3, st3, e3⟩ := last_ap l2 p2
  refine ⟨st3, ?_⟩
  have e2 : mCall maxF (mCons (mC (.int 2)) (mCons (mCall minF (mCons (mC (.int 5)) (mCons (mCall lenF (mCons (mVar 0) mNil)) mNil))) mNil)) [some (.ref 0), none, none, none, none, none, none, none, none] s0 = .ok (.int m) s0 := by
    simp only [mCall_ap, mCons_ap, mC_ap, mVar_ap, mNil_ap, bind_ok, List.getElem?_cons_zero, len_ref, hL, min_ap, max_ap, List.length_map, em]
  have e0 : mItR1 (mCons (mCall maxF (mCons (mC (.int 2)) (mCons (mCall minF (mCons (mC (.int 5)) (mCons (mCall lenF (mCons (mVar 0) mNil)) mNil))) mNil))) mNil) [some (.ref 0), none, none, none, none, none, none, none, none] s0 = .ok (none, rangeP 0 m.toNat) s0 := by
    rw [mItR1_ap, mCons_ap, e2]
    simp [hr]
  have hs : startS N_f_law [.ref 0] = [some (.ref 0), none, none, none, none, none, none, none, none] := rfl
  show gOf N_f_law m_f_law [.ref 0] _ = _
  unfold gOf
  rw [hs, hs0]
  have f1 : mFor (mItR1 (mCons (mCall maxF (mCons (mC (.int 2)) (mCons (mCall minF (mCons (mC (.int 5)) (mCons (mCall lenF (mCons (mVar 0) mNil)) mNil))) mNil))) mNil)) (gNm 1) L4_f_law [some (.ref 0), none, none, none, none, none, none, none, none] s0 = .nx σ2 st2 := by
    rw [mFor_ap, e0, fl_ok]
    exact e
  unfold m_f_law
  rw [mSeq_ap, f1]
  dsimp only
  rw [mSeq_ap, e3]
  rfl
end K05

open PySem PySem.W PyProof.Rows
set_option maxHeartbeats 0 in
theorem PySem.Challenge.cw_spillsheet_k05_what_is_an_expression_holds : PySem.Challenge.rw_spillsheet_k05_what_is_an_expression.Holds := by
  w_on; o_law; k_head; (case hw => w_witness2)
  k_fill
  refine Sm.walkG (l := PySem.Challenge.rw_spillsheet_k05_what_is_an_expression) (n := 63) (k := 64) (x := "script") (g := K05.g_f_law) rfl (by decide) rfl ⟨rfl, by decide, by decide⟩ (fun w h Y => PySem.W.kIn_of Y) ?F (fun ns hl hb => K05.law_true ns hl hb)
  case F =>
    intro w mg fa h KX G hmg
    refine' K05.all_mk KX G hmg ?a0 ?l0 ?c0 ?k0 ?a1 ?l1 ?c1 ?k1 ?a2 ?l2 ?c2 ?k2 ?a3 ?l3 ?c3 ?k3 ?a4 ?l4 ?c4 ?k4 ?a5 ?l5 ?c5 ?k5 ?a6 ?l6 ?c6 ?k6 ?a7 ?l7 ?c7 ?k7 ?a8 ?l8 ?c8 ?k8 ?a9 ?l9 ?c9 ?k9 ?a10 ?l10 ?c10 ?k10 ?a11 ?l11 ?c11 ?k11 ?a12 ?l12 ?c12 ?k12 ?a13 ?l13 ?c13 ?k13 ?a14 ?l14 ?c14 ?k14 ?a15 ?l15 ?c15 ?k15 ?a16 ?l16 ?c16 ?k16 ?a17 ?l17 ?c17 ?k17 ?a18 ?l18 ?c18 ?k18 ?a19 ?l19 ?c19 ?k19 ?a20 ?l20 ?c20 ?k20 ?a21 ?l21 ?c21 ?k21 ?a22 ?l22 ?c22 ?k22 ?a23 ?l23 ?c23 ?k23 ?a24 ?l24 ?c24 ?k24 ?a25 ?l25 ?c25 ?k25 ?z_all ?z_bool ?z_int ?z_isinstance ?z_len ?z_list ?z_max ?z_min ?z_range ?z_repr ?z_str ?z_tuple ?q_GRID_SIZE ?q_LARGEST_DEPTH ?q_LARGEST_NUMBER ?q_OPERATORS ?ql_OPERATORS ?qz_OPERATORS ?qv_OPERATORS ?q_FUNCTIONS ?ql_FUNCTIONS ?qk_FUNCTIONS ?qm_FUNCTIONS ?qe_FUNCTIONS ?ql_FUNCTIONS_0 ?qz_FUNCTIONS_0 ?qv_FUNCTIONS_0 ?ql_FUNCTIONS_1 ?qz_FUNCTIONS_1 ?qv_FUNCTIONS_1 ?ql_FUNCTIONS_2 ?qz_FUNCTIONS_2 ?qv_FUNCTIONS_2 ?ql_FUNCTIONS_3 ?qz_FUNCTIONS_3 ?qv_FUNCTIONS_3 ?ql_FUNCTIONS_4 ?qz_FUNCTIONS_4 ?qv_FUNCTIONS_4 ?ql_FUNCTIONS_5 ?qz_FUNCTIONS_5 ?qv_FUNCTIONS_5 ?ql_FUNCTIONS_6 ?qz_FUNCTIONS_6 ?qv_FUNCTIONS_6 ?ql_FUNCTIONS_7 ?qz_FUNCTIONS_7 ?qv_FUNCTIONS_7 ?ql_FUNCTIONS_8 ?qz_FUNCTIONS_8 ?qv_FUNCTIONS_8 ?ql_FUNCTIONS_9 ?qz_FUNCTIONS_9 ?qv_FUNCTIONS_9 ?ql_FUNCTIONS_10 ?qz_FUNCTIONS_10 ?qv_FUNCTIONS_10 ?ql_FUNCTIONS_11 ?qz_FUNCTIONS_11 ?qv_FUNCTIONS_11 ?ql_FUNCTIONS_12 ?qz_FUNCTIONS_12 ?qv_FUNCTIONS_12 ?ql_FUNCTIONS_13 ?qz_FUNCTIONS_13 ?qv_FUNCTIONS_13 ?ql_FUNCTIONS_14 ?qz_FUNCTIONS_14 ?qv_FUNCTIONS_14 ?ql_FUNCTIONS_15 ?qz_FUNCTIONS_15 ?qv_FUNCTIONS_15 ?ql_FUNCTIONS_16 ?qz_FUNCTIONS_16 ?qv_FUNCTIONS_16
    (case a0 => k_is)
    (case l0 => k_is)
    (case c0 => k_is)
    (case k0 => k_is)
    (case a1 => k_is)
    (case l1 => k_is)
    (case c1 => k_is)
    (case k1 => k_is)
    (case a2 => k_is)
    (case l2 => k_is)
    (case c2 => k_is)
    (case k2 => k_is)
    (case a3 => k_is)
    (case l3 => k_is)
    (case c3 => k_is)
    (case k3 => k_is)
    (case a4 => k_is)
    (case l4 => k_is)
    (case c4 => k_is)
    (case k4 => k_is)
    (case a5 => k_is)
    (case l5 => k_is)
    (case c5 => k_is)
    (case k5 => k_is)
    (case a6 => k_is)
    (case l6 => k_is)
    (case c6 => k_is)
    (case k6 => k_is)
    (case a7 => k_is)
    (case l7 => k_is)
    (case c7 => k_is)
    (case k7 => k_is)
    (case a8 => k_is)
    (case l8 => k_is)
    (case c8 => k_is)
    (case k8 => k_is)
    (case a9 => k_is)
    (case l9 => k_is)
    (case c9 => k_is)
    (case k9 => k_is)
    (case a10 => k_is)
    (case l10 => k_is)
    (case c10 => k_is)
    (case k10 => k_is)
    (case a11 => k_is)
    (case l11 => k_is)
    (case c11 => k_is)
    (case k11 => k_is)
    (case a12 => k_is)
    (case l12 => k_is)
    (case c12 => k_is)
    (case k12 => k_is)
    (case a13 => k_is)
    (case l13 => k_is)
    (case c13 => k_is)
    (case k13 => k_is)
    (case a14 => k_is)
    (case l14 => k_is)
    (case c14 => k_is)
    (case k14 => k_is)
    (case a15 => k_is)
    (case l15 => k_is)
    (case c15 => k_is)
    (case k15 => k_is)
    (case a16 => k_is)
    (case l16 => k_is)
    (case c16 => k_is)
    (case k16 => k_is)
    (case a17 => k_is)
    (case l17 => k_is)
    (case c17 => k_is)
    (case k17 => k_is)
    (case a18 => k_is)
    (case l18 => k_is)
    (case c18 => k_is)
    (case k18 => k_is)
    (case a19 => k_is)
    (case l19 => k_is)
    (case c19 => k_is)
    (case k19 => k_is)
    (case a20 => k_is)
    (case l20 => k_is)
    (case c20 => k_is)
    (case k20 => k_is)
    (case a21 => k_is)
    (case l21 => k_is)
    (case c21 => k_is)
    (case k21 => k_is)
    (case a22 => k_is)
    (case l22 => k_is)
    (case c22 => k_is)
    (case k22 => k_is)
    (case a23 => k_is)
    (case l23 => k_is)
    (case c23 => k_is)
    (case k23 => k_is)
    (case a24 => k_is)
    (case l24 => k_is)
    (case c24 => k_is)
    (case k24 => k_is)
    (case a25 => k_is)
    (case l25 => k_is)
    (case c25 => k_is)
    (case k25 => k_is)
    (case z_all => k_is)
    (case z_bool => k_is)
    (case z_int => k_is)
    (case z_isinstance => k_is)
    (case z_len => k_is)
    (case z_list => k_is)
    (case z_max => k_is)
    (case z_min => k_is)
    (case z_range => k_is)
    (case z_repr => k_is)
    (case z_str => k_is)
    (case z_tuple => k_is)
    (case q_GRID_SIZE => k_is)
    (case q_LARGEST_DEPTH => k_is)
    (case q_LARGEST_NUMBER => k_is)
    (case q_OPERATORS => k_is)
    (case ql_OPERATORS => k_is)
    (case qz_OPERATORS => decide)
    (case qv_OPERATORS => exact .cons ⟨_, rfl⟩ (.cons ⟨_, rfl⟩ (.cons ⟨_, rfl⟩ (.cons ⟨_, rfl⟩ (.cons ⟨_, rfl⟩ (.cons ⟨_, rfl⟩ (.cons ⟨_, rfl⟩ (.nil))))))))
    (case q_FUNCTIONS => k_is)
    (case ql_FUNCTIONS => k_is)
    (case qk_FUNCTIONS => exact ⟨⟨_, _, rfl, rfl⟩, ⟨⟨_, _, rfl, rfl⟩, ⟨⟨_, _, rfl, rfl⟩, ⟨⟨_, _, rfl, rfl⟩, ⟨⟨_, _, rfl, rfl⟩, ⟨⟨_, _, rfl, rfl⟩, ⟨⟨_, _, rfl, rfl⟩, ⟨⟨_, _, rfl, rfl⟩, ⟨⟨_, _, rfl, rfl⟩, ⟨⟨_, _, rfl, rfl⟩, ⟨⟨_, _, rfl, rfl⟩, ⟨⟨_, _, rfl, rfl⟩, ⟨⟨_, _, rfl, rfl⟩, ⟨⟨_, _, rfl, rfl⟩, ⟨⟨_, _, rfl, rfl⟩, ⟨⟨_, _, rfl, rfl⟩, ⟨⟨_, _, rfl, rfl⟩, trivial⟩⟩⟩⟩⟩⟩⟩⟩⟩⟩⟩⟩⟩⟩⟩⟩⟩)
    (case qm_FUNCTIONS => decide)
    (case qe_FUNCTIONS => exact .cons ⟨_, rfl⟩ rfl (.cons ⟨_, rfl⟩ rfl (.cons ⟨_, rfl⟩ rfl (.cons ⟨_, rfl⟩ rfl (.cons ⟨_, rfl⟩ rfl (.cons ⟨_, rfl⟩ rfl (.cons ⟨_, rfl⟩ rfl (.cons ⟨_, rfl⟩ rfl (.cons ⟨_, rfl⟩ rfl (.cons ⟨_, rfl⟩ rfl (.cons ⟨_, rfl⟩ rfl (.cons ⟨_, rfl⟩ rfl (.cons ⟨_, rfl⟩ rfl (.cons ⟨_, rfl⟩ rfl (.cons ⟨_, rfl⟩ rfl (.cons ⟨_, rfl⟩ rfl (.cons ⟨_, rfl⟩ rfl (.nil))))))))))))))))))
    (case ql_FUNCTIONS_0 => k_is)
    (case qz_FUNCTIONS_0 => decide)
    (case qv_FUNCTIONS_0 => exact .cons ⟨_, rfl⟩ (.nil))
    (case ql_FUNCTIONS_1 => k_is)
    (case qz_FUNCTIONS_1 => decide)
    (case qv_FUNCTIONS_1 => exact .cons ⟨_, rfl⟩ (.nil))
    (case ql_FUNCTIONS_2 => k_is)
    (case qz_FUNCTIONS_2 => decide)
    (case qv_FUNCTIONS_2 => exact .cons ⟨_, rfl⟩ (.nil))
    (case ql_FUNCTIONS_3 => k_is)
    (case qz_FUNCTIONS_3 => decide)
    (case qv_FUNCTIONS_3 => exact .cons ⟨_, rfl⟩ (.nil))
    (case ql_FUNCTIONS_4 => k_is)
    (case qz_FUNCTIONS_4 => decide)
    (case qv_FUNCTIONS_4 => exact .cons ⟨_, rfl⟩ (.nil))
    (case ql_FUNCTIONS_5 => k_is)
    (case qz_FUNCTIONS_5 => decide)
    (case qv_FUNCTIONS_5 => exact .cons ⟨_, rfl⟩ (.nil))
    (case ql_FUNCTIONS_6 => k_is)
    (case qz_FUNCTIONS_6 => decide)
    (case qv_FUNCTIONS_6 => exact .cons ⟨_, rfl⟩ (.nil))
    (case ql_FUNCTIONS_7 => k_is)
    (case qz_FUNCTIONS_7 => decide)
    (case qv_FUNCTIONS_7 => exact .cons ⟨_, rfl⟩ (.nil))
    (case ql_FUNCTIONS_8 => k_is)
    (case qz_FUNCTIONS_8 => decide)
    (case qv_FUNCTIONS_8 => exact .cons ⟨_, rfl⟩ (.cons ⟨_, rfl⟩ (.nil)))
    (case ql_FUNCTIONS_9 => k_is)
    (case qz_FUNCTIONS_9 => decide)
    (case qv_FUNCTIONS_9 => exact .cons ⟨_, rfl⟩ (.nil))
    (case ql_FUNCTIONS_10 => k_is)
    (case qz_FUNCTIONS_10 => decide)
    (case qv_FUNCTIONS_10 => exact .cons ⟨_, rfl⟩ (.nil))
    (case ql_FUNCTIONS_11 => k_is)
    (case qz_FUNCTIONS_11 => decide)
    (case qv_FUNCTIONS_11 => exact .cons ⟨_, rfl⟩ (.nil))
    (case ql_FUNCTIONS_12 => k_is)
    (case qz_FUNCTIONS_12 => decide)
    (case qv_FUNCTIONS_12 => exact .cons ⟨_, rfl⟩ (.nil))
    (case ql_FUNCTIONS_13 => k_is)
    (case qz_FUNCTIONS_13 => decide)
    (case qv_FUNCTIONS_13 => exact .cons ⟨_, rfl⟩ (.nil))
    (case ql_FUNCTIONS_14 => k_is)
    (case qz_FUNCTIONS_14 => decide)
    (case qv_FUNCTIONS_14 => exact .cons ⟨_, rfl⟩ (.nil))
    (case ql_FUNCTIONS_15 => k_is)
    (case qz_FUNCTIONS_15 => decide)
    (case qv_FUNCTIONS_15 => exact .cons ⟨_, rfl⟩ (.nil))
    (case ql_FUNCTIONS_16 => k_is)
    (case qz_FUNCTIONS_16 => decide)
    (case qv_FUNCTIONS_16 => exact .cons ⟨_, rfl⟩ (.nil))

