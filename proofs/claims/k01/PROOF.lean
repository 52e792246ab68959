import PyProof.Rows.All
import Wide.All
import OpenK.AllK
import Wide.FinOn
import HandS.ForMost
import HandS.Deep
import HandS.Wide
import HandS.IsInst
import HandS.Style
import HandS.TupAny
import KE.KDictKeyed
import KE.KDictLaw
import KE.KeyNested
import HandS.EndBits
import HandS.Flow
import HandS.Dict
import HandS.More
import HandS.ExcCtx
import HandS.ExcInit
import HandS.ExcField
import HandS.ExcIs
import HandS.WordsExc
import KE.KExcIs
import HandS.Strs
import HandS.Text
import PySem.Challenge.RW_spillsheet_k01_names_of_cells_and_areas
set_option Elab.async false
set_option linter.all false
set_option maxRecDepth 100000
set_option maxHeartbeats 4000000
namespace Sm
open PySem PySem.Spec PyProof.Rows L2

/-- a value: tuples by what they hold, other objects by their number -/
inductive PV where
  | non | bl (b : Bool) | int (i : Int) | str (x : Str) | tup (xs : List PV) | ref (n : Nat)
inductive Cell where
  | lst (xs : List PV) | rol (xs : List PV) | dk (kvs : List (Key × PV)) | dn (kvs : List (PV × PV)) | lk (kvs : List (PV × PV)) | err (c : Nat) (fs : List (Str × PV))
  | ins (c : Nat) (fs : List (Str × PV)) | clo (k : Nat) (xs : List PV) | gdef (k : Nat)
/-- no other cell stands at its address -/
def Cell.own : Cell → Bool
  | .rol _ => false
  | .gdef _ => false
  | _ => true
abbrev Store := List Cell
/-- what is fixed where one stands: the written part, the errors' classes, the program, the world -/
structure Gc where
  K : PySem.W.Frag
  cl : Nat → Addr
  P : Program
  w : World
  fa : Nat → Addr
  clo : Nat → Addr → List V → List (Addr × Obj) → Prop
mutual
/-- a value as a dict's key -/
def nkP : PV → Option NestedKey
  | .non => some .none
  | .bl b => some (.num (if b = true then 1 else 0))
  | .int i => some (.num i)
  | .str x => some (.text x)
  | .tup xs => (nkPs xs).map .tup
  | .ref _ => none
def nkPs : List PV → Option (List NestedKey)
  | [] => some []
  | x :: xs => (nkP x).bind fun k => (nkPs xs).map fun ks => k :: ks
end
/-- a dict whose keys are tuples: its keys, their addresses, its values -/
def dnO (P : Program) (w : World) (a : Addr) (xs : List (NestedKey × Addr × V)) : HO := .ext fun h => ∃ o es ep us, h.get? a = some o ∧ o.ExactDict ∧ o.data = .dict es ep ∧ Vals (xs.map (·.2.2)) us ∧ es.toList = ((xs.zip us).map fun z => (z.1.1, z.1.2.1, z.2)).map (entryOfKey (nestedKind P w))
/-- an error that is held: its class, its own dict -/
def errO (a : Addr) (C d : Addr) : HO := .ext fun h => ∃ oe vs, h.get? a = some oe ∧ oe.cls = .ref C ∧ oe.dict = some d ∧ oe.data = .fields vs
theorem errO_ok {P : Program} {w : World} {H : Hp} {h : Heap} {a C d : Addr} {oe : Obj} {vs : Array Value} (e : h.get? a = some oe) (h1 : oe.cls = .ref C) (h2 : oe.dict = some d) (h3 : oe.data = .fields vs) : ObjOk P w H h a (errO a C d) := by
  unfold ObjOk errO
  exact ⟨⟨oe, vs, e, h1, h2, h3⟩, ⟨oe, e⟩, fun h1 h2 ⟨oe, vs, q, r⟩ p => ⟨oe, vs, p _ q, r⟩⟩
theorem dnO_ok {P : Program} {w : World} {H : Hp} {h : Heap} {a : Addr} {xs : List (NestedKey × Addr × V)} {o : Obj} {es : Array DictEntry} {ep : Nat} {us : List Value} (e : h.get? a = some o) (h1 : o.ExactDict) (h2 : o.data = .dict es ep) (h3 : Vals (xs.map (·.2.2)) us)
    (h4 : es.toList = ((xs.zip us).map fun z => (z.1.1, z.1.2.1, z.2)).map (entryOfKey (nestedKind P w))) : ObjOk P w H h a (dnO P w a xs) := by
  unfold ObjOk dnO
  exact ⟨⟨o, es, ep, us, e, h1, h2, h3, h4⟩, ⟨o, e⟩, fun h1 h2 ⟨o, es, ep, us, q, r⟩ p => ⟨o, es, ep, us, p _ q, r⟩⟩
def zip3 (nks : List NestedKey) (bs : List Addr) (vs : List V) : List (NestedKey × Addr × V) := nks.zip (bs.zip vs)

mutual
def VR (K : PySem.W.Frag) (ρ : List Addr) (H : Hp) : PV → V → Prop
  | .non, v => v = .non
  | .bl b, v => v = .bl b
  | .int i, v => v = .int i
  | .str x, v => v = .str x
  | .tup xs, v => ∃ a vs, v = .ref a ∧ SqT K H a vs ∧ VRs K ρ H xs vs
  | .ref n, v => ∃ a, v = .ref a ∧ ρ[n]? = some a
def VRs (K : PySem.W.Frag) (ρ : List Addr) (H : Hp) : List PV → List V → Prop
  | [], vs => vs = []
  | x :: xs, vs => ∃ v r, vs = v :: r ∧ VR K ρ H x v ∧ VRs K ρ H xs r
end
/-- a list that is only read -/
def RoL (K : PySem.W.Frag) (H : Hp) (a : Addr) (vs : List V) : Prop := (∃ o, H a = some (.frz o (.lst vs))) ∨
  ∃ (o : Obj) (its : Array Value) (n : Nat), K.lookup a = some o ∧ o.cls = .type "list" ∧ o.dict = none ∧ o.data = .seq its n ∧ its.size ≤ sizeLine ∧ Vals vs its.toList
theorem RoL.sq {K : PySem.W.Frag} {H : Hp} {a : Addr} {vs : List V} (h : RoL K H a vs) : SqL K H a vs := by
  rcases h with ⟨o, h⟩ | h
  · exact .inl (.inr ⟨o, h⟩)
  · exact .inr h
/-- a function that was made, all that it stands on as it is -/
def CloH (G : Gc) (k : Nat) (a : Addr) (vs : List V) (H : Hp) : Prop := ∃ L : List (Addr × Obj), (∀ p ∈ L, H p.1 = some (.frz p.2 (.own 0))) ∧ (∃ o, (a, o) ∈ L) ∧ G.clo k a vs L
def CR (G : Gc) (ρ : List Addr) (H : Hp) : Cell → Addr → Prop
  | .lst xs, a => ∃ vs, H a = some (.lst vs) ∧ VRs G.K ρ H xs vs
  | .rol xs, a => ∃ vs, RoL G.K H a vs ∧ VRs G.K ρ H xs vs
  | .dk kvs, a => ∃ vs, H a = some (.dK ((kvs.map (·.1)).zip vs)) ∧ VRs G.K ρ H (kvs.map (·.2)) vs
  | .dn kvs, a => ∃ nks bs vs, H a = some (dnO G.P G.w a (zip3 nks bs vs)) ∧ nkPs (kvs.map (·.1)) = some nks ∧ nks.Nodup ∧ VRs G.K ρ H (kvs.map (·.1)) (bs.map V.ref) ∧ VRs G.K ρ H (kvs.map (·.2)) vs
  | .lk kvs, a => ∃ o nks bs vs, H a = some (.frz o (dnO G.P G.w a (zip3 nks bs vs))) ∧ nkPs (kvs.map (·.1)) = some nks ∧ nks.Nodup ∧ VRs G.K ρ H (kvs.map (·.1)) (bs.map V.ref) ∧ VRs G.K ρ H (kvs.map (·.2)) vs
  | .err c fs, a => ∃ d vs, H a = some (errO a (G.cl c) d) ∧ H d = some (.xd ((fs.map (·.1)).zip vs)) ∧ VRs G.K ρ H (fs.map (·.2)) vs
  | .ins c fs, a => ∃ dx vs, H a = some (.ins (G.cl c) dx ((fs.map (·.1)).zip vs)) ∧ H dx = some (.own a) ∧ VRs G.K ρ H (fs.map (·.2)) vs
  | .clo k xs, a => ∃ vs, CloH G k a vs H ∧ VRs G.K ρ H xs vs
  | .gdef k, a => a = G.fa k
structure SR (G : Gc) (ρ : List Addr) (H : Hp) (st : Store) : Prop where
  len : ρ.length = st.length
  nd : ∀ (n m : Nat) (a : Addr) (c c' : Cell), st[n]? = some c → st[m]? = some c' → c.own = true → c'.own = true → ρ[n]? = some a → ρ[m]? = some a → n = m
  cel : ∀ (n : Nat) (c : Cell) (a : Addr), st[n]? = some c → ρ[n]? = some a → CR G ρ H c a
/-- what a step keeps -/
structure Up (K : PySem.W.Frag) (ρ : List Addr) (H : Hp) (ρ' : List Addr) (H' : Hp) : Prop where
  t : ∀ a vs, SqT K H a vs → SqT K H' a vs
  r : ∀ (n : Nat) a, ρ[n]? = some a → ρ'[n]? = some a
section
variable {K : PySem.W.Frag} {G : Gc} {ρ ρ' ρ'' : List Addr} {H H' H'' : Hp}
theorem Up.refl : Up K ρ H ρ H := ⟨fun _ _ h => h, fun _ _ h => h⟩
theorem Up.trans (a : Up K ρ H ρ' H') (b : Up K ρ' H' ρ'' H'') : Up K ρ H ρ'' H'' := ⟨fun x vs h => b.t x vs (a.t x vs h), fun n x h => b.r n x (a.r n x h)⟩
mutual
theorem VR.up (u : Up K ρ H ρ' H') : ∀ {x : PV} {v : V}, VR K ρ H x v → VR K ρ' H' x v
  | .non, _, h => h
  | .bl _, _, h => h
  | .int _, _, h => h
  | .str _, _, h => h
  | .tup xs, v, h => by
    unfold VR at h ⊢
    obtain ⟨a, vs, e, s, r⟩ := h
    exact ⟨a, vs, e, u.t a vs s, VRs.up u r⟩
  | .ref n, v, h => by
    unfold VR at h ⊢
    obtain ⟨a, e, s⟩ := h
    exact ⟨a, e, u.r n a s⟩
theorem VRs.up (u : Up K ρ H ρ' H') : ∀ {xs : List PV} {vs : List V}, VRs K ρ H xs vs → VRs K ρ' H' xs vs
  | [], _, h => h
  | x :: xs, vs, h => by
    unfold VRs at h ⊢
    obtain ⟨v, r, e, h1, h2⟩ := h
    exact ⟨v, r, e, VR.up u h1, VRs.up u h2⟩
end
theorem VR.int_iff {i : Int} {v : V} : VR K ρ H (.int i) v ↔ v = .int i := by unfold VR; exact Iff.rfl
theorem VR.bl_iff {b : Bool} {v : V} : VR K ρ H (.bl b) v ↔ v = .bl b := by unfold VR; exact Iff.rfl
theorem VR.str_iff {x : Str} {v : V} : VR K ρ H (.str x) v ↔ v = .str x := by unfold VR; exact Iff.rfl
theorem VR.non_iff {v : V} : VR K ρ H .non v ↔ v = .non := by unfold VR; exact Iff.rfl
theorem VR.tup_iff {xs : List PV} {v : V} : VR K ρ H (.tup xs) v ↔ ∃ a vs, v = .ref a ∧ SqT K H a vs ∧ VRs K ρ H xs vs := by rw [VR]
theorem VR.ref_iff {n : Nat} {v : V} : VR K ρ H (.ref n) v ↔ ∃ a, v = .ref a ∧ ρ[n]? = some a := by rw [VR]
theorem VRs.nil_iff {vs : List V} : VRs K ρ H [] vs ↔ vs = [] := by rw [VRs]
theorem VRs.cons_iff {x : PV} {xs : List PV} {vs : List V} : VRs K ρ H (x :: xs) vs ↔ ∃ v r, vs = v :: r ∧ VR K ρ H x v ∧ VRs K ρ H xs r := by rw [VRs]
theorem VRs.length : ∀ {xs : List PV} {vs : List V}, VRs K ρ H xs vs → vs.length = xs.length
  | [], _, h => by rw [VRs.nil_iff] at h; rw [h]; rfl
  | x :: xs, vs, h => by
    rw [VRs.cons_iff] at h
    obtain ⟨v, r, rfl, _, h2⟩ := h
    rw [List.length_cons, List.length_cons, VRs.length h2]
theorem VRs.get : ∀ {xs : List PV} {vs : List V} {i : Nat} {x : PV}, VRs K ρ H xs vs → xs[i]? = some x → ∃ v, vs[i]? = some v ∧ VR K ρ H x v
  | [], _, _, _, _, e => by simp at e
  | x :: xs, vs, 0, y, h, e => by
    rw [VRs.cons_iff] at h
    obtain ⟨v, r, rfl, h1, h2⟩ := h
    simp at e
    subst e
    exact ⟨v, rfl, h1⟩
  | x :: xs, vs, i + 1, y, h, e => by
    rw [VRs.cons_iff] at h
    obtain ⟨v, r, rfl, h1, h2⟩ := h
    obtain ⟨w, e1, e2⟩ := VRs.get (i := i) h2 (by simpa using e)
    exact ⟨w, by simpa using e1, e2⟩
theorem VRs.append : ∀ {xs ys : List PV} {vs ws : List V}, VRs K ρ H xs vs → VRs K ρ H ys ws → VRs K ρ H (xs ++ ys) (vs ++ ws)
  | [], ys, vs, ws, h, g => by rw [VRs.nil_iff] at h; rw [h]; exact g
  | x :: xs, ys, vs, ws, h, g => by
    rw [VRs.cons_iff] at h
    obtain ⟨v, r, rfl, h1, h2⟩ := h
    exact VRs.cons_iff.mpr ⟨v, r ++ ws, rfl, h1, VRs.append h2 g⟩
theorem VRs.set : ∀ {xs : List PV} {vs : List V} {x : PV} {v : V} (i : Nat), VRs K ρ H xs vs → VR K ρ H x v → VRs K ρ H (xs.set i x) (vs.set i v)
  | [], _, _, _, _, h, _ => by rw [VRs.nil_iff] at h; rw [h]; exact VRs.nil_iff.mpr rfl
  | x :: xs, vs, y, w, 0, h, g => by
    rw [VRs.cons_iff] at h
    obtain ⟨v, r, rfl, h1, h2⟩ := h
    exact VRs.cons_iff.mpr ⟨w, r, rfl, g, h2⟩
  | x :: xs, vs, y, w, i + 1, h, g => by
    rw [VRs.cons_iff] at h
    obtain ⟨v, r, rfl, h1, h2⟩ := h
    exact VRs.cons_iff.mpr ⟨v, r.set i w, rfl, h1, VRs.set i h2 g⟩
theorem VRs.take : ∀ {xs : List PV} {vs : List V} (n : Nat), VRs K ρ H xs vs → VRs K ρ H (xs.take n) (vs.take n)
  | _, _, 0, h => VRs.nil_iff.mpr rfl
  | [], _, n + 1, h => by rw [VRs.nil_iff] at h; rw [h]; exact VRs.nil_iff.mpr rfl
  | x :: xs, vs, n + 1, h => by
    rw [VRs.cons_iff] at h
    obtain ⟨v, r, rfl, h1, h2⟩ := h
    exact VRs.cons_iff.mpr ⟨v, r.take n, rfl, h1, VRs.take n h2⟩
theorem VRs.drop : ∀ {xs : List PV} {vs : List V} (n : Nat), VRs K ρ H xs vs → VRs K ρ H (xs.drop n) (vs.drop n)
  | _, _, 0, h => h
  | [], _, n + 1, h => by rw [VRs.nil_iff] at h; rw [h]; exact VRs.nil_iff.mpr rfl
  | x :: xs, vs, n + 1, h => by
    rw [VRs.cons_iff] at h
    obtain ⟨v, r, rfl, h1, h2⟩ := h
    exact VRs.drop n h2
theorem VRs.ints : ∀ {ns : List Int}, VRs K ρ H (ns.map .int) (ns.map V.int)
  | [] => VRs.nil_iff.mpr rfl
  | n :: ns => VRs.cons_iff.mpr ⟨_, _, rfl, VR.int_iff.mpr rfl, VRs.ints⟩

/-! ### the heap's steps -/
theorem sqt_upd {a b : Addr} {vs : List V} {o : HO} (h : SqT K H a vs) (hb : ∀ xs, H b ≠ some (.tup xs)) (hf : ∀ u xs, H b ≠ some (.frz u (.tup xs))) : SqT K (upd H b o) a vs := by
  rcases h with h | h
  · refine .inl ?_
    rcases h with h | ⟨u, h⟩
    · exact .inl (by rw [upd_ne (fun e => hb vs (by rw [← e]; exact h))]; exact h)
    · exact .inr ⟨u, by rw [upd_ne (fun e => hf u vs (by rw [← e]; exact h))]; exact h⟩
  · exact .inr h
theorem sql_upd {a b : Addr} {vs : List V} {o : HO} (h : SqL K H a vs) (hn : a ≠ b) : SqL K (upd H b o) a vs := by
  rcases h with h | h
  · refine .inl ?_
    rcases h with h | ⟨u, h⟩
    · exact .inl (by rw [upd_ne hn]; exact h)
    · exact .inr ⟨u, by rw [upd_ne hn]; exact h⟩
  · exact .inr h
theorem sql_new {a b : Addr} {vs : List V} {o : HO} (h : SqL K H a vs) (hb : H b = none) : SqL K (upd H b o) a vs := by
  rcases h with h | h
  · refine .inl ?_
    rcases h with h | ⟨u, h⟩
    · exact .inl (by rw [upd_ne (ne_of_none h hb)]; exact h)
    · exact .inr ⟨u, by rw [upd_ne (ne_of_none h hb)]; exact h⟩
  · exact .inr h
theorem up_new {b : Addr} {o : HO} (hb : H b = none) : Up K ρ H ρ (upd H b o) :=
  ⟨fun a vs h => sqt_upd h (fun xs e => by rw [hb] at e; cases e) (fun u xs e => by rw [hb] at e; cases e), fun _ _ h => h⟩
/-- what stands at an address that may be written -/
def Wr : Option HO → Prop
  | some (.lst _) => True
  | some (.dK _) => True
  | some (.dT _) => True
  | some (.set _ _) => True
  | some (.ins _ _ _) => True
  | some (.ext _) => True
  | some (.frz _ (.ext _)) => True
  | none => True
  | _ => False
theorem Wr.ne {a b : Addr} {o : HO} (hb : Wr (H b)) (h : H a = some o) (ho : ¬ Wr (some o)) : a ≠ b := fun e => ho (by rw [← h, e]; exact hb)
theorem up_wr {b : Addr} {o : HO} (hb : Wr (H b)) : Up K ρ H ρ (upd H b o) :=
  ⟨fun a vs h => sqt_upd h (fun xs e => by rw [e] at hb; exact hb) (fun u xs e => by rw [e] at hb; exact hb), fun _ _ h => h⟩
theorem CR.there {c : Cell} {a : Addr} (ho : c.own = true) (h : CR G ρ H c a) : ∃ o, H a = some o := by
  cases c with
  | lst xs => obtain ⟨vs, h1, _⟩ := h; exact ⟨_, h1⟩
  | rol xs => cases ho
  | dk kvs => obtain ⟨vs, h1, _⟩ := h; exact ⟨_, h1⟩
  | dn kvs => obtain ⟨_, _, _, h1, _⟩ := h; exact ⟨_, h1⟩
  | lk kvs => obtain ⟨_, _, _, _, h1, _⟩ := h; exact ⟨_, h1⟩
  | err c fs => obtain ⟨_, _, h1, _⟩ := h; exact ⟨_, h1⟩
  | ins c fs => obtain ⟨_, _, h1, _⟩ := h; exact ⟨_, h1⟩
  | clo k xs => obtain ⟨_, ⟨L, h1, ⟨o, h2⟩, _⟩, _⟩ := h; exact ⟨_, h1 _ h2⟩
  | gdef k => cases ho
theorem CR.upd {b : Addr} {o : HO} {c : Cell} {a : Addr} (hb : Wr (H b)) (hab : c.own = true → a ≠ b) (h : CR G ρ H c a) : CR G ρ (L2.upd H b o) c a := by
  have u : Up G.K ρ H ρ (L2.upd H b o) := up_wr hb
  cases c with
  | lst xs => obtain ⟨vs, h1, h2⟩ := h; exact ⟨vs, by rw [upd_ne (hab rfl)]; exact h1, h2.up u⟩
  | rol xs =>
    obtain ⟨vs, h1, h2⟩ := h
    refine ⟨vs, ?_, h2.up u⟩
    rcases h1 with ⟨o', h1⟩ | h1
    · exact .inl ⟨o', by rw [upd_ne (hb.ne h1 (fun z => z))]; exact h1⟩
    · exact .inr h1
  | dk kvs => obtain ⟨vs, h1, h2⟩ := h; exact ⟨vs, by rw [upd_ne (hab rfl)]; exact h1, h2.up u⟩
  | dn kvs => obtain ⟨nks, bs, vs, h1, e1, e2, h2, h3⟩ := h; exact ⟨nks, bs, vs, by rw [upd_ne (hab rfl)]; exact h1, e1, e2, h2.up u, h3.up u⟩
  | lk kvs => obtain ⟨q, nks, bs, vs, h1, e1, e2, h2, h3⟩ := h; exact ⟨q, nks, bs, vs, by rw [upd_ne (hab rfl)]; exact h1, e1, e2, h2.up u, h3.up u⟩
  | err c fs => obtain ⟨d, vs, h1, h2, h3⟩ := h; exact ⟨d, vs, by rw [upd_ne (hab rfl)]; exact h1, by rw [upd_ne (hb.ne h2 (fun z => z))]; exact h2, h3.up u⟩
  | ins c fs => obtain ⟨d, vs, h1, h2, h3⟩ := h; exact ⟨d, vs, by rw [upd_ne (hab rfl)]; exact h1, by rw [upd_ne (hb.ne h2 (fun z => z))]; exact h2, h3.up u⟩
  | clo k xs =>
    obtain ⟨vs, ⟨L, h1, h2, h3⟩, h4⟩ := h
    exact ⟨vs, ⟨L, fun p hp => by rw [upd_ne (hb.ne (h1 p hp) (fun z => z))]; exact h1 p hp, h2, h3⟩, h4.up u⟩
  | gdef k => exact h
theorem CR.new {b : Addr} {o : HO} {c : Cell} {a : Addr} (hb : H b = none) (h : CR G ρ H c a) : CR G ρ (L2.upd H b o) c a :=
  h.upd (by rw [hb]; exact True.intro) fun ho e => by obtain ⟨o', q⟩ := h.there ho; rw [e, hb] at q; cases q
/-- a tuple is made -/
theorem SR.new {st : Store} {b : Addr} {o : HO} (hb : H b = none) (S : SR G ρ H st) : SR G ρ (upd H b o) st :=
  ⟨S.len, S.nd, fun n c a h1 h2 => (S.cel n c a h1 h2).new hb⟩
theorem VR.mk_tup {b : Addr} {xs : List PV} {vs : List V} (hb : H b = none) (h : VRs K ρ H xs vs) : VR K ρ (upd H b (.tup vs)) (.tup xs) (.ref b) :=
  VR.tup_iff.mpr ⟨b, vs, rfl, .inl (.inl upd_same), h.up (up_new hb)⟩
theorem up_app {b : Addr} {o : HO} (hb : H b = none) : Up K ρ H (ρ ++ [b]) (upd H b o) :=
  ⟨(up_new (ρ := ρ) hb).t, fun n a h => by rw [List.getElem?_append_left (List.getElem?_eq_some_iff.mp h).1]; exact h⟩
theorem CR.up_ρ {c : Cell} {a : Addr} (u : Up G.K ρ H ρ' H) (h : CR G ρ H c a) : CR G ρ' H c a := by
  cases c with
  | lst xs => obtain ⟨vs, h1, h2⟩ := h; exact ⟨vs, h1, h2.up u⟩
  | rol xs => obtain ⟨vs, h1, h2⟩ := h; exact ⟨vs, h1, h2.up u⟩
  | dk kvs => obtain ⟨vs, h1, h2⟩ := h; exact ⟨vs, h1, h2.up u⟩
  | dn kvs => obtain ⟨nks, bs, vs, h1, e1, e2, h2, h3⟩ := h; exact ⟨nks, bs, vs, h1, e1, e2, h2.up u, h3.up u⟩
  | lk kvs => obtain ⟨q, nks, bs, vs, h1, e1, e2, h2, h3⟩ := h; exact ⟨q, nks, bs, vs, h1, e1, e2, h2.up u, h3.up u⟩
  | err c fs => obtain ⟨d, vs, h1, h2, h3⟩ := h; exact ⟨d, vs, h1, h2, h3.up u⟩
  | ins c fs => obtain ⟨d, vs, h1, h2, h3⟩ := h; exact ⟨d, vs, h1, h2, h3.up u⟩
  | clo k xs => obtain ⟨vs, h1, h2⟩ := h; exact ⟨vs, h1, h2.up u⟩
  | gdef k => exact h
theorem SR.get {st : Store} {n : Nat} {c : Cell} (S : SR G ρ H st) (h : st[n]? = some c) : ∃ a, ρ[n]? = some a ∧ CR G ρ H c a := by
  have h1 : n < ρ.length := by rw [S.len]; exact (List.getElem?_eq_some_iff.mp h).1
  exact ⟨ρ[n], List.getElem?_eq_getElem h1, S.cel n c _ h (List.getElem?_eq_getElem h1)⟩
theorem SR.getL {st : Store} {n : Nat} {xs : List PV} (S : SR G ρ H st) (h : st[n]? = some (.lst xs)) : ∃ a vs, ρ[n]? = some a ∧ H a = some (.lst vs) ∧ VRs G.K ρ H xs vs := by
  obtain ⟨a, h1, vs, h2, h3⟩ := S.get h
  exact ⟨a, vs, h1, h2, h3⟩
theorem app_get {α : Type} {l : List α} {c x : α} {n : Nat} (h : (l ++ [c])[n]? = some x) : (n < l.length ∧ l[n]? = some x) ∨ (n = l.length ∧ x = c) := by
  by_cases hn : n < l.length
  · rw [List.getElem?_append_left hn] at h
    exact .inl ⟨hn, h⟩
  · have e' : n = l.length := by
      have := (List.getElem?_eq_some_iff.mp h).1
      rw [List.length_append] at this
      simp at this
      omega
    subst e'
    simp at h
    exact .inr ⟨rfl, h.symm⟩
theorem SR.at_app {st : Store} {b a : Addr} {c x : Cell} {n : Nat} (S : SR G ρ H st) (h : (st ++ [c])[n]? = some x) (e : (ρ ++ [b])[n]? = some a) : (n < st.length ∧ st[n]? = some x ∧ ρ[n]? = some a) ∨ (n = st.length ∧ x = c ∧ a = b) := by
  rcases app_get h with ⟨h1, h2⟩ | ⟨h1, h2⟩
  · exact .inl ⟨h1, h2, by rw [List.getElem?_append_left (by rw [S.len]; exact h1)] at e; exact e⟩
  · subst h1
    rw [← S.len] at e
    simp at e
    exact .inr ⟨rfl, h2, e.symm⟩
theorem SR.pushC {st : Store} {b : Addr} {c : Cell} {o : HO} (hb : H b = none) (S : SR G ρ H st) (h : CR G (ρ ++ [b]) (L2.upd H b o) c b) : SR G (ρ ++ [b]) (L2.upd H b o) (st ++ [c]) := by
  have fresh : ∀ {n : Nat} {a : Addr} {x : Cell}, st[n]? = some x → ρ[n]? = some a → x.own = true → a ≠ b := by
    intro n a x h1 h2 nr z
    obtain ⟨o', q⟩ := (S.cel n x a h1 h2).there nr
    rw [z, hb] at q; cases q
  refine ⟨by rw [List.length_append, List.length_append, S.len]; rfl, ?_, fun n x a h1 h2 => ?_⟩
  · intro n m a xs' ys' h1 h2 o1 o2 e1 e2
    rcases S.at_app h1 e1 with ⟨_, p1, p2⟩ | ⟨p0, p1, p2⟩ <;> rcases S.at_app h2 e2 with ⟨_, q1, q2⟩ | ⟨q0, q1, q2⟩
    · exact S.nd n m a _ _ p1 q1 o1 o2 p2 q2
    · exact absurd q2 (fresh p1 p2 o1)
    · exact absurd p2 (fresh q1 q2 o2)
    · rw [p0, q0]
  · rcases S.at_app h1 h2 with ⟨_, p1, p2⟩ | ⟨p0, p1, p2⟩
    · exact CR.up_ρ ⟨fun _ _ h => h, (up_app (K := G.K) (o := o) hb).r⟩ ((S.cel n x a p1 p2).new hb)
    · rw [p1, p2]; exact h
/-- a cell that others may stand beside is put behind -/
theorem SR.pushN {st : Store} {b : Addr} {c : Cell} (S : SR G ρ H st) (hc : c.own = false) (h : CR G ρ H c b) : SR G (ρ ++ [b]) H (st ++ [c]) := by
  have ur : ∀ n a, ρ[n]? = some a → (ρ ++ [b])[n]? = some a := fun n a h => by rw [List.getElem?_append_left (List.getElem?_eq_some_iff.mp h).1]; exact h
  refine ⟨by rw [List.length_append, List.length_append, S.len]; rfl, ?_, fun n x a h1 h2 => ?_⟩
  · intro n m a xs' ys' h1 h2 o1 o2 e1 e2
    rcases S.at_app h1 e1 with ⟨_, p1, p2⟩ | ⟨p0, p1, p2⟩ <;> rcases S.at_app h2 e2 with ⟨_, q1, q2⟩ | ⟨q0, q1, q2⟩
    · exact S.nd n m a _ _ p1 q1 o1 o2 p2 q2
    · rw [q1, hc] at o2; cases o2
    · rw [p1, hc] at o1; cases o1
    · rw [p0, q0]
  · rcases S.at_app h1 h2 with ⟨_, p1, p2⟩ | ⟨p0, p1, p2⟩
    · exact CR.up_ρ ⟨fun _ _ h => h, ur⟩ (S.cel n x a p1 p2)
    · rw [p1, p2]; exact CR.up_ρ ⟨fun _ _ h => h, ur⟩ h
/-- a list is made -/
theorem SR.push {st : Store} {b : Addr} {xs : List PV} {vs : List V} (hb : H b = none) (S : SR G ρ H st) (h : VRs G.K ρ H xs vs) : SR G (ρ ++ [b]) (upd H b (.lst vs)) (st ++ [.lst xs]) := S.pushC hb ⟨vs, upd_same, h.up (up_app hb)⟩
/-- a dict is made -/
theorem SR.pushK {st : Store} {b : Addr} {kvs : List (Key × PV)} {vs : List V} (hb : H b = none) (S : SR G ρ H st) (h : VRs G.K ρ H (kvs.map (·.2)) vs) : SR G (ρ ++ [b]) (upd H b (.dK ((kvs.map (·.1)).zip vs))) (st ++ [.dk kvs]) := S.pushC hb ⟨vs, upd_same, h.up (up_app hb)⟩
theorem up_write {b : Addr} {ys zs : List V} (hb : H b = some (.lst ys)) : Up K ρ H ρ (upd H b (.lst zs)) :=
  ⟨fun a vs h => sqt_upd h (fun xs e => by rw [hb] at e; cases e) (fun u xs e => by rw [hb] at e; cases e), fun _ _ h => h⟩
theorem set_get {α : Type} {l : List α} {m n : Nat} {c x : α} (h : (l.set m c)[n]? = some x) : (n = m ∧ x = c) ∨ (n ≠ m ∧ l[n]? = some x) := by
  by_cases hn : n = m
  · subst hn
    have hs : n < l.length := by have := (List.getElem?_eq_some_iff.mp h).1; rw [List.length_set] at this; exact this
    rw [List.getElem?_set_self hs] at h
    exact .inl ⟨rfl, (Option.some.inj h).symm⟩
  · rw [List.getElem?_set_ne (Ne.symm hn)] at h
    exact .inr ⟨hn, h⟩
/-- a cell is written -/
theorem SR.writeC {st : Store} {m : Nat} {b : Addr} {c c' : Cell} {o : HO} (S : SR G ρ H st) (hz : st[m]? = some c) (ho : c.own = true) (hm : ρ[m]? = some b) (hb : Wr (H b)) (h : CR G ρ (L2.upd H b o) c' b) : SR G ρ (L2.upd H b o) (st.set m c') := by
  refine ⟨by rw [List.length_set]; exact S.len, fun n k a x y h1 h2 o1 o2 e1 e2 => ?_, fun n x a h1 h2 => ?_⟩
  · rcases set_get h1 with ⟨z1, _⟩ | ⟨_, p1⟩ <;> rcases set_get h2 with ⟨z2, _⟩ | ⟨_, p2⟩
    · rw [z1, z2]
    · subst z1; exact S.nd _ _ a _ _ hz p2 ho o2 e1 e2
    · subst z2; exact S.nd _ _ a _ _ p1 hz o1 ho e1 e2
    · exact S.nd _ _ a _ _ p1 p2 o1 o2 e1 e2
  · rcases set_get h1 with ⟨rfl, rfl⟩ | ⟨hn, h1⟩
    · rw [hm] at h2; cases h2; exact h
    · exact (S.cel n x a h1 h2).upd hb fun o1 e => hn (S.nd n m a _ _ h1 hz o1 ho h2 (by rw [e]; exact hm))
/-- a list is written -/
theorem SR.write {st : Store} {m : Nat} {b : Addr} {xs : List PV} {ys vs : List V} {zs : List PV} (S : SR G ρ H st) (hz : st[m]? = some (.lst zs)) (hm : ρ[m]? = some b) (hb : H b = some (.lst ys)) (h : VRs G.K ρ H xs vs) : SR G ρ (L2.upd H b (.lst vs)) (st.set m (.lst xs)) :=
  S.writeC hz rfl hm (by rw [hb]; exact True.intro) ⟨vs, upd_same, h.up (up_write hb)⟩
theorem up_writeK {b : Addr} {ys zs : List (Key × V)} (hb : H b = some (.dK ys)) : Up K ρ H ρ (upd H b (.dK zs)) :=
  ⟨fun a vs h => sqt_upd h (fun xs e => by rw [hb] at e; cases e) (fun u xs e => by rw [hb] at e; cases e), fun _ _ h => h⟩
/-- a dict is written -/
theorem SR.writeK {st : Store} {m : Nat} {b : Addr} {kvs : List (Key × PV)} {ys : List (Key × V)} {vs : List V} {zs : List (Key × PV)} (S : SR G ρ H st) (hz : st[m]? = some (.dk zs)) (hm : ρ[m]? = some b) (hb : H b = some (.dK ys)) (h : VRs G.K ρ H (kvs.map (·.2)) vs) : SR G ρ (L2.upd H b (.dK ((kvs.map (·.1)).zip vs))) (st.set m (.dk kvs)) :=
  S.writeC hz rfl hm (by rw [hb]; exact True.intro) ⟨vs, upd_same, h.up (up_writeK hb)⟩
theorem SR.getK {st : Store} {n : Nat} {kvs : List (Key × PV)} (S : SR G ρ H st) (h : st[n]? = some (.dk kvs)) : ∃ a vs, ρ[n]? = some a ∧ H a = some (.dK ((kvs.map (·.1)).zip vs)) ∧ VRs G.K ρ H (kvs.map (·.2)) vs := by
  obtain ⟨a, h1, vs, h2, h3⟩ := S.get h
  exact ⟨a, vs, h1, h2, h3⟩
end
end Sm

namespace Sm
open PySem PySem.Spec PyProof.Rows L2

inductive Res (α : Type) where
  | ok (a : α) (st : Store) | exc (c : Nat) (fs : List (Str × PV)) (st : Store) | no
namespace Res
def bind {α β : Type} : Res α → (α → Store → Res β) → Res β
  | .ok a st, f => f a st
  | .exc c fs st, _ => .exc c fs st
  | .no, _ => .no
end Res
/-- slots: none stands for anything -/
abbrev Slots := List (Option PV)
abbrev ME := Slots → Store → Res PV
abbrev MT := Slots → Store → Res Bool
abbrev MA := Slots → Store → Res (List PV)

/-- what is fixed: the written part, the exceptions' classes, what is wanted of what is raised -/
structure Wc where
  G : Gc
  W : Value → Option Addr → L2.St → Hp → Prop
abbrev Wc.K (C : Wc) : PySem.W.Frag := C.G.K
abbrev Wc.cl (C : Wc) : Nat → Addr := C.G.cl
def SlR (K : PySem.W.Frag) (ρ : List Addr) (H : Hp) (σh : Slots) (σ : L2.St) : Prop :=
  σh.length = σ.length ∧ ∀ (i : Nat) (x : PV), σh[i]? = some (some x) → ∃ v, σ[i]? = some (some v) ∧ VR K ρ H x v
/-- what is wanted behind -/
def Post {α : Type} (C : Wc) (ρ : List Addr) (H : Hp) (σ : L2.St) (B : List Addr → Hp → α → Prop) : Res α → Prop
  | .ok r st => ∀ ρ' H', Up C.K ρ H ρ' H' → SR C.G ρ' H' st → B ρ' H' r
  | .exc c fs st => ∀ ρ' H' d vs, Up C.K ρ H ρ' H' → SR C.G ρ' H' st → VRs C.K ρ' H' (fs.map (·.2)) vs → H' d = some (.xd ((fs.map (·.1)).zip vs)) → C.W (.ref (C.cl c)) (some d) σ H'
  | .no => False
section
variable {α β : Type} {C : Wc} {ρ ρ' ρ'' : List Addr} {H H' : Hp} {σ : L2.St} {st : Store} {K : PySem.W.Frag} {G : Gc}
theorem Post.up {B : List Addr → Hp → α → Prop} {m : Res α} (u : Up C.K ρ H ρ' H') (h : Post C ρ H σ B m) : Post C ρ' H' σ B m := by
  cases m with
  | ok r st => exact fun a b c d => h a b (u.trans c) d
  | exc c fs st => exact fun a b d vs q => h a b d vs (u.trans q)
  | no => exact h
theorem Post.imp {B B' : List Addr → Hp → α → Prop} {m : Res α} (h : Post C ρ H σ B m) (f : ∀ ρ' H' r st, m = .ok r st → Up C.K ρ H ρ' H' → SR C.G ρ' H' st → B ρ' H' r → B' ρ' H' r) : Post C ρ H σ B' m := by
  cases m with
  | ok r st => exact fun a b c d => f a b r st rfl c d (h a b c d)
  | exc c fs st => exact h
  | no => exact h
theorem Post.bind {B : List Addr → Hp → β → Prop} {m : Res α} {f : α → Store → Res β} (h : Post C ρ H σ B (m.bind f)) :
    Post C ρ H σ (fun ρ' H' a => ∃ st, SR C.G ρ' H' st ∧ Post C ρ' H' σ B (f a st)) m := by
  cases m with
  | ok r st => exact fun a b c d => ⟨st, d, Post.up c h⟩
  | exc c fs st => exact h
  | no => exact h
theorem SlR.up {σh : Slots} (u : Up K ρ H ρ' H') (h : SlR K ρ H σh σ) : SlR K ρ' H' σh σ := ⟨h.1, fun i x e => by
  obtain ⟨v, e1, e2⟩ := h.2 i x e
  exact ⟨v, e1, e2.up u⟩⟩
theorem SlR.set {σh : Slots} {x : PV} {v : V} (i : Nat) (h : SlR K ρ H σh σ) (r : VR K ρ H x v) : SlR K ρ H (σh.set i (some x)) (σ.set i (some v)) := ⟨by rw [List.length_set, List.length_set]; exact h.1, fun j y e => by
  by_cases hj : j = i
  · subst hj
    have hl : j < σh.length := by have := (List.getElem?_eq_some_iff.mp e).1; rw [List.length_set] at this; exact this
    rw [List.getElem?_set_self hl] at e
    cases e
    exact ⟨v, by rw [List.getElem?_set_self (by rw [← h.1]; exact hl)], r⟩
  · rw [List.getElem?_set_ne (Ne.symm hj)] at e
    obtain ⟨w, e1, e2⟩ := h.2 j y e
    exact ⟨w, by rw [List.getElem?_set_ne (Ne.symm hj)]; exact e1, e2⟩⟩
end
/-- an expression's reading -/
def tE (C : Wc) (m : ME) : TE := fun σ H Q => ∃ ρ st σh, SR C.G ρ H st ∧ SlR C.K ρ H σh σ ∧ Post C ρ H σ (fun ρ' H' r => ∀ v, VR C.K ρ' H' r v → Q v H') (m σh st)
def tT (C : Wc) (m : MT) : TT := fun σ H Q => ∃ ρ st σh, SR C.G ρ H st ∧ SlR C.K ρ H σh σ ∧ Post C ρ H σ (fun _ H' r => Q r H') (m σh st)
def tA (C : Wc) (m : MA) : TA := fun σ H Q => ∃ ρ st σh, SR C.G ρ H st ∧ SlR C.K ρ H σh σ ∧ Post C ρ H σ (fun ρ' H' r => ∀ vs, VRs C.K ρ' H' r vs → Q vs H') (m σh st)

section
variable {X : Cx} {C : Wc}
theorem _root_.L2.PE.weak {e : Expr} {t t' : TE} (h : PE X e t) (w : ∀ σ H Q, t' σ H Q → t σ H Q) : PE X e t' := ⟨fun pins s σ H Q I q => h.run pins s σ H Q I (w σ H Q q)⟩
theorem _root_.L2.PT.weak {e : Expr} {t t' : TT} (h : PT X e t) (w : ∀ σ H Q, t' σ H Q → t σ H Q) : PT X e t' := ⟨fun pins s σ H Q I q => h.run pins s σ H Q I (w σ H Q q)⟩
theorem _root_.L2.PW.weak {e : Expr} {t t' : TT} (h : PW X e t) (w : ∀ σ H Q, t' σ H Q → t σ H Q) : PW X e t' := ⟨fun wh pins s σ H Q I q => h.run wh pins s σ H Q I (w σ H Q q)⟩
theorem _root_.L2.PA.weak {e : List Expr} {t t' : TA} (h : PA X e t) (w : ∀ σ H Q, t' σ H Q → t σ H Q) : PA X e t' := ⟨fun pos pins s σ H Q I q => h.run pos pins s σ H Q I (w σ H Q q)⟩

/-! ### names, constants -/
def mVar (i : Nat) : ME := fun σ st => match σ[i]? with
  | some (some x) => .ok x st
  | _ => .no
def mC (x : PV) : ME := fun _ st => .ok x st
theorem e_var (i : Nat) {x : Str} {pos : Pos} (hN : X.N[i]? = some x := by rfl) (hv : Vis X.env.scope x := by first | exact Or.inl rfl | exact Or.inr (Or.inl rfl) | exact Or.inr (Or.inr rfl)) (hd : (x == ("__debug__" : Str)) = false := by decide)
    (hcd : (x == ("__classdict__" : Str)) = false := by decide) : PE X (.Name x pos) (tE C (mVar i)) := (pe_var hN hv hd hcd).weak fun σ H Q ⟨ρ, st, σh, S, R, p⟩ => by
  unfold mVar at p
  cases e : σh[i]? with
  | none => rw [e] at p; exact p.elim
  | some o =>
    cases o with
    | none => rw [e] at p; exact p.elim
    | some x =>
      rw [e] at p
      obtain ⟨v, h1, h2⟩ := R.2 i x e
      exact ⟨v, h1, p ρ H Up.refl S v h2⟩
theorem e_c {e : Expr} {x : PV} {v : V} (h : PE X e (tC v)) (r : ∀ ρ H, VR C.K ρ H x v) : PE X e (tE C (mC x)) := h.weak fun σ H Q ⟨ρ, st, σh, S, R, p⟩ => p ρ H Up.refl S v (r ρ H)
theorem e_int {i j pos} : PE X (.Constant (.int i) j pos) (tE C (mC (.int i))) := e_c pe_int fun _ _ => VR.int_iff.mpr rfl
theorem e_bl {b j pos} : PE X (.Constant (.bool b) j pos) (tE C (mC (.bl b))) := e_c pe_bl fun _ _ => VR.bl_iff.mpr rfl
theorem e_non {j pos} : PE X (.Constant .none j pos) (tE C (mC .non)) := e_c pe_non fun _ _ => VR.non_iff.mpr rfl
theorem e_str {x j pos} : PE X (.Constant (.str x) j pos) (tE C (mC (.str x))) := e_c pe_str fun _ _ => VR.str_iff.mpr rfl

/-! ### operations on two values -/
abbrev M2 := PV → PV → Store → Res PV
def mOp (f : M2) (a b : ME) : ME := fun σ st => (a σ st).bind fun x s1 => (b σ s1).bind fun y s2 => f x y s2
/-- W is not asked: an operation raises nothing -/
def rS (G : Gc) (f : M2) : R2 := fun x y H Q => ∃ ρ st xh yh, SR G ρ H st ∧ VR G.K ρ H xh x ∧ VR G.K ρ H yh y ∧ ∃ r st', f xh yh st = .ok r st' ∧ ∀ ρ' H' v, Up G.K ρ H ρ' H' → SR G ρ' H' st' → VR G.K ρ' H' r v → Q v H'
def Calm2 (f : M2) : Prop := ∀ x y st c fs st', f x y st ≠ .exc c fs st'
theorem op_run {f : M2} (hf : Calm2 f) {a b : ME} {σ : L2.St} {H : Hp} {Q : VK} (h : tE C (mOp f a b) σ H Q) : tOp (rS C.G f) (tE C a) (tE C b) σ H Q := by
  obtain ⟨ρ, st, σh, S, R, p⟩ := h
  refine ⟨ρ, st, σh, S, R, (Post.bind p).imp fun ρ1 H1 x s1 _ u1 S1 ⟨s1', S1', p1⟩ v hv => ?_⟩
  refine ⟨ρ1, s1', σh, S1', R.up u1, (Post.bind p1).imp fun ρ2 H2 y s2 _ u2 S2 ⟨s2', S2', p2⟩ w hw => ?_⟩
  refine ⟨ρ2, s2', x, y, S2', hv.up u2, hw, ?_⟩
  cases e : f x y s2' with
  | ok r st' =>
    rw [e] at p2
    exact ⟨r, st', rfl, fun ρ' H' v u S' r' => p2 ρ' H' u S' v r'⟩
  | exc c fs st' => exact absurd e (hf x y s2' c fs st')
  | no => rw [e] at p2; exact p2.elim
theorem e_op {op : Operator} {f : M2} {a b : Expr} {ma mb : ME} {pos : Pos} (hf : Calm2 f) (ho : OpR X (binaryOp op) (rS C.G f)) (ha : PE X a (tE C ma)) (hb : PE X b (tE C mb)) : PE X (.BinOp a op b pos) (tE C (mOp f ma mb)) :=
  (pe_op ho ha hb).weak fun _ _ _ h => op_run hf h
theorem e_cmp {op : CmpOp} {f : M2} {a b : Expr} {ma mb : ME} {pos : Pos} (hf : Calm2 f) (ho : OpR X (compareOp op) (rS C.G f)) (ha : PE X a (tE C ma)) (hb : PE X b (tE C mb)) (hm : behindInMarks op b = false) : PE X (.Compare a [op] [b] pos) (tE C (mOp f ma mb)) :=
  (pe_cmpR ho ha hb hm).weak fun _ _ _ h => op_run hf h
def mTest (a : ME) : MT := fun σ st => (a σ st).bind fun x s1 => match x with
  | .bl b => .ok b s1
  | _ => .no
theorem test_run {a : ME} {σ : L2.St} {H : Hp} {Q : Bool → Hp → Prop} {t : TE} (ht : ∀ σ H Q, tE C a σ H Q → t σ H Q) (h : tT C (mTest a) σ H Q) : tTest t σ H Q := by
  obtain ⟨ρ, st, σh, S, R, p⟩ := h
  refine ht _ _ _ ⟨ρ, st, σh, S, R, (Post.bind p).imp fun ρ1 H1 x s1 _ u1 S1 ⟨s1', S1', p1⟩ v hv => ?_⟩
  cases x with
  | bl b =>
    rw [VR.bl_iff] at hv
    exact ⟨b, hv, p1 ρ1 H1 Up.refl S1'⟩
  | _ => exact p1.elim
theorem t_cmp {op : CmpOp} {f : M2} {a b : Expr} {ma mb : ME} {pos : Pos} (hf : Calm2 f) (ho : OpR X (compareOp op) (rS C.G f)) (ha : PE X a (tE C ma)) (hb : PE X b (tE C mb)) (hm : behindInMarks op b = false) : PT X (.Compare a [op] [b] pos) (tT C (mTest (mOp f ma mb))) :=
  (pt_cmpR ho ha hb hm).weak fun _ _ _ h => test_run (fun _ _ _ q => op_run hf q) h
/-- a < b < c -/
def mChain (f g : M2) (a b c : ME) : ME := fun σ st => (a σ st).bind fun x s1 => (b σ s1).bind fun y s2 => (f x y s2).bind fun z s3 => match z with
  | .bl true => (c σ s3).bind fun w s4 => g y w s4
  | .bl false => .ok (.bl false) s3
  | _ => .no
theorem chain_run {f g : M2} (hf : Calm2 f) (hg : Calm2 g) {a b c : ME} {σ : L2.St} {H : Hp} {Q : VK} (h : tE C (mChain f g a b c) σ H Q) : tChain (rS C.G f) (rS C.G g) (tE C a) (tE C b) (tE C c) σ H Q := by
  obtain ⟨ρ, st, σh, S, R, p⟩ := h
  refine ⟨ρ, st, σh, S, R, (Post.bind p).imp fun ρ1 H1 x s1 _ u1 S1 ⟨s1', S1', p1⟩ v hv => ?_⟩
  refine ⟨ρ1, s1', σh, S1', R.up u1, (Post.bind p1).imp fun ρ2 H2 y s2 _ u2 S2 ⟨s2', S2', p2⟩ w hw => ?_⟩
  refine ⟨ρ2, s2', x, y, S2', hv.up u2, hw, ?_⟩
  cases e : f x y s2' with
  | exc c fs st' => exact absurd e (hf x y s2' c fs st')
  | no => rw [e] at p2; exact p2.elim
  | ok r st' =>
    rw [e] at p2
    refine ⟨r, st', rfl, fun ρ3 H3 z u3 S3 r3 => ?_⟩
    have p3 := Post.up u3 p2
    cases r with
    | bl b =>
      rw [VR.bl_iff] at r3
      refine ⟨b, r3, ?_⟩
      cases b with
      | false => exact iteF (p3 ρ3 H3 Up.refl S3 _ (VR.bl_iff.mpr rfl))
      | true =>
        refine iteT ?_
        have p3' : Post C ρ3 H3 σ (fun ρ' H' r => ∀ v, VR C.K ρ' H' r v → Q v H') ((c σh st').bind fun w s4 => g y w s4) := p3
        refine ⟨ρ3, st', σh, S3, R.up (u1.trans (u2.trans u3)), (Post.bind p3').imp fun ρ4 H4 w' s4 _ u4 S4 ⟨s4', S4', p4⟩ v' hv' => ?_⟩
        refine ⟨ρ4, s4', y, w', S4', hw.up (u3.trans u4), hv', ?_⟩
        cases e : g y w' s4' with
        | ok r st' => rw [e] at p4; exact ⟨r, st', rfl, fun ρ' H' v u S' r' => p4 ρ' H' u S' v r'⟩
        | exc c fs st' => exact absurd e (hg y w' s4' c fs st')
        | no => rw [e] at p4; exact p4.elim
    | _ => exact p3.elim
theorem e_chain {op op' : CmpOp} {f g : M2} {a b c : Expr} {ma mb mc : ME} {pos : Pos} (hf : Calm2 f) (hg : Calm2 g) (ho : OpR X (compareOp op) (rS C.G f)) (ho' : OpR X (compareOp op') (rS C.G g)) (ha : PE X a (tE C ma)) (hb : PE X b (tE C mb)) (hc : PE X c (tE C mc)) (hm : lastMarks [op, op'] [b, c] = false := by rfl) :
    PE X (.Compare a [op, op'] [b, c] pos) (tE C (mChain f g ma mb mc)) := (pe_chain ho ho' ha hb hc hm).weak fun _ _ _ h => chain_run hf hg h
theorem t_chain {op op' : CmpOp} {f g : M2} {a b c : Expr} {ma mb mc : ME} {pos : Pos} (hf : Calm2 f) (hg : Calm2 g) (ho : OpR X (compareOp op) (rS C.G f)) (ho' : OpR X (compareOp op') (rS C.G g)) (ha : PE X a (tE C ma)) (hb : PE X b (tE C mb)) (hc : PE X c (tE C mc)) (hm : lastMarks [op, op'] [b, c] = false := by rfl) :
    PT X (.Compare a [op, op'] [b, c] pos) (tT C (mTest (mChain f g ma mb mc))) := (pt_chain ho ho' ha hb hc hm).weak fun _ _ _ h => test_run (fun _ _ _ q => chain_run hf hg q) h

/-! ### and, or, not, if -/
def mAndT (a b : MT) : MT := fun σ st => (a σ st).bind fun c s1 => if c = true then b σ s1 else .ok false s1
def mOrT (a b : MT) : MT := fun σ st => (a σ st).bind fun c s1 => if c = true then .ok true s1 else b σ s1
def mNotT (a : MT) : MT := fun σ st => (a σ st).bind fun c s1 => .ok (!c) s1
theorem and_run {a b : MT} {σ : L2.St} {H : Hp} {Q : Bool → Hp → Prop} (h : tT C (mAndT a b) σ H Q) : tAnd (tT C a) (tT C b) σ H Q := by
  obtain ⟨ρ, st, σh, S, R, p⟩ := h
  refine ⟨ρ, st, σh, S, R, (Post.bind p).imp fun ρ1 H1 c s1 _ u1 S1 ⟨s1', S1', p1⟩ => ?_⟩
  cases c with
  | true => exact iteT ⟨ρ1, s1', σh, S1', R.up u1, p1⟩
  | false => exact iteF (p1 ρ1 H1 Up.refl S1')
theorem or_run {a b : MT} {σ : L2.St} {H : Hp} {Q : Bool → Hp → Prop} (h : tT C (mOrT a b) σ H Q) : tOr (tT C a) (tT C b) σ H Q := by
  obtain ⟨ρ, st, σh, S, R, p⟩ := h
  refine ⟨ρ, st, σh, S, R, (Post.bind p).imp fun ρ1 H1 c s1 _ u1 S1 ⟨s1', S1', p1⟩ => ?_⟩
  cases c with
  | false => exact iteF ⟨ρ1, s1', σh, S1', R.up u1, p1⟩
  | true => exact iteT (p1 ρ1 H1 Up.refl S1')
section
variable {a b c : Expr} {rest : List Expr} {ma mb mc : MT} {pos : Pos}
theorem w_and1 (ha : PT X a (tT C ma)) : PW X (.BoolOp .And [a] pos) (tT C ma) := pw_and1 ha
theorem w_or1 (ha : PT X a (tT C ma)) : PW X (.BoolOp .Or [a] pos) (tT C ma) := pw_or1 ha
theorem w_and (ha : PT X a (tT C ma)) (hb : PW X (.BoolOp .And (b :: rest) pos) (tT C mb)) : PW X (.BoolOp .And (a :: b :: rest) pos) (tT C (mAndT ma mb)) := (pw_and ha hb).weak fun _ _ _ h => and_run h
theorem w_or (ha : PT X a (tT C ma)) (hb : PW X (.BoolOp .Or (b :: rest) pos) (tT C mb)) : PW X (.BoolOp .Or (a :: b :: rest) pos) (tT C (mOrT ma mb)) := (pw_or ha hb).weak fun _ _ _ h => or_run h
theorem t_w (h : PW X a (tT C ma)) : PT X a (tT C ma) := h.pt
theorem t_not (ha : PT X a (tT C ma)) : PT X (.UnaryOp .Not a pos) (tT C (mNotT ma)) := (pt_not ha).weak fun σ H Q ⟨ρ, st, σh, S, R, p⟩ =>
  ⟨ρ, st, σh, S, R, (Post.bind p).imp fun ρ1 H1 c s1 _ u1 S1 ⟨s1', S1', p1⟩ => p1 ρ1 H1 Up.refl S1'⟩
end
/-- as values -/
def mAndV (a b : ME) : ME := fun σ st => (a σ st).bind fun x s1 => match x with
  | .bl c => if c = true then b σ s1 else .ok (.bl false) s1
  | _ => .no
def mOrV (a b : ME) : ME := fun σ st => (a σ st).bind fun x s1 => match x with
  | .bl c => if c = true then .ok (.bl true) s1 else b σ s1
  | _ => .no
def mNotV (a : ME) : ME := fun σ st => (a σ st).bind fun x s1 => match x with
  | .bl c => .ok (.bl (!c)) s1
  | _ => .no
def mIf (t : MT) (a b : ME) : ME := fun σ st => (t σ st).bind fun c s1 => if c = true then a σ s1 else b σ s1
section
variable {a b c : Expr} {rest : List Expr} {ma mb mc : ME} {mt : MT} {pos : Pos}
theorem e_one {op} (h : PE X a (tE C ma)) : PE X (.BoolOp op [a] pos) (tE C ma) := pe_one h
theorem e_and (ha : PE X a (tE C ma)) (hb : PE X (.BoolOp .And (b :: rest) pos) (tE C mb)) : PE X (.BoolOp .And (a :: b :: rest) pos) (tE C (mAndV ma mb)) := (pe_and ha hb).weak fun σ H Q ⟨ρ, st, σh, S, R, p⟩ =>
  ⟨ρ, st, σh, S, R, (Post.bind p).imp fun ρ1 H1 x s1 _ u1 S1 ⟨s1', S1', p1⟩ v hv => by
    cases x with
    | bl c =>
      rw [VR.bl_iff] at hv
      refine ⟨c, hv, ?_⟩
      cases c with
      | true => exact iteT ⟨ρ1, s1', σh, S1', R.up u1, p1⟩
      | false => exact iteF (p1 ρ1 H1 Up.refl S1' _ (VR.bl_iff.mpr rfl))
    | _ => exact p1.elim⟩
theorem e_or (ha : PE X a (tE C ma)) (hb : PE X (.BoolOp .Or (b :: rest) pos) (tE C mb)) : PE X (.BoolOp .Or (a :: b :: rest) pos) (tE C (mOrV ma mb)) := (pe_or ha hb).weak fun σ H Q ⟨ρ, st, σh, S, R, p⟩ =>
  ⟨ρ, st, σh, S, R, (Post.bind p).imp fun ρ1 H1 x s1 _ u1 S1 ⟨s1', S1', p1⟩ v hv => by
    cases x with
    | bl c =>
      rw [VR.bl_iff] at hv
      refine ⟨c, hv, ?_⟩
      cases c with
      | false => exact iteF ⟨ρ1, s1', σh, S1', R.up u1, p1⟩
      | true => exact iteT (p1 ρ1 H1 Up.refl S1' _ (VR.bl_iff.mpr rfl))
    | _ => exact p1.elim⟩
theorem e_not (ha : PE X a (tE C ma)) : PE X (.UnaryOp .Not a pos) (tE C (mNotV ma)) := (pe_not ha).weak fun σ H Q ⟨ρ, st, σh, S, R, p⟩ =>
  ⟨ρ, st, σh, S, R, (Post.bind p).imp fun ρ1 H1 x s1 _ u1 S1 ⟨s1', S1', p1⟩ v hv => by
    cases x with
    | bl c =>
      rw [VR.bl_iff] at hv
      exact ⟨c, hv, p1 ρ1 H1 Up.refl S1' _ (VR.bl_iff.mpr rfl)⟩
    | _ => exact p1.elim⟩
theorem e_if (hc : PT X c (tT C mt)) (ha : PE X a (tE C ma)) (hb : PE X b (tE C mb)) : PE X (.IfExp c a b pos) (tE C (mIf mt ma mb)) := (pe_ifExp hc ha hb).weak fun σ H Q ⟨ρ, st, σh, S, R, p⟩ =>
  ⟨ρ, st, σh, S, R, (Post.bind p).imp fun ρ1 H1 c s1 _ u1 S1 ⟨s1', S1', p1⟩ => by
    cases c with
    | true => exact iteT ⟨ρ1, s1', σh, S1', R.up u1, p1⟩
    | false => exact iteF ⟨ρ1, s1', σh, S1', R.up u1, p1⟩⟩
/-! ### a value's truth -/
def getL (st : Store) (n : Nat) : Option (List PV) := match st[n]? with
  | some (.lst xs) => some xs
  | some (.rol xs) => some xs
  | some (.dk _) => none
  | some (.dn _) => none
  | some (.lk _) => none
  | some (.err _ _) => none
  | some (.ins _ _) => none
  | some (.clo _ _) => none
  | some (.gdef _) => none
  | none => none
def truF (x : PV) (st : Store) : Option Bool := match x with
  | .non => some false
  | .bl b => some b
  | .int i => some (i != 0)
  | .str x => if x.length ≤ sizeLine then some ((x.length : Int) != 0) else none
  | .tup xs => some (!xs.isEmpty)
  | .ref n => (getL st n).map fun xs => !xs.isEmpty
def mTru (a : ME) : MT := fun σ st => (a σ st).bind fun x s1 => match truF x s1 with
  | some b => .ok b s1
  | none => .no
end
theorem getL_sql {G : Gc} {ρ : List Addr} {H : Hp} {st : Store} {n : Nat} {xs : List PV} (S : SR G ρ H st) (h : getL st n = some xs) : ∃ a vs, ρ[n]? = some a ∧ SqL G.K H a vs ∧ VRs G.K ρ H xs vs := by
  unfold getL at h
  cases e : st[n]? with
  | none => rw [e] at h; cases h
  | some c =>
    rw [e] at h
    obtain ⟨a, h1, h2⟩ := S.get e
    cases c with
    | lst ys =>
      cases h
      obtain ⟨vs, q, r⟩ := h2
      exact ⟨a, vs, h1, .inl (.inl q), r⟩
    | rol ys =>
      cases h
      obtain ⟨vs, q, r⟩ := h2
      exact ⟨a, vs, h1, q.sq, r⟩
    | dk ys => cases h
    | dn ys => cases h
    | lk ys => cases h
    | err c fs => cases h
    | ins c fs => cases h
    | clo k xs => cases h
    | gdef k => cases h
theorem VRs.empty {K : PySem.W.Frag} {ρ : List Addr} {H : Hp} {xs : List PV} {vs : List V} (h : VRs K ρ H xs vs) : vs.isEmpty = xs.isEmpty := by
  have e := h.length
  cases xs <;> cases vs <;> simp_all
theorem tru_of {ρ : List Addr} {H : Hp} {st : Store} {x : PV} {v : V} {b : Bool} (S : SR C.G ρ H st) (r : VR C.K ρ H x v) (h : truF x st = some b) : TruV C.K v H b := by
  unfold truF at h
  cases x with
  | non => rw [VR.non_iff] at r; subst r; cases h; rfl
  | bl c => rw [VR.bl_iff] at r; subst r; cases h; rfl
  | int i => rw [VR.int_iff] at r; subst r; cases h; rfl
  | str x =>
    rw [VR.str_iff] at r; subst r
    dsimp only at h
    split at h
    · cases h; exact ⟨by assumption, rfl⟩
    · cases h
  | tup xs =>
    rw [VR.tup_iff] at r
    obtain ⟨a, vs, rfl, q, r⟩ := r
    cases h
    exact .inr (.inl ⟨vs, q, by rw [r.empty]⟩)
  | ref n =>
    rw [VR.ref_iff] at r
    obtain ⟨a, rfl, q⟩ := r
    dsimp only at h
    cases e : getL st n with
    | none => rw [e] at h; cases h
    | some xs =>
      rw [e] at h
      cases h
      obtain ⟨a', vs, h1, h2, h3⟩ := getL_sql S e
      rw [q] at h1; cases h1
      exact .inl ⟨vs, h2, by rw [h3.empty]⟩
theorem t_tru {a : Expr} {ma : ME} (hK : C.K = X.K) (h : PE X a (tE C ma)) (he : ∀ whole, isTrue a X.env whole = (do let v ← whole; standAt a.pos; holding [v] (truthy v)) := by intro _; rfl) : PT X a (tT C (mTru ma)) :=
  (pt_truth h he).weak fun σ H Q ⟨ρ, st, σh, S, R, p⟩ => ⟨ρ, st, σh, S, R, (Post.bind p).imp fun ρ1 H1 x s1 _ u1 S1 ⟨s1', S1', p1⟩ v hv => by
    cases e : truF x s1' with
    | none => rw [e] at p1; exact p1.elim
    | some b =>
      rw [e] at p1
      exact ⟨b, hK ▸ tru_of S1' hv e, p1 ρ1 H1 Up.refl S1'⟩⟩

/-! ### displays, arguments -/
def mNil : MA := fun _ st => .ok [] st
def mCons (a : ME) (r : MA) : MA := fun σ st => (a σ st).bind fun x s1 => (r σ s1).bind fun xs s2 => .ok (x :: xs) s2
theorem a_nil : PA X [] (tA C mNil) := pa_nil.weak fun σ H Q ⟨ρ, st, σh, S, R, p⟩ => p ρ H Up.refl S [] (VRs.nil_iff.mpr rfl)
theorem a_cons {e : Expr} {es : List Expr} {m : ME} {r : MA} (h : PE X e (tE C m)) (hr : PA X es (tA C r)) (hs : starEach (e :: es) X.env = (false, eval e X.env) :: starEach es X.env := by rfl) : PA X (e :: es) (tA C (mCons m r)) :=
  (pa_cons h hr hs).weak fun σ H Q ⟨ρ, st, σh, S, R, p⟩ => ⟨ρ, st, σh, S, R, (Post.bind p).imp fun ρ1 H1 x s1 _ u1 S1 ⟨s1', S1', p1⟩ v hv =>
    ⟨ρ1, s1', σh, S1', R.up u1, (Post.bind p1).imp fun ρ2 H2 xs s2 _ u2 S2 ⟨s2', S2', p2⟩ vs hvs => p2 ρ2 H2 Up.refl S2' _ (VRs.cons_iff.mpr ⟨v, vs, rfl, hv.up u2, hvs⟩)⟩⟩
def mTup (a : MA) : ME := fun σ st => (a σ st).bind fun xs s1 => if xs.length ≤ sizeLine then .ok (.tup xs) s1 else .no
def mLst (a : MA) : ME := fun σ st => (a σ st).bind fun xs s1 => if xs.length ≤ sizeLine then .ok (.ref s1.length) (s1 ++ [.lst xs]) else .no
theorem VR.mk_ref {G : Gc} {ρ : List Addr} {H : Hp} {st : Store} {p : Addr} (S : SR G ρ H st) {H' : Hp} : VR G.K (ρ ++ [p]) H' (.ref st.length) (.ref p) :=
  VR.ref_iff.mpr ⟨p, rfl, by rw [List.getElem?_append_right (by rw [S.len]; exact Nat.le_refl _), S.len]; simp⟩
theorem e_tup {es : List Expr} {m : MA} {x1 : Nat} {pos : Pos} (h : PA X es (tA C m)) : PE X (.Tuple es x1 pos) (tE C (mTup m)) :=
  (pe_tup h).weak fun σ H Q ⟨ρ, st, σh, S, R, p⟩ => ⟨ρ, st, σh, S, R, (Post.bind p).imp fun ρ1 H1 xs s1 _ u1 S1 ⟨s1', S1', p1⟩ vs hv => by
    split at p1
    · refine ⟨by rw [hv.length]; assumption, fun q hq => p1 ρ1 _ (up_new hq) (S1'.new hq) _ (VR.mk_tup hq hv)⟩
    · exact p1.elim⟩
theorem e_lst {es : List Expr} {m : MA} {pos : Pos} (h : PA X es (tA C m)) : PE X (.List es pos) (tE C (mLst m)) :=
  (pe_lst h).weak fun σ H Q ⟨ρ, st, σh, S, R, p⟩ => ⟨ρ, st, σh, S, R, (Post.bind p).imp fun ρ1 H1 xs s1 _ u1 S1 ⟨s1', S1', p1⟩ vs hv => by
    split at p1
    · refine ⟨by rw [hv.length]; assumption, fun q hq => p1 _ _ (up_app hq) (S1'.push hq hv) _ (VR.mk_ref S1')⟩
    · exact p1.elim⟩
end
end Sm

namespace Sm
open PySem PySem.Spec PyProof.Rows L2

/-- a list that may be written -/
def getM (st : Store) (n : Nat) : Option (List PV) := match st[n]? with
  | some (.lst xs) => some xs
  | _ => none
theorem getM_at {G : Gc} {ρ : List Addr} {H : Hp} {st : Store} {n : Nat} {xs : List PV} (S : SR G ρ H st) (h : getM st n = some xs) : st[n]? = some (.lst xs) ∧ ∃ a vs, ρ[n]? = some a ∧ H a = some (.lst vs) ∧ VRs G.K ρ H xs vs := by
  unfold getM at h
  split at h
  · rename_i e
    cases h
    exact ⟨e, S.getL e⟩
  · cases h
def newL (xs : List PV) (st : Store) : Res PV := if xs.length ≤ sizeLine then .ok (.ref st.length) (st ++ [.lst xs]) else .no
section
variable {X : Cx} {K : PySem.W.Frag} {G : Gc}
theorem SR.newL {ρ : List Addr} {H : Hp} {st st' : Store} {xs : List PV} {vs : List V} {r : PV} {Q : VK} (S : SR G ρ H st) (hv : VRs G.K ρ H xs vs) (e : newL xs st = .ok r st') (k : ∀ ρ' H' v, Up G.K ρ H ρ' H' → SR G ρ' H' st' → VR G.K ρ' H' r v → Q v H') :
    vs.length ≤ sizeLine ∧ ∀ p, H p = none → Q (.ref p) (upd H p (.lst vs)) := by
  unfold Sm.newL at e
  split at e
  · cases e
    exact ⟨by rw [hv.length]; assumption, fun p hp => k _ _ _ (up_app hp) (S.push hp hv) (VR.mk_ref S)⟩
  · cases e

/-! ### + - * // % ** -/
def addF : M2 := fun x y st => match x, y with
  | .int i, .int j => .ok (.int (i + j)) st
  | .int i, .bl k => .ok (.int (i + b2i k)) st
  | .str a, .str b => if a.length + b.length ≤ sizeLine then .ok (.str (a ++ b)) st else .no
  | .tup xs, .tup ys => if xs.length + ys.length ≤ sizeLine then .ok (.tup (xs ++ ys)) st else .no
  | .ref m, .ref n => match getM st m, getM st n with
    | some xs, some ys => newL (xs ++ ys) st
    | _, _ => .no
  | _, _ => .no
theorem calm_add : Calm2 addF := fun x y st c fs st' e => by
  unfold addF at e
  split at e <;> (try split at e) <;> (try (unfold newL at e; split at e)) <;> cases e
theorem op_addS (hK : X.K = G.K) : OpR X (binaryOp .Add) (rS G addF) := by
  obtain ⟨GK, Gcl, GP, Gw⟩ := G; dsimp only at hK; subst hK
  intro pins s σ H x y v u Q I rx ry ⟨ρ, st, xh, yh, S, hx, hy, r, st', e, k⟩
  unfold addF at e
  split at e
  · cases e
    rw [VR.int_iff] at hx hy; subst hx hy
    exact op_add pins s σ H _ _ v u Q I rx ry ⟨_, _, rfl, rfl, k ρ H _ Up.refl S (VR.int_iff.mpr rfl)⟩
  · cases e
    rw [VR.int_iff] at hx; rw [VR.bl_iff] at hy; subst hx hy
    exact op_add_ib pins s σ H _ _ v u Q I rx ry ⟨_, _, rfl, rfl, k ρ H _ Up.refl S (VR.int_iff.mpr rfl)⟩
  · rw [VR.str_iff] at hx hy; subst hx hy
    split at e
    · cases e
      exact op_add_str pins s σ H _ _ v u Q I rx ry ⟨_, _, rfl, rfl, by assumption, k ρ H _ Up.refl S (VR.str_iff.mpr rfl)⟩
    · cases e
  · rename_i xs ys
    rw [VR.tup_iff] at hx hy
    obtain ⟨a, vs, rfl, h1, h2⟩ := hx
    obtain ⟨b, ws, rfl, g1, g2⟩ := hy
    split at e
    · cases e
      refine op_catA pins s σ H _ _ v u Q I rx ry ⟨a, b, vs, ws, rfl, rfl, h1, g1, by rw [h2.length, g2.length]; assumption, fun z => ?_, fun _ z => ?_, fun _ _ p hp => ?_⟩
      · subst z
        cases xs with
        | nil => exact k ρ H _ Up.refl S (VR.tup_iff.mpr ⟨b, ws, rfl, g1, g2⟩)
        | cons _ _ => have := h2.length; cases this
      · subst z
        cases ys with
        | nil => exact k ρ H _ Up.refl S (VR.tup_iff.mpr ⟨a, vs, rfl, h1, by rw [List.append_nil]; exact h2⟩)
        | cons _ _ => have := g2.length; cases this
      · exact k ρ _ _ (up_new hp) (S.new hp) (VR.mk_tup hp (h2.append g2))
    · cases e
  · rename_i m n
    split at e
    · rename_i xs ys em en
      obtain ⟨_, a, vs, a1, a2, a3⟩ := getM_at S em
      obtain ⟨_, b, ws, b1, b2, b3⟩ := getM_at S en
      rw [VR.ref_iff] at hx hy
      obtain ⟨a', rfl, q1⟩ := hx
      obtain ⟨b', rfl, q2⟩ := hy
      rw [a1] at q1; cases q1
      rw [b1] at q2; cases q2
      obtain ⟨l1, l2⟩ := S.newL (a3.append b3) e k
      exact op_cat pins s σ H _ _ v u Q I rx ry ⟨a, b, vs, ws, rfl, rfl, a2, b2, by rw [← List.length_append]; exact l1, l2⟩
    · cases e
  · cases e
def subF : M2 := fun x y st => match x, y with
  | .int i, .int j => .ok (.int (i - j)) st
  | _, _ => .no
theorem calm_sub : Calm2 subF := fun x y st c fs st' e => by unfold subF at e; split at e <;> cases e
theorem op_subS : OpR X (binaryOp .Sub) (rS G subF) := by
  intro pins s σ H x y v u Q I rx ry ⟨ρ, st, xh, yh, S, hx, hy, r, st', e, k⟩
  unfold subF at e
  split at e
  · cases e
    rw [VR.int_iff] at hx hy; subst hx hy
    exact op_sub pins s σ H _ _ v u Q I rx ry ⟨_, _, rfl, rfl, k ρ H _ Up.refl S (VR.int_iff.mpr rfl)⟩
  · cases e
instance {i j : Int} : Decidable (CMul i j) := by unfold CMul; infer_instance
instance {i j : Int} : Decidable (CDivN i j) := by unfold CDivN; infer_instance
instance {i j : Int} : Decidable (CDivW i j) := by unfold CDivW; infer_instance
def mulF : M2 := fun x y st => match x, y with
  | .int i, .int j => if CMul i j then .ok (.int (i * j)) st else .no
  | _, _ => .no
theorem calm_mul : Calm2 mulF := fun x y st c fs st' e => by unfold mulF at e; split at e <;> (try split at e) <;> cases e
theorem op_mulS : OpR X (binaryOp .Mult) (rS G mulF) := by
  intro pins s σ H x y v u Q I rx ry ⟨ρ, st, xh, yh, S, hx, hy, r, st', e, k⟩
  unfold mulF at e
  split at e
  · split at e
    · cases e
      rw [VR.int_iff] at hx hy; subst hx hy
      exact op_mul pins s σ H _ _ v u Q I rx ry ⟨_, _, rfl, rfl, by assumption, k ρ H _ Up.refl S (VR.int_iff.mpr rfl)⟩
    · cases e
  · cases e
def fdivF : M2 := fun x y st => match x, y with
  | .int i, .int j => if CDivN i j ∨ CDivW i j then .ok (.int (i.fdiv j)) st else .no
  | _, _ => .no
theorem calm_fdiv : Calm2 fdivF := fun x y st c fs st' e => by unfold fdivF at e; split at e <;> (try split at e) <;> cases e
theorem op_fdivS : OpR X (binaryOp .FloorDiv) (rS G fdivF) := by
  intro pins s σ H x y v u Q I rx ry ⟨ρ, st, xh, yh, S, hx, hy, r, st', e, k⟩
  unfold fdivF at e
  split at e
  · split at e
    · cases e
      rw [VR.int_iff] at hx hy; subst hx hy
      rename_i i j hc
      rcases hc with hc | hc
      · exact op_fdivN pins s σ H _ _ v u Q I rx ry ⟨_, _, rfl, rfl, hc, k ρ H _ Up.refl S (VR.int_iff.mpr rfl)⟩
      · exact op_fdivW pins s σ H _ _ v u Q I rx ry ⟨_, _, rfl, rfl, hc, by show Q (V.int (i / j)) H; rw [← Int.fdiv_eq_ediv_of_nonneg i (by have := hc.1; omega)]; exact k ρ H _ Up.refl S (VR.int_iff.mpr rfl)⟩
    · cases e
  · cases e
def modF : M2 := fun x y st => match x, y with
  | .int i, .int j => if j ≠ 0 then .ok (.int (i.fmod j)) st else .no
  | _, _ => .no
theorem calm_mod : Calm2 modF := fun x y st c fs st' e => by unfold modF at e; split at e <;> (try split at e) <;> cases e
theorem op_modS : OpR X (binaryOp .Mod) (rS G modF) := by
  intro pins s σ H x y v u Q I rx ry ⟨ρ, st, xh, yh, S, hx, hy, r, st', e, k⟩
  unfold modF at e
  split at e
  · split at e
    · cases e
      rw [VR.int_iff] at hx hy; subst hx hy
      exact op_modN pins s σ H _ _ v u Q I rx ry ⟨_, _, rfl, rfl, by assumption, k ρ H _ Up.refl S (VR.int_iff.mpr rfl)⟩
    · cases e
  · cases e
/-- the powers' room, with any base -/
def CPowW (i j : Int) : Prop := 0 ≤ j ∧ (i.natAbs.log2 + 1 : Int) * j ≤ 134217728
theorem pow_wide {prog : Program} {w : World} {A : Around} {E : Value → Shared → Prop} {s : Shared} {i j : Int} {t u : Tok} {Q : Value → Shared → Prop} (h : CPowW i j) (q : Q (.int (i ^ j.toNat) s.toks) { s with toks := s.toks + 1 }) :
    wpAny (model prog w) A (binaryOp .Pow (.int i t) (.int j u)) Q E s := by
  obtain ⟨h0, h1⟩ := h
  by_cases c0 : j = 0
  · subst c0
    have e0 : i ^ (0 : Int).toNat = 1 := Int.pow_zero i
    rw [e0] at q
    exact PySem.AutoIntOps.pow_0 (by decide) rfl q
  · by_cases c1 : (i == 0 || i == 1) = true
    · have ei : i ^ j.toNat = i := by
        have hj : 0 < j.toNat := by omega
        rw [Bool.or_eq_true, beq_iff_eq, beq_iff_eq] at c1
        rcases c1 with rfl | rfl
        · exact Int.zero_pow (by omega)
        · exact Int.one_pow ..
      rw [ei] at q
      exact PySem.AutoIntOps.pow_1 h0 (by simpa using c0) c1 q
    · by_cases c2 : (i == -1) = true
      · rw [beq_iff_eq] at c2
        subst c2
        have ei : (-1 : Int) ^ j.toNat = if (j % 2 == 0) = true then 1 else -1 := by
          obtain ⟨n, rfl⟩ : ∃ n : Nat, j = (n : Int) := ⟨j.toNat, by omega⟩
          clear c0 h1 h0 c1 q
          rw [Int.toNat_natCast]
          induction n with
          | zero => rfl
          | succ n ih =>
            rw [Int.pow_succ, ih]
            by_cases hp : ((n : Int) % 2 == 0) = true
            · rw [if_pos hp, if_neg (by simp at hp ⊢; omega)]; rfl
            · rw [if_neg hp, if_pos (by simp at hp ⊢; omega)]; rfl
        rw [ei] at q
        exact PySem.AutoIntOps.pow_2 h0 (by simpa using c0) c1 rfl q
      · refine PySem.AutoIntOps.pow_4 h0 (by simpa using c0) c1 c2 ?_ q
        intro z
        unfold Builtin.Int.intTooBig at z
        have z3 := of_decide_eq_true z
        have e : bitsLine = 134217728 := by decide
        rw [e] at z3
        have b : (Builtin.Int.intBits i : Int) ≤ (i.natAbs.log2 + 1 : Int) := by
          unfold Builtin.Int.intBits
          split <;> omega
        have := Int.mul_le_mul_of_nonneg_right b h0
        omega
def powOk (i j : Int) : Bool := decide (0 ≤ j) && Nat.ble ((i.natAbs.log2 + 1) * j.toNat) 134217728
theorem powOk_w {i j : Int} (h : powOk i j = true) : CPowW i j := by
  unfold powOk at h
  rw [Bool.and_eq_true, decide_eq_true_eq] at h
  have h2 := Nat.le_of_ble_eq_true h.2
  obtain ⟨k, rfl⟩ : ∃ k : Nat, j = (k : Int) := ⟨j.toNat, by omega⟩
  rw [Int.toNat_natCast] at h2
  refine ⟨h.1, ?_⟩
  have : ((i.natAbs.log2 : Int) + 1) * (k : Int) = (((i.natAbs.log2 + 1) * k : Nat) : Int) := by simp
  omega
def powF : M2 := fun x y st => match x, y with
  | .int i, .int j => if powOk i j = true then .ok (.int (i ^ j.toNat)) st else .no
  | _, _ => .no
theorem calm_pow : Calm2 powF := fun x y st c fs st' e => by unfold powF at e; split at e <;> (try split at e) <;> cases e
theorem op_powS : OpR X (binaryOp .Pow) (rS G powF) := by
  intro pins s σ H x y v u Q I rx ry ⟨ρ, st, xh, yh, S, hx, hy, r, st', e, k⟩
  unfold powF at e
  split at e
  · split at e
    · cases e
      rw [VR.int_iff] at hx hy; subst hx hy
      obtain ⟨t, rfl⟩ := rx
      obtain ⟨t', rfl⟩ := ry
      exact pow_wide (powOk_w (by assumption)) ⟨.int _, H, I.tok _, ⟨_, rfl⟩, k ρ H _ Up.refl S (VR.int_iff.mpr rfl)⟩
    · cases e
  · cases e
def negF (x : PV) (st : Store) : Res PV := match x with
  | .int i => .ok (.int (-i)) st
  | _ => .no
def mUn (f : PV → Store → Res PV) (a : ME) : ME := fun σ st => (a σ st).bind f
theorem e_neg {C : Wc} {a : Expr} {ma : ME} {pos : Pos} (ha : PE X a (tE C ma)) : PE X (.UnaryOp .USub a pos) (tE C (mUn negF ma)) :=
  (pe_un un_neg ha).weak fun σ H Q ⟨ρ, st, σh, S, R, p⟩ => ⟨ρ, st, σh, S, R, (Post.bind p).imp fun ρ1 H1 x s1 _ u1 S1 ⟨s1', S1', p1⟩ v hv => by
    cases x with
    | int i =>
      rw [VR.int_iff] at hv
      exact ⟨i, hv, p1 ρ1 H1 Up.refl S1' _ (VR.int_iff.mpr rfl)⟩
    | _ => exact p1.elim⟩
/-! ### < <= > >= -/
def ordF (g : Int → Int → Bool) : M2 := fun x y st => match x, y with
  | .int i, .int j => .ok (.bl (g i j)) st
  | _, _ => .no
theorem calm_ord {g : Int → Int → Bool} : Calm2 (ordF g) := fun x y st c fs st' e => by unfold ordF at e; split at e <;> cases e
theorem op_ord {op : CmpOp} {g : Int → Int → Bool} (h : OpR X (compareOp op) (rI0 fun i j => .bl (g i j))) : OpR X (compareOp op) (rS G (ordF g)) := by
  intro pins s σ H x y v u Q I rx ry ⟨ρ, st, xh, yh, S, hx, hy, r, st', e, k⟩
  unfold ordF at e
  split at e
  · cases e
    rw [VR.int_iff] at hx hy; subst hx hy
    exact h pins s σ H _ _ v u Q I rx ry ⟨_, _, rfl, rfl, k ρ H _ Up.refl S (VR.bl_iff.mpr rfl)⟩
  · cases e
abbrev ltF : M2 := ordF fun i j => decide (i < j)
abbrev leF : M2 := ordF fun i j => decide (i ≤ j)
abbrev gtF : M2 := ordF fun i j => decide (j < i)
abbrev geF : M2 := ordF fun i j => decide (j ≤ i)
theorem op_ltS : OpR X (compareOp .Lt) (rS G ltF) := op_ord op_lt
theorem op_leS : OpR X (compareOp .LtE) (rS G leF) := op_ord op_le
theorem op_gtS : OpR X (compareOp .Gt) (rS G gtF) := op_ord op_gt
theorem op_geS : OpR X (compareOp .GtE) (rS G geF) := op_ord op_ge

/-! ### data at any depth -/
mutual
def toDw (f : Nat → Option PyData) : PV → Option PyData
  | .non => some .none
  | .bl b => some (.bool b)
  | .int i => some (.int i)
  | .str x => some (.str x)
  | .tup xs => (toDsw f xs).map .tuple
  | .ref n => f n
def toDsw (f : Nat → Option PyData) : List PV → Option (List PyData)
  | [] => some []
  | x :: xs => (toDw f x).bind fun d => (toDsw f xs).map fun ds => d :: ds
end
def refD : Nat → Store → Nat → Option PyData
  | 0, _, _ => none
  | n + 1, st, k => (getL st k).bind fun xs => (toDsw (refD n st) xs).map .list
def toD (st : Store) (x : PV) : Option PyData := toDw (refD 4 st) x
def DpF (K : PySem.W.Frag) (ρ : List Addr) (H : Hp) (f : Nat → Option PyData) : Prop := ∀ n d, f n = some d → ∃ a, ρ[n]? = some a ∧ Dp K H (.ref a) d
mutual
theorem dp_of {ρ : List Addr} {H : Hp} {f : Nat → Option PyData} (hf : DpF K ρ H f) : ∀ {x : PV} {v : V} {d : PyData}, VR K ρ H x v → toDw f x = some d → Dp K H v d
  | .non, _, _, r, h => by rw [toDw] at h; cases h; rw [VR.non_iff] at r; subst r; exact .non
  | .bl b, _, _, r, h => by rw [toDw] at h; cases h; rw [VR.bl_iff] at r; subst r; exact .bl b
  | .int i, _, _, r, h => by rw [toDw] at h; cases h; rw [VR.int_iff] at r; subst r; exact .int i
  | .str x, _, _, r, h => by rw [toDw] at h; cases h; rw [VR.str_iff] at r; subst r; exact .str x
  | .tup xs, _, _, r, h => by
    rw [toDw] at h
    rw [VR.tup_iff] at r
    obtain ⟨a, vs, rfl, h1, h2⟩ := r
    cases e : toDsw f xs with
    | none => rw [e] at h; cases h
    | some ds => rw [e] at h; cases h; exact .tup h1 (dps_of hf h2 e)
  | .ref n, _, _, r, h => by
    rw [toDw] at h
    rw [VR.ref_iff] at r
    obtain ⟨a, rfl, h1⟩ := r
    obtain ⟨b, h2, h3⟩ := hf n _ h
    rw [h1] at h2; cases h2
    exact h3
theorem dps_of {ρ : List Addr} {H : Hp} {f : Nat → Option PyData} (hf : DpF K ρ H f) : ∀ {xs : List PV} {vs : List V} {ds : List PyData}, VRs K ρ H xs vs → toDsw f xs = some ds → DpAll K H vs ds
  | [], _, _, r, h => by rw [toDsw] at h; cases h; rw [VRs.nil_iff] at r; subst r; exact .nil
  | x :: xs, _, _, r, h => by
    rw [toDsw] at h
    rw [VRs.cons_iff] at r
    obtain ⟨v, vs, rfl, h1, h2⟩ := r
    cases e : toDw f x with
    | none => rw [e] at h; cases h
    | some d =>
      rw [e] at h
      cases e2 : toDsw f xs with
      | none => rw [e2] at h; cases h
      | some ds => rw [e2] at h; cases h; exact .cons (dp_of hf h1 e) (dps_of hf h2 e2)
end
theorem refD_ok {ρ : List Addr} {H : Hp} {st : Store} (S : SR G ρ H st) : ∀ n, DpF G.K ρ H (refD n st)
  | 0, _, _, h => by cases h
  | n + 1, k, d, h => by
    unfold refD at h
    cases e : getL st k with
    | none => rw [e] at h; cases h
    | some xs =>
      rw [e] at h
      obtain ⟨a, vs, h1, h2, h3⟩ := getL_sql S e
      cases e2 : toDsw (refD n st) xs with
      | none => rw [Option.bind_some, e2] at h; cases h
      | some ds => rw [Option.bind_some, e2] at h; cases h; exact ⟨a, h1, .lst h2 (dps_of (refD_ok S n) h3 e2)⟩
theorem toD_ok {ρ : List Addr} {H : Hp} {st : Store} {x : PV} {v : V} {d : PyData} (S : SR G ρ H st) (r : VR G.K ρ H x v) (h : toD st x = some d) : Dp G.K H v d := dp_of (refD_ok S 4) r h
def eqDF (neg : Bool) (x y : PV) (st : Store) : Res PV := match toD st x, toD st y with
  | some d, some e => if SeqAt.shaped d = true ∧ SeqAt.shaped e = true then .ok (.bl (if neg then !PyData.eqv d e else PyData.eqv d e)) st else .no
  | _, _ => .no
/-- == , != -/
def eqF (neg : Bool) : M2 := fun x y st => match x, y with
  | .int i, .int j => .ok (.bl (if neg then !decide (i = j) else decide (i = j))) st
  | .str i, .str j => .ok (.bl (if neg then !decide (i = j) else decide (i = j))) st
  | .bl i, .bl j => .ok (.bl (if neg then !decide (i = j) else decide (i = j))) st
  | x, y => eqDF neg x y st
theorem calm_eqD {neg x y st c fs st'} : eqDF neg x y st ≠ .exc c fs st' := fun e => by
  unfold eqDF at e
  split at e <;> (try split at e) <;> cases e
theorem calm_eq {neg : Bool} : Calm2 (eqF neg) := fun x y st c fs st' e => by
  unfold eqF at e
  split at e <;> first | cases e | exact calm_eqD e
theorem V.int_dec {i j : Int} : decide (V.int i = V.int j) = decide (i = j) := by
  by_cases h : i = j
  · subst h; simp
  · simp [h]
theorem V.str_dec {i j : Str} : decide (V.str i = V.str j) = decide (i = j) := by
  by_cases h : i = j
  · subst h; simp
  · simp [h]
theorem V.bl_dec {i j : Bool} : decide (V.bl i = V.bl j) = decide (i = j) := by
  cases i <;> cases j <;> rfl
theorem op_eqS (hK : X.K = G.K) (hu : X.A.units + 64 < cLine) : OpR X (compareOp .Eq) (rS G (eqF false)) := by
  obtain ⟨GK, Gcl, GP, Gw⟩ := G; dsimp only at hK; subst hK
  intro pins s σ H x y v u Q I rx ry ⟨ρ, st, xh, yh, S, hx, hy, r, st', e, k⟩
  unfold eqF at e
  split at e
  · cases e
    rw [VR.int_iff] at hx hy; subst hx hy
    exact op_eq pins s σ H _ _ v u Q I rx ry ⟨rfl, by rw [V.int_dec]; exact k ρ H _ Up.refl S (VR.bl_iff.mpr rfl)⟩
  · cases e
    rw [VR.str_iff] at hx hy; subst hx hy
    exact op_eq pins s σ H _ _ v u Q I rx ry ⟨rfl, by rw [V.str_dec]; exact k ρ H _ Up.refl S (VR.bl_iff.mpr rfl)⟩
  · cases e
    rw [VR.bl_iff] at hx hy; subst hx hy
    exact op_eq pins s σ H _ _ v u Q I rx ry ⟨rfl, by rw [V.bl_dec]; exact k ρ H _ Up.refl S (VR.bl_iff.mpr rfl)⟩
  · unfold eqDF at e
    split at e
    · rename_i d d' e1 e2
      split at e
      · rename_i hs
        cases e
        exact op_eqD hu pins s σ H _ _ v u Q I rx ry ⟨d, d', toD_ok S hx e1, toD_ok S hy e2, hs.1, hs.2, k ρ H _ Up.refl S (VR.bl_iff.mpr rfl)⟩
      · cases e
    · cases e
theorem op_neS (hK : X.K = G.K) (hu : X.A.units + 64 < cLine) : OpR X (compareOp .NotEq) (rS G (eqF true)) := by
  obtain ⟨GK, Gcl, GP, Gw⟩ := G; dsimp only at hK; subst hK
  intro pins s σ H x y v u Q I rx ry ⟨ρ, st, xh, yh, S, hx, hy, r, st', e, k⟩
  unfold eqF at e
  split at e
  · cases e
    rw [VR.int_iff] at hx hy; subst hx hy
    exact op_ne pins s σ H _ _ v u Q I rx ry ⟨rfl, by rw [V.int_dec]; exact k ρ H _ Up.refl S (VR.bl_iff.mpr rfl)⟩
  · cases e
    rw [VR.str_iff] at hx hy; subst hx hy
    exact op_ne pins s σ H _ _ v u Q I rx ry ⟨rfl, by rw [V.str_dec]; exact k ρ H _ Up.refl S (VR.bl_iff.mpr rfl)⟩
  · cases e
    rw [VR.bl_iff] at hx hy; subst hx hy
    exact op_ne pins s σ H _ _ v u Q I rx ry ⟨rfl, by rw [V.bl_dec]; exact k ρ H _ Up.refl S (VR.bl_iff.mpr rfl)⟩
  · unfold eqDF at e
    split at e
    · rename_i d d' e1 e2
      split at e
      · rename_i hs
        cases e
        exact op_neD hu pins s σ H _ _ v u Q I rx ry ⟨d, d', toD_ok S hx e1, toD_ok S hy e2, hs.1, hs.2, k ρ H _ Up.refl S (VR.bl_iff.mpr rfl)⟩
      · cases e
    · cases e
/-! ### in -/
def flatP : PV → Bool
  | .non | .bl _ | .int _ | .str _ => true
  | _ => false
def eqP : PV → PV → Bool
  | .non, .non => true
  | .bl a, .bl b => a == b
  | .bl a, .int b => (if a then 1 else 0) == b
  | .int a, .bl b => a == (if b then 1 else 0)
  | .int a, .int b => a == b
  | .str a, .str b => a == b
  | _, _ => false
theorem VR.flat {ρ : List Addr} {H : Hp} {x : PV} {v : V} (r : VR K ρ H x v) (h : flatP x = true) : flatV v = true := by
  cases x with
  | non => rw [VR.non_iff] at r; subst r; rfl
  | bl b => rw [VR.bl_iff] at r; subst r; rfl
  | int i => rw [VR.int_iff] at r; subst r; rfl
  | str x => rw [VR.str_iff] at r; subst r; rfl
  | _ => cases h
theorem VR.eqP {ρ : List Addr} {H : Hp} {x y : PV} {v w : V} (r : VR K ρ H x v) (q : VR K ρ H y w) (h : flatP x = true) (g : flatP y = true) : eqV v w = eqP x y := by
  cases x <;> first | (cases h; done) | (cases y <;> first | (cases g; done) | (simp only [VR.non_iff, VR.bl_iff, VR.int_iff, VR.str_iff] at r q; subst r q; rfl))
theorem VRs.flat {ρ : List Addr} {H : Hp} : ∀ {xs : List PV} {vs : List V}, VRs K ρ H xs vs → xs.all flatP = true → vs.all flatV = true
  | [], _, r, _ => by rw [VRs.nil_iff] at r; subst r; rfl
  | x :: xs, _, r, h => by
    rw [VRs.cons_iff] at r
    obtain ⟨v, vs, rfl, h1, h2⟩ := r
    rw [List.all_cons, Bool.and_eq_true] at h ⊢
    exact ⟨h1.flat h.1, VRs.flat h2 h.2⟩
theorem VRs.inV {ρ : List Addr} {H : Hp} {x : PV} {v : V} (r : VR K ρ H x v) (h : flatP x = true) : ∀ {xs : List PV} {vs : List V}, VRs K ρ H xs vs → xs.all flatP = true → L2.inV v vs = xs.any fun y => Sm.eqP y x
  | [], _, r, _ => by rw [VRs.nil_iff] at r; subst r; rfl
  | x :: xs, _, q, g => by
    rw [VRs.cons_iff] at q
    obtain ⟨v, vs, rfl, h1, h2⟩ := q
    rw [List.all_cons, Bool.and_eq_true] at g
    have ih := VRs.inV r h h2 g.2
    unfold L2.inV at ih ⊢
    rw [List.any_cons, List.any_cons, ih, h1.eqP r g.1 h]
def inF (neg : Bool) : M2 := fun x y st => match y with
  | .tup ys => if flatP x = true ∧ ys.all flatP = true then .ok (.bl (if neg then !(ys.any fun y => eqP y x) else ys.any fun y => eqP y x)) st else .no
  | .ref n => match toD st x, toD st (.ref n) with
    | some d, some (.list ds) => if SeqAt.shaped d = true ∧ SeqAt.shaped (.list ds) = true then .ok (.bl (if neg then !(ds.any fun z => PyData.eqv z d) else ds.any fun z => PyData.eqv z d)) st else .no
    | _, _ => .no
  | .str z => match x with
    | .str y => .ok (.bl (if neg then !(!(Builtin.Str.occurrences z y 0 z.length 1).isEmpty) else (!(Builtin.Str.occurrences z y 0 z.length 1).isEmpty))) st
    | _ => .no
  | _ => .no
theorem calm_in {neg : Bool} : Calm2 (inF neg) := fun x y st c fs st' e => by
  unfold inF at e
  split at e <;> (try split at e) <;> (try split at e) <;> cases e
theorem op_inS (hK : X.K = G.K) (hu : X.A.units + 65 < cLine) : OpR X (compareOp .In) (rS G (inF false)) := by
  obtain ⟨GK, Gcl, GP, Gw⟩ := G; dsimp only at hK; subst hK
  intro pins s σ H x y v u Q I rx ry ⟨ρ, st, xh, yh, S, hx, hy, r, st', e, k⟩
  unfold inF at e
  split at e
  · rw [VR.tup_iff] at hy
    obtain ⟨a, vs, rfl, h1, h2⟩ := hy
    split at e
    · rename_i hs
      cases e
      exact op_in_seq pins s σ H _ _ v u Q I rx ry ⟨a, vs, rfl, .inr h1, hx.flat hs.1, h2.flat hs.2, by rw [VRs.inV hx hs.1 h2 hs.2]; exact k ρ H _ Up.refl S (VR.bl_iff.mpr rfl)⟩
    · cases e
  · split at e
    · rename_i d ds e1 e2
      split at e
      · rename_i hs
        cases e
        exact op_inD hu pins s σ H _ _ v u Q I rx ry ⟨d, ds, toD_ok S hx e1, toD_ok S hy e2, hs.1, hs.2, k ρ H _ Up.refl S (VR.bl_iff.mpr rfl)⟩
      · cases e
    · cases e
  · split at e
    · cases e
      rw [VR.str_iff] at hx hy; subst hx hy
      exact op_in_str pins s σ H _ _ v u Q I rx ry ⟨_, _, rfl, rfl, k ρ H _ Up.refl S (VR.bl_iff.mpr rfl)⟩
    · cases e
  · cases e
theorem op_notInS (hK : X.K = G.K) (hu : X.A.units + 65 < cLine) : OpR X (compareOp .NotIn) (rS G (inF true)) := by
  obtain ⟨GK, Gcl, GP, Gw⟩ := G; dsimp only at hK; subst hK
  intro pins s σ H x y v u Q I rx ry ⟨ρ, st, xh, yh, S, hx, hy, r, st', e, k⟩
  unfold inF at e
  split at e
  · rw [VR.tup_iff] at hy
    obtain ⟨a, vs, rfl, h1, h2⟩ := hy
    split at e
    · rename_i hs
      cases e
      exact op_notIn_seq pins s σ H _ _ v u Q I rx ry ⟨a, vs, rfl, .inr h1, hx.flat hs.1, h2.flat hs.2, by rw [VRs.inV hx hs.1 h2 hs.2]; exact k ρ H _ Up.refl S (VR.bl_iff.mpr rfl)⟩
    · cases e
  · split at e
    · rename_i d ds e1 e2
      split at e
      · rename_i hs
        cases e
        exact op_notInD hu pins s σ H _ _ v u Q I rx ry ⟨d, ds, toD_ok S hx e1, toD_ok S hy e2, hs.1, hs.2, k ρ H _ Up.refl S (VR.bl_iff.mpr rfl)⟩
      · cases e
    · cases e
  · split at e
    · cases e
      rw [VR.str_iff] at hx hy; subst hx hy
      exact op_notin_str pins s σ H _ _ v u Q I rx ry ⟨_, _, rfl, rfl, k ρ H _ Up.refl S (VR.bl_iff.mpr rfl)⟩
    · cases e
  · cases e
end
end Sm

namespace Sm
open PySem PySem.Spec PyProof.Rows L2

/-- how a statement ends -/
inductive Fl where
  | nx (σ : Slots) (st : Store) | rt (x : PV) (st : Store) | bk (σ : Slots) (st : Store) | ct (σ : Slots) (st : Store)
  | exc (c : Nat) (fs : List (Str × PV)) (σ : Slots) (st : Store) | no
abbrev MS := Slots → Store → Fl
def Res.fl {α : Type} (σ : Slots) : Res α → (α → Store → Fl) → Fl
  | .ok a st, f => f a st
  | .exc c fs st, _ => .exc c fs σ st
  | .no, _ => .no
def PostS (C : Wc) (ρ : List Addr) (H : Hp) (D : Ends) : Fl → Prop
  | .nx σh st => ∀ ρ' H' τ, Up C.K ρ H ρ' H' → SR C.G ρ' H' st → SlR C.K ρ' H' σh τ → D.nx τ H'
  | .bk σh st => ∀ ρ' H' τ, Up C.K ρ H ρ' H' → SR C.G ρ' H' st → SlR C.K ρ' H' σh τ → D.bk τ H'
  | .ct σh st => ∀ ρ' H' τ, Up C.K ρ H ρ' H' → SR C.G ρ' H' st → SlR C.K ρ' H' σh τ → D.ct τ H'
  | .rt x st => ∀ ρ' H' v, Up C.K ρ H ρ' H' → SR C.G ρ' H' st → VR C.K ρ' H' x v → D.rt v H'
  | .exc c fs σh st => ∀ ρ' H' τ d vs, Up C.K ρ H ρ' H' → SR C.G ρ' H' st → SlR C.K ρ' H' σh τ → VRs C.K ρ' H' (fs.map (·.2)) vs → H' d = some (.xd ((fs.map (·.1)).zip vs)) → C.W (.ref (C.cl c)) (some d) τ H'
  | .no => False
def tS (C : Wc) (m : MS) : TS := fun D σ H => ∃ ρ st σh, SR C.G ρ H st ∧ SlR C.K ρ H σh σ ∧ PostS C ρ H D (m σh st)
section
variable {α : Type} {C : Wc} {ρ ρ' : List Addr} {H H' : Hp} {σ : L2.St} {D : Ends} {σh : Slots}
theorem PostS.up {m : Fl} (u : Up C.K ρ H ρ' H') (h : PostS C ρ H D m) : PostS C ρ' H' D m := by
  cases m with
  | nx _ _ => exact fun a b c d => h a b c (u.trans d)
  | bk _ _ => exact fun a b c d => h a b c (u.trans d)
  | ct _ _ => exact fun a b c d => h a b c (u.trans d)
  | rt _ _ => exact fun a b c d => h a b c (u.trans d)
  | exc _ _ _ _ => exact fun a b c d e q => h a b c d e (u.trans q)
  | no => exact h
/-- an expression ahead -/
theorem PostS.fl {m : Res α} {f : α → Store → Fl} (R : SlR C.K ρ H σh σ) (h : PostS C ρ H D (m.fl σh f)) : Post C ρ H σ (fun ρ' H' a => ∃ st, SR C.G ρ' H' st ∧ PostS C ρ' H' D (f a st)) m := by
  cases m with
  | ok r st => exact fun a b c d => ⟨st, d, PostS.up c h⟩
  | exc c fs st => exact fun a b d vs u S r e => h a b σ d vs u S (R.up u) r e
  | no => exact h
end
section
variable {X : Cx} {C : Wc}
theorem _root_.L2.PS.weak {e : Stmt} {t t' : TS} (h : PS X e t) (w : ∀ D σ H, t' D σ H → t D σ H) : PS X e t' := ⟨fun pins s σ H D I q => h.run pins s σ H D I (w D σ H q)⟩
theorem _root_.L2.PSs.weak {e : List Stmt} {t t' : TS} (h : PSs X e t) (w : ∀ D σ H, t' D σ H → t D σ H) : PSs X e t' := ⟨fun pins s σ H D I q => h.run pins s σ H D I (w D σ H q)⟩
theorem _root_.L2.PG.weak {e : Expr} {t t' : TG} (h : PG X e t) (w : ∀ v σ H Q, t' v σ H Q → t v σ H Q) : PG X e t' := ⟨fun pins s σ H v u Q I r q => h.run pins s σ H v u Q I r (w v σ H Q q)⟩
theorem _root_.L2.PGs.weak {e : List Expr} {t t' : TGs} (h : PGs X e t) (w : ∀ v σ H Q, t' v σ H Q → t v σ H Q) : PGs X e t' := ⟨fun pins s σ H v u Q I r q => h.run pins s σ H v u Q I r (w v σ H Q q)⟩
theorem _root_.L2.PI.weak {tg e : Expr} {t t' : TI} (h : PI X tg e t) (w : ∀ σ H R, t' σ H R → t σ H R) : PI X tg e t' := ⟨fun pins s σ H R I q => h.run pins s σ H R I (w σ H R q)⟩

/-! ### blocks -/
def mNext : MS := fun σ st => .nx σ st
def mSeq (a b : MS) : MS := fun σ st => match a σ st with
  | .nx σ' st' => b σ' st'
  | x => x
theorem ss_nil : PSs X [] (tS C mNext) := pss_nil.weak fun D σ H ⟨ρ, st, σh, S, R, p⟩ => p ρ H σ Up.refl S R
theorem ss_one {s : Stmt} {m : MS} (h : PS X s (tS C m)) : PSs X [s] (tS C m) := pss_one h
theorem ss_cons {s : Stmt} {rest : List Stmt} {a b : MS} (h : PS X s (tS C a)) (hr : PSs X rest (tS C b)) : PSs X (s :: rest) (tS C (mSeq a b)) :=
  (pss_cons h hr).weak fun D σ H ⟨ρ, st, σh, S, R, p⟩ => ⟨ρ, st, σh, S, R, by
    unfold mSeq at p
    cases e : a σh st with
    | nx σ' st' => rw [e] at p; exact fun ρ' H' τ u S' R' => ⟨ρ', st', σ', S', R', PostS.up u p⟩
    | rt x st' => rw [e] at p; exact p
    | bk _ _ => rw [e] at p; exact p
    | ct _ _ => rw [e] at p; exact p
    | exc _ _ _ _ => rw [e] at p; exact p
    | no => rw [e] at p; exact p⟩
def mBreak : MS := fun σ st => .bk σ st
def mCont : MS := fun σ st => .ct σ st
theorem s_break {pos} : PS X (.Break pos) (tS C mBreak) := ps_break.weak fun D σ H ⟨ρ, st, σh, S, R, p⟩ => p ρ H σ Up.refl S R
theorem s_cont {pos} : PS X (.Continue pos) (tS C mCont) := ps_continue.weak fun D σ H ⟨ρ, st, σh, S, R, p⟩ => p ρ H σ Up.refl S R
theorem s_pass {pos} : PS X (.Pass pos) (tS C mNext) := ps_pass.weak fun D σ H ⟨ρ, st, σh, S, R, p⟩ => p ρ H σ Up.refl S R
def mRet (a : ME) : MS := fun σ st => (a σ st).fl σ fun x s1 => .rt x s1
theorem s_ret {e : Expr} {m : ME} {pos : Pos} (h : PE X e (tE C m)) : PS X (.Return (some e) pos) (tS C (mRet m)) :=
  (ps_ret h).weak fun D σ H ⟨ρ, st, σh, S, R, p⟩ => ⟨ρ, st, σh, S, R, (PostS.fl R p).imp fun ρ1 H1 x s1 _ u1 S1 ⟨s1', S1', p1⟩ v hv => p1 ρ1 H1 v Up.refl S1' hv⟩
def mRetN : MS := fun _ st => .rt .non st
theorem s_retN {pos} : PS X (.Return none pos) (tS C mRetN) := ps_retN.weak fun D σ H ⟨ρ, st, σh, S, R, p⟩ => p ρ H _ Up.refl S (VR.non_iff.mpr rfl)
def mDrop (a : ME) : MS := fun σ st => (a σ st).fl σ fun _ s1 => .nx σ s1
theorem s_expr {e : Expr} {m : ME} {pos : Pos} (h : PE X e (tE C m)) (hs : swapsWith e none pos.line X.env = pure false := by rfl) : PS X (.Expr e pos) (tS C (mDrop m)) :=
  (ps_expr h hs).weak fun D σ H ⟨ρ, st, σh, S, R, p⟩ => ⟨ρ, st, σh, S, R, (PostS.fl R p).imp fun ρ1 H1 x s1 _ u1 S1 ⟨s1', S1', p1⟩ v hv => p1 ρ1 H1 σ Up.refl S1' (R.up u1)⟩
def mIfS (t : MT) (a b : MS) : MS := fun σ st => (t σ st).fl σ fun c s1 => if c = true then a σ s1 else b σ s1
theorem s_if {c : Expr} {p q : List Stmt} {t : MT} {a b : MS} {pos : Pos} (hc : PT X c (tT C t)) (ha : PSs X p (tS C a)) (hb : PSs X q (tS C b)) : PS X (.If c p q pos) (tS C (mIfS t a b)) :=
  (ps_if hc ha hb).weak fun D σ H ⟨ρ, st, σh, S, R, p⟩ => ⟨ρ, st, σh, S, R, (PostS.fl R p).imp fun ρ1 H1 c s1 _ u1 S1 ⟨s1', S1', p1⟩ => by
    cases c with
    | true => exact iteT ⟨ρ1, s1', σh, S1', R.up u1, p1⟩
    | false => exact iteF ⟨ρ1, s1', σh, S1', R.up u1, p1⟩⟩

/-! ### targets -/
abbrev MG := PV → Slots → Store → Option (Slots × Store)
abbrev MGs := List PV → Slots → Store → Option (Slots × Store)
def PostG (C : Wc) (vs : List Nat) (ρ : List Addr) (H : Hp) (σ : L2.St) (Q : L2.St → Hp → Prop) : Option (Slots × Store) → Prop
  | some (σ', st') => ∀ ρ' H' τ, Up C.K ρ H ρ' H' → SR C.G ρ' H' st' → SlR C.K ρ' H' σ' τ → wipe τ vs = wipe σ vs → Q τ H'
  | none => False
def tG (C : Wc) (vs : List Nat) (g : MG) : TG := fun v σ H Q => ∃ ρ st σh x, SR C.G ρ H st ∧ SlR C.K ρ H σh σ ∧ VR C.K ρ H x v ∧ PostG C vs ρ H σ Q (g x σh st)
def tGs (C : Wc) (vs : List Nat) (g : MGs) : TGs := fun v σ H Q => ∃ ρ st σh x, SR C.G ρ H st ∧ SlR C.K ρ H σh σ ∧ VRs C.K ρ H x v ∧ PostG C vs ρ H σ Q (g x σh st)
theorem wipe_set {vs : List Nat} {σ : L2.St} {i : Nat} {o : Option V} (h : i ∈ vs) : wipe (σ.set i o) vs = wipe σ vs := by
  induction vs with
  | nil => cases h
  | cons j vs ih =>
    unfold wipe
    by_cases hj : i = j
    · subst hj
      by_cases hi : i ∈ vs
      · rw [ih hi]
      · have key : ∀ ws : List Nat, (wipe (σ.set i o) ws).set i none = (wipe σ ws).set i none := by
          intro ws
          induction ws with
          | nil => unfold wipe; rw [List.set_set]
          | cons w ws ih2 =>
            unfold wipe
            by_cases hw : w = i
            · subst hw; rw [List.set_set, List.set_set]; exact ih2
            · rw [List.set_comm _ _ hw, List.set_comm _ _ hw, ih2]
        exact key vs
    · have hi : i ∈ vs := by
        rcases List.mem_cons.mp h with e | e
        · exact absurd e hj
        · exact e
      rw [ih hi]
def gNm (i : Nat) : MG := fun x σ st => some (σ.set i (some x), st)
theorem g_name {i : Nat} {x : Str} {pos : Pos} {vs : List Nat} (hN : X.N.Nodup) (hi : X.N[i]? = some x) (hv : i ∈ vs) (hx : Loc X.env.scope x := by first | exact Or.inl rfl | exact Or.inr rfl) (hf : X.fn x = true ∨ X.env.scope.names.lookup x = some .local := by first | exact .inl rfl | exact .inr rfl) :
    PG X (.Name x pos) (tG C vs (gNm i)) := (pg_name hN hi hx hf).weak fun v σ H Q ⟨ρ, st, σh, x, S, R, r, p⟩ => p ρ H _ Up.refl S (R.set i r) (wipe_set hv)
def gNil : MGs := fun xs σ st => match xs with
  | [] => some (σ, st)
  | _ => none
def gCons (g : MG) (r : MGs) : MGs := fun xs σ st => match xs with
  | x :: ys => (g x σ st).bind fun (σ', st') => r ys σ' st'
  | [] => none
theorem gs_nil {vs : List Nat} : PGs X [] (tGs C vs gNil) := pgs_nil.weak fun v σ H Q ⟨ρ, st, σh, x, S, R, r, p⟩ => by
  cases x with
  | nil => rw [VRs.nil_iff] at r; exact ⟨r, p ρ H σ Up.refl S R rfl⟩
  | cons _ _ => exact p.elim
theorem gs_cons {e : Expr} {es : List Expr} {g : MG} {r : MGs} {vs : List Nat} (h : PG X e (tG C vs g)) (hr : PGs X es (tGs C vs r)) (ha : (assignEach (e :: es) X.env).map (·.2) = assign e X.env :: (assignEach es X.env).map (·.2) := by rfl) : PGs X (e :: es) (tGs C vs (gCons g r)) :=
  (pgs_cons h hr ha).weak fun v σ H Q ⟨ρ, st, σh, x, S, R, q, p⟩ => by
    cases x with
    | nil => exact p.elim
    | cons y ys =>
      rw [VRs.cons_iff] at q
      obtain ⟨w, ws, rfl, q1, q2⟩ := q
      refine ⟨w, ws, rfl, ρ, st, σh, y, S, R, q1, ?_⟩
      unfold gCons at p
      dsimp only at p
      cases e : g y σh st with
      | none => rw [e] at p; exact p.elim
      | some z =>
        rw [e] at p
        obtain ⟨σ', st'⟩ := z
        refine fun ρ' H' τ u S' R' hw => ⟨ρ', st', σ', ys, S', R', q2.up u, ?_⟩
        cases e2 : r ys σ' st' with
        | none => rw [Option.bind_some, e2] at p; exact p.elim
        | some z2 => rw [Option.bind_some, e2] at p; exact fun ρ2 H2 τ2 u2 S2 R2 hw2 => p ρ2 H2 τ2 (u.trans u2) S2 R2 (hw2.trans hw)
def gTp (n : Nat) (g : MGs) : MG := fun x σ st => match x with
  | .tup xs => if xs.length = n then g xs σ st else none
  | _ => none
theorem g_tup {es : List Expr} {k n : Nat} {pos : Pos} {g : MGs} {vs : List Nat} (hK : X.K = C.K) (hc : X.calm = true) (h : PGs X es (tGs C vs g)) (hn : (assignEach es X.env).length = n := by rfl) (hst : (assignEach es X.env).findIdx? (·.1) = none := by rfl) : PG X (.Tuple es k pos) (tG C vs (gTp n g)) :=
  (pg_tup hc h hn hst).weak fun v σ H Q ⟨ρ, st, σh, x, S, R, q, p⟩ => by
    unfold gTp at p
    split at p
    · rw [VR.tup_iff] at q
      obtain ⟨a, ws, rfl, q1, q2⟩ := q
      split at p
      · exact ⟨a, ws, rfl, hK ▸ q1, by rw [q2.length]; assumption, ρ, st, σh, _, S, R, q2, p⟩
      · exact p.elim
    · exact p.elim
/-- xs[i] = v -/
def gIx (o i : ME) : MG := fun x σ st => match o σ st with
  | .ok (.ref n) s1 => match i σ s1 with
    | .ok (.int k) s2 => match getM s2 n with
      | some xs => match ixN xs.length k with
        | some j => some (σ, s2.set n (.lst (xs.set j x)))
        | none => none
      | none => none
    | _ => none
  | _ => none
theorem g_ix {o i : Expr} {mo mi : ME} {pos : Pos} {vs : List Nat} (ho : PE X o (tE C mo)) (hi : PE X i (tE C mi))
    (ha : ∀ v, assign (.Subscript o i pos) X.env v = (do let ov ← holding [v] (eval o X.env); let iv ← holding [v, ov] (eval i X.env); standAt pos; holding [v, ov, iv] (setItem ov iv v); release [v, ov, iv] []) := by intro _; rfl) : PG X (.Subscript o i pos) (tG C vs (gIx mo mi)) :=
  (pg_sub ho hi set_list ha).weak fun v σ H Q ⟨ρ, st, σh, x, S, R, q, p⟩ => by
    unfold gIx at p
    split at p
    · rename_i n s1 e1
      split at p
      · rename_i k s2 e2
        split at p
        · rename_i xs e3
          split at p
          · rename_i j e4
            refine ⟨ρ, st, σh, S, R, ?_⟩
            rw [e1]
            intro ρ1 H1 u1 S1 w hw
            refine ⟨ρ1, s1, σh, S1, R.up u1, ?_⟩
            rw [e2]
            intro ρ2 H2 u2 S2 z hz
            rw [VR.ref_iff] at hw
            obtain ⟨a, rfl, hw⟩ := hw
            rw [VR.int_iff] at hz
            subst hz
            obtain ⟨b0, b, ws, b1, b2, b3⟩ := getM_at S2 e3
            rw [u2.r n a hw] at b1; cases b1
            refine ⟨a, ws, k, j, rfl, rfl, b2, by rw [b3.length]; exact e4, ?_⟩
            exact p ρ2 _ σ (u1.trans (u2.trans (up_write b2))) (S2.write b0 (u2.r n a hw) b2 (VRs.set j b3 (q.up (u1.trans u2)))) ((R.up (u1.trans u2)).up (up_write b2)) rfl
          · exact p.elim
        · exact p.elim
      · exact p.elim
    · exact p.elim
def mAsg (a : ME) (g : MG) : MS := fun σ st => (a σ st).fl σ fun x s1 => match g x σ s1 with
  | some (σ', s2) => .nx σ' s2
  | none => .no
theorem s_asg {tg e : Expr} {m : ME} {g : MG} {vs : List Nat} {pos : Pos} (he : PE X e (tE C m)) (hg : PG X tg (tG C vs g)) (hs : swapsWithSole [tg] e pos.line X.env = pure false := by rfl) (hw : swappedStores [tg] e X.env = pure none := by rfl)
    (h1 : (assignEach [tg] X.env).map (·.2) = [assign tg X.env] := by rfl) : PS X (.Assign [tg] e pos) (tS C (mAsg m g)) :=
  (ps_asg he hg hs hw h1).weak fun D σ H ⟨ρ, st, σh, S, R, p⟩ => ⟨ρ, st, σh, S, R, (PostS.fl R p).imp fun ρ1 H1 x s1 _ u1 S1 ⟨s1', S1', p1⟩ v hv => by
    refine ⟨ρ1, s1', σh, x, S1', R.up u1, hv, ?_⟩
    cases e : g x σh s1' with
    | none => rw [e] at p1; exact p1.elim
    | some z =>
      rw [e] at p1
      exact fun ρ' H' τ u S' R' _ => p1 ρ' H' τ u S' R'⟩
/-- a, b = c, d -/
def mPar (i j : Nat) (a : MA) : MS := fun σ st => (a σ st).fl σ fun xs s1 => match xs with
  | [x, y] => .nx ((σ.set i (some x)).set j (some y)) s1
  | _ => .no
theorem s_par {i j : Nat} {x y : Str} {a b : Expr} {m : MA} {px py pt pos : Pos} {kt k2 pt2} (hc : X.calm = true) (hN : X.N.Nodup) (hi : X.N[i]? = some x) (hj : X.N[j]? = some y) (hij : i ≠ j) (hx : X.env.scope.names.lookup x = some .local) (hy : X.env.scope.names.lookup y = some .local)
    (ha : PA X [a, b] (tA C m)) (hw : swappedStores [.Tuple [.Name x px, .Name y py] kt pt] (.Tuple [a, b] k2 pt2) X.env = pure (some [x, y])) (hs : swapsWithSole [.Tuple [.Name x px, .Name y py] kt pt] (.Tuple [a, b] k2 pt2) pos.line X.env = pure false := by rfl) :
    PS X (.Assign [.Tuple [.Name x px, .Name y py] kt pt] (.Tuple [a, b] k2 pt2) pos) (tS C (mPar i j m)) :=
  (ps_par hc hN hi hj hij hx hy ha hw hs).weak fun D σ H ⟨ρ, st, σh, S, R, p⟩ => ⟨ρ, st, σh, S, R, (PostS.fl R p).imp fun ρ1 H1 xs s1 _ u1 S1 ⟨s1', S1', p1⟩ vs hv => by
    split at p1
    · rw [VRs.cons_iff] at hv
      obtain ⟨v, r, rfl, h1, hv⟩ := hv
      rw [VRs.cons_iff] at hv
      obtain ⟨w, r, rfl, h2, hv⟩ := hv
      rw [VRs.nil_iff] at hv
      subst hv
      exact ⟨v, w, rfl, p1 ρ1 H1 _ Up.refl S1' (((R.up u1).set i h1).set j h2)⟩
    · exact p1.elim⟩
def mPar3 (i j l : Nat) (a : MA) : MS := fun σ st => (a σ st).fl σ fun xs s1 => match xs with
  | [x, y, z] => .nx (((σ.set i (some x)).set j (some y)).set l (some z)) s1
  | _ => .no
theorem s_par3 {i j l : Nat} {x y z : Str} {a b c : Expr} {m : MA} {px py pz pt pos : Pos} {kt k2 pt2} (hc : X.calm = true) (hN : X.N.Nodup) (hi : X.N[i]? = some x) (hj : X.N[j]? = some y) (hl : X.N[l]? = some z) (hij : i ≠ j) (hil : i ≠ l) (hjl : j ≠ l)
    (hx : X.env.scope.names.lookup x = some .local) (hy : X.env.scope.names.lookup y = some .local) (hz : X.env.scope.names.lookup z = some .local) (ha : PA X [a, b, c] (tA C m))
    (hw : swappedStores [.Tuple [.Name x px, .Name y py, .Name z pz] kt pt] (.Tuple [a, b, c] k2 pt2) X.env = pure (some [x, y, z]))
    (hs : swapsWithSole [.Tuple [.Name x px, .Name y py, .Name z pz] kt pt] (.Tuple [a, b, c] k2 pt2) pos.line X.env = pure false := by rfl) :
    PS X (.Assign [.Tuple [.Name x px, .Name y py, .Name z pz] kt pt] (.Tuple [a, b, c] k2 pt2) pos) (tS C (mPar3 i j l m)) :=
  (ps_par3 hc hN hi hj hl hij hil hjl hx hy hz ha hw hs).weak fun D σ H ⟨ρ, st, σh, S, R, p⟩ => ⟨ρ, st, σh, S, R, (PostS.fl R p).imp fun ρ1 H1 xs s1 _ u1 S1 ⟨s1', S1', p1⟩ vs hv => by
    split at p1
    · rw [VRs.cons_iff] at hv
      obtain ⟨v, r, rfl, h1, hv⟩ := hv
      rw [VRs.cons_iff] at hv
      obtain ⟨w, r, rfl, h2, hv⟩ := hv
      rw [VRs.cons_iff] at hv
      obtain ⟨u, r, rfl, h3, hv⟩ := hv
      rw [VRs.nil_iff] at hv
      subst hv
      exact ⟨v, w, u, rfl, p1 ρ1 H1 _ Up.refl S1' ((((R.up u1).set i h1).set j h2).set l h3)⟩
    · exact p1.elim⟩
/-- x += e of ints -/
def mAug (i : Nat) (f : Int → Int → Int) (a : ME) : MS := fun σ st => match σ[i]? with
  | some (some (.int n)) => (a σ st).fl σ fun y s1 => match y with
    | .int k => .nx (σ.set i (some (.int (f n k)))) s1
    | _ => .no
  | _ => .no
theorem s_aug {i : Nat} {x : Str} {op : Operator} {f : Int → Int → Int} {e : Expr} {m : ME} {pos pos' : Pos} (hN : X.N.Nodup) (hi : X.N[i]? = some x) (he : PE X e (tE C m)) (ho : PIp X op (ipI f)) (hx : Loc X.env.scope x := by first | exact Or.inl rfl | exact Or.inr rfl) (hf : X.fn x = true ∨ X.env.scope.names.lookup x = some .local := by first | exact .inl rfl | exact .inr rfl) :
    PS X (.AugAssign (.Name x pos') op e pos) (tS C (mAug i f m)) := (ps_aug hN hi hx he ho hf).weak fun D σ H ⟨ρ, st, σh, S, R, p⟩ => by
  unfold mAug at p
  split at p
  · rename_i n en
    obtain ⟨v, e1, e2⟩ := R.2 i _ en
    rw [VR.int_iff] at e2
    subst e2
    refine ⟨_, e1, ρ, st, σh, S, R, (PostS.fl R p).imp fun ρ1 H1 y s1 _ u1 S1 ⟨s1', S1', p1⟩ w hw => ?_⟩
    cases y with
    | int k =>
      rw [VR.int_iff] at hw
      subst hw
      exact ⟨n, k, rfl, rfl, p1 ρ1 H1 _ Up.refl S1' ((R.up u1).set i (VR.int_iff.mpr rfl))⟩
    | _ => exact p1.elim
  · exact p.elim
end
end Sm

namespace Sm
open PySem PySem.Spec PyProof.Rows L2

/-! ### the same, by looking -/
mutual
def same : PV → PV → Bool
  | .non, .non => true
  | .bl a, .bl b => a == b
  | .int a, .int b => decide (a = b)
  | .str a, .str b => decide (a = b)
  | .tup xs, .tup ys => sames xs ys
  | .ref a, .ref b => a == b
  | _, _ => false
def sames : List PV → List PV → Bool
  | [], [] => true
  | x :: xs, y :: ys => same x y && sames xs ys
  | _, _ => false
end
mutual
theorem same_eq : ∀ {x y : PV}, same x y = true → x = y
  | .non, y, h => by cases y <;> simp [same] at h ⊢
  | .bl a, y, h => by cases y <;> simp [same] at h ⊢; exact h
  | .int a, y, h => by cases y <;> simp [same] at h ⊢; exact h
  | .str a, y, h => by cases y <;> simp [same] at h ⊢; exact h
  | .tup a, y, h => by cases y <;> simp [same] at h ⊢; exact sames_eq h
  | .ref a, y, h => by cases y <;> simp [same] at h ⊢; exact h
theorem sames_eq : ∀ {xs ys : List PV}, sames xs ys = true → xs = ys
  | [], ys, h => by cases ys <;> simp [sames] at h ⊢
  | x :: xs, ys, h => by
    cases ys with
    | nil => simp [sames] at h
    | cons y ys =>
      rw [sames, Bool.and_eq_true] at h
      rw [same_eq h.1, sames_eq h.2]
end
mutual
theorem same_refl : ∀ x : PV, same x x = true
  | .non => by simp [same]
  | .bl a => by simp [same]
  | .int a => by simp [same]
  | .str a => by simp [same]
  | .tup a => by rw [same]; exact sames_refl a
  | .ref a => by simp [same]
theorem sames_refl : ∀ x : List PV, sames x x = true
  | [] => by simp [sames]
  | x :: xs => by rw [sames, same_refl x, sames_refl xs]; rfl
end
/-- a walked list stands as it was -/
def stays (w : Option Nat) (xs : List PV) (st : Store) : Bool := match w with
  | none => true
  | some n => match getL st n with
    | some ys => sames ys xs
    | none => false
theorem stays_none {xs : List PV} {st : Store} : stays none xs st = true := rfl
theorem stays_some {n : Nat} {xs : List PV} {st : Store} (h : getL st n = some xs) : stays (some n) xs st = true := by
  show (match getL st n with | some ys => sames ys xs | none => false) = true
  rw [h]
  exact sames_refl xs
theorem stays_get {n : Nat} {xs : List PV} {st : Store} (h : stays (some n) xs st = true) : getL st n = some xs := by
  unfold stays at h
  dsimp only at h
  split at h
  · rename_i ys e
    rw [e, sames_eq h]
  · cases h

/-! ### what is walked -/
abbrev MI := Slots → Store → Res (Option Nat × List PV)
structure JS (G : Gc) (ρ0 : List Addr) (H0 : Hp) (J : It) (w : Option Nat) (xs : List PV) : Prop where
  go : ∀ (i : Nat) (x : PV) ρ H st, Up G.K ρ0 H0 ρ H → SR G ρ H st → stays w xs st = true → xs[i]? = some x → J.go i H ∧ ∀ v H', J.yld i H v H' → ∃ ρ', Up G.K ρ H ρ' H' ∧ SR G ρ' H' st ∧ VR G.K ρ' H' x v
  stop : ∀ (i : Nat) ρ H st, Up G.K ρ0 H0 ρ H → SR G ρ H st → stays w xs st = true → xs.length ≤ i → J.stop i H
def tI (C : Wc) (m : MI) : TI := fun σ H R => ∃ ρ st σh, SR C.G ρ H st ∧ SlR C.K ρ H σh σ ∧ Post C ρ H σ (fun ρ' H' wx => ∀ J, JS C.G ρ' H' J wx.1 wx.2 → R J H') (m σh st)
section
variable {X : Cx} {C : Wc}
def mItL (a : ME) : MI := fun σ st => (a σ st).bind fun x s1 => match x with
  | .ref n => match getL s1 n with
    | some xs => .ok (some n, xs) s1
    | none => .no
  | _ => .no
def mItT (a : ME) : MI := fun σ st => (a σ st).bind fun x s1 => match x with
  | .tup xs => .ok (none, xs) s1
  | _ => .no
theorem js_list {G : Gc} {ρ : List Addr} {H : Hp} {n : Nat} {a : Addr} {xs : List PV} (ha : ρ[n]? = some a) : JS G ρ H (Itl G.K a) (some n) xs where
  go := fun i x ρ1 H1 st u S hs hx => by
    obtain ⟨b, vs, h1, h2, h3⟩ := getL_sql S (stays_get hs)
    rw [u.r n a ha] at h1; cases h1
    obtain ⟨v, e1, e2⟩ := h3.get hx
    exact ⟨⟨vs, v, h2, e1⟩, fun w H' ⟨e, f⟩ => by
      subst e
      have := f vs h2
      rw [e1] at this; cases this
      exact ⟨ρ1, Up.refl, S, e2⟩⟩
  stop := fun i ρ1 H1 st u S hs hx => by
    obtain ⟨b, vs, h1, h2, h3⟩ := getL_sql S (stays_get hs)
    rw [u.r n a ha] at h1; cases h1
    exact ⟨vs, h2, by rw [h3.length]; exact hx⟩
theorem js_tup {G : Gc} {ρ : List Addr} {H : Hp} {a : Addr} {xs : List PV} {vs : List V} (h2 : SqT G.K H a vs) (h3 : VRs G.K ρ H xs vs) : JS G ρ H (Itt G.K a) none xs where
  go := fun i x ρ1 H1 st u S hs hx => by
    obtain ⟨v, e1, e2⟩ := (h3.up u).get hx
    exact ⟨⟨vs, v, u.t a vs h2, e1⟩, fun w H' ⟨e, f⟩ => by
      subst e
      have := f vs (u.t a vs h2)
      rw [e1] at this; cases this
      exact ⟨ρ1, Up.refl, S, e2⟩⟩
  stop := fun i ρ1 H1 st u S hs hx => ⟨vs, u.t a vs h2, by rw [h3.length]; exact hx⟩
def rangeP (lo : Int) (n : Nat) : List PV := (List.range n).map fun i => .int (lo + (i : Nat))
theorem js_range {G : Gc} {ρ : List Addr} {H : Hp} {lo : Int} {n : Nat} : JS G ρ H (Itr lo n) none (rangeP lo n) where
  go := fun i x ρ1 H1 st u S hs hx => by
    unfold rangeP at hx
    rw [List.getElem?_map] at hx
    by_cases hi : i < n
    · rw [List.getElem?_range hi] at hx
      cases hx
      exact ⟨hi, fun w H' ⟨e, f⟩ => by
        subst e f
        exact ⟨ρ1, Up.refl, S, VR.int_iff.mpr rfl⟩⟩
    · rw [List.getElem?_eq_none (by rw [List.length_range]; omega)] at hx
      cases hx
  stop := fun i ρ1 H1 st u S hs hx => by
    unfold rangeP at hx
    rw [List.length_map, List.length_range] at hx
    exact hx
theorem i_list {tg l : Expr} {m : ME} (hK : X.K = C.K) (h : PE X l (tE C m)) : PI X tg l (tI C (mItL m)) := (pi_list h).weak fun σ H R ⟨ρ, st, σh, S, Rl, p⟩ =>
  ⟨ρ, st, σh, S, Rl, (Post.bind p).imp fun ρ1 H1 x s1 _ u1 S1 ⟨s1', S1', p1⟩ v hv => by
    split at p1
    · rename_i n
      split at p1
      · rename_i xs e
        rw [VR.ref_iff] at hv
        obtain ⟨a, rfl, ha⟩ := hv
        obtain ⟨b, vs, h1, h2, h3⟩ := getL_sql S1' e
        rw [ha] at h1; cases h1
        exact ⟨a, rfl, ⟨vs, hK ▸ h2⟩, p1 ρ1 H1 Up.refl S1' _ (by rw [hK]; exact js_list ha)⟩
      · exact p1.elim
    · exact p1.elim⟩
theorem i_tup {tg l : Expr} {m : ME} (hK : X.K = C.K) (h : PE X l (tE C m)) : PI X tg l (tI C (mItT m)) := (pi_tup h).weak fun σ H R ⟨ρ, st, σh, S, Rl, p⟩ =>
  ⟨ρ, st, σh, S, Rl, (Post.bind p).imp fun ρ1 H1 x s1 _ u1 S1 ⟨s1', S1', p1⟩ v hv => by
    split at p1
    · rw [VR.tup_iff] at hv
      obtain ⟨a, vs, rfl, h2, h3⟩ := hv
      exact ⟨a, rfl, ⟨vs, hK ▸ h2⟩, p1 ρ1 H1 Up.refl S1' _ (by rw [hK]; exact js_tup h2 h3)⟩
    · exact p1.elim⟩
def mItR1 (a : MA) : MI := fun σ st => (a σ st).bind fun xs s1 => match xs with
  | [.int j] => if -(2 ^ 62) ≤ j ∧ j < 2 ^ 62 then .ok (none, rangeP 0 j.toNat) s1 else .no
  | _ => .no
def mItR2 (a : MA) : MI := fun σ st => (a σ st).bind fun xs s1 => match xs with
  | [.int i, .int j] => if -(2 ^ 62) ≤ i ∧ i < 2 ^ 62 ∧ -(2 ^ 62) ≤ j ∧ j < 2 ^ 62 then .ok (none, rangeP i (j - i).toNat) s1 else .no
  | _ => .no
theorem i_range1 {tg a : Expr} {m : MA} {p pos : Pos} (hm : X.mg "range" = none) (h : PA X [a] (tA C m)) (hg : Gl X "range" := by rfl) (hs : starEach [a] X.env = [(false, eval a X.env)] := by rfl) : PI X tg (.Call (.Name "range" p) [a] [] pos) (tI C (mItR1 m)) := (pi_range1 hg hm h hs).weak fun σ H R ⟨ρ, st, σh, S, Rl, p⟩ =>
  ⟨ρ, st, σh, S, Rl, (Post.bind p).imp fun ρ1 H1 x s1 _ u1 S1 ⟨s1', S1', p1⟩ vs hv => by
    split at p1
    · split at p1
      · rename_i hj
        rw [VRs.cons_iff] at hv
        obtain ⟨v, r, rfl, h1, hv⟩ := hv
        rw [VRs.nil_iff] at hv
        rw [VR.int_iff] at h1
        subst hv h1
        exact ⟨_, rfl, hj.1, hj.2, p1 ρ1 H1 Up.refl S1' _ js_range⟩
      · exact p1.elim
    · exact p1.elim⟩
theorem i_range2 {tg a b : Expr} {m : MA} {p pos : Pos} (hm : X.mg "range" = none) (h : PA X [a, b] (tA C m)) (hg : Gl X "range" := by rfl) (hs : starEach [a, b] X.env = [(false, eval a X.env), (false, eval b X.env)] := by rfl) (hs2 : starEach [b] X.env = [(false, eval b X.env)] := by rfl) : PI X tg (.Call (.Name "range" p) [a, b] [] pos) (tI C (mItR2 m)) := (pi_range2 hg hm h hs hs2).weak fun σ H R ⟨ρ, st, σh, S, Rl, p⟩ =>
  ⟨ρ, st, σh, S, Rl, (Post.bind p).imp fun ρ1 H1 x s1 _ u1 S1 ⟨s1', S1', p1⟩ vs hv => by
    split at p1
    · split at p1
      · rename_i hj
        rw [VRs.cons_iff] at hv
        obtain ⟨v, r, rfl, h1, hv⟩ := hv
        rw [VRs.cons_iff] at hv
        obtain ⟨w, r, rfl, h2, hv⟩ := hv
        rw [VRs.nil_iff] at hv
        rw [VR.int_iff] at h1 h2
        subst hv h1 h2
        exact ⟨_, _, rfl, hj, p1 ρ1 H1 Up.refl S1' _ js_range⟩
      · exact p1.elim
    · exact p1.elim⟩

/-! ### for -/
def loopF (g : MG) (b : MS) (w : Option Nat) (all : List PV) : List PV → MS
  | [], σ, st => if stays w all st = true then .nx σ st else .no
  | x :: r, σ, st => if stays w all st = true then match g x σ st with
      | some (σ1, s1) => match b σ1 s1 with
        | .nx σ2 s2 => loopF g b w all r σ2 s2
        | .ct σ2 s2 => loopF g b w all r σ2 s2
        | .bk σ2 s2 => .nx σ2 s2
        | .rt y s2 => .rt y s2
        | .exc c fs σ2 s2 => .exc c fs σ2 s2
        | .no => .no
      | none => .no
    else .no
def mFor (mi : MI) (g : MG) (b : MS) : MS := fun σ st => (mi σ st).fl σ fun wx s1 => loopF g b wx.1 wx.2 wx.2 σ s1
theorem s_for {tg iter : Expr} {body : List Stmt} {mi : MI} {g : MG} {b : MS} {vs : List Nat} {pos : Pos} (hp : PassesOwn (model X.prog X.w) X.A X.env X.xe) (hc : X.calm = true) (hi : PI X tg iter (tI C mi)) (hg : PG X tg (tG C vs g)) (hb : PSs X body (tS C b))
    (hs : ∀ x, foldedSetIterable iter X.env x = pure x := by intro _; rfl) : PS X (.For tg iter body [] pos) (tS C (mFor mi g b)) :=
  (ps_for hp hc hi hg hb hs).weak fun D σ H ⟨ρ, st, σh, S, R, p⟩ => ⟨ρ, st, σh, S, R, (PostS.fl R p).imp fun ρ0 H0 wx s1 _ u0 S0 ⟨st0, S0', p0⟩ J hJ => by
    obtain ⟨w, all⟩ := wx
    dsimp only at p0 hJ
    refine ⟨fun i m σ H => m = all.length - i ∧ i ≤ all.length ∧ ∃ ρ st σh, Up C.K ρ0 H0 ρ H ∧ SR C.G ρ H st ∧ SlR C.K ρ H σh σ ∧ PostS C ρ H D (loopF g b w all (all.drop i) σh st),
      ⟨all.length, rfl, Nat.zero_le _, ρ0, st0, σh, Up.refl, S0', R.up u0, p0⟩, ?_⟩
    rintro i m σ1 H1 ⟨rfl, hi, ρ1, st1, σh1, u1, S1, R1, p1⟩
    by_cases hlt : i < all.length
    · have hx : all[i]? = some all[i] := List.getElem?_eq_getElem hlt
      rw [List.drop_eq_getElem_cons hlt] at p1
      unfold loopF at p1
      split at p1
      · rename_i hst
        obtain ⟨g1, g2⟩ := hJ.go i _ ρ1 H1 st1 u1 S1 hst hx
        refine .inr ⟨g1, fun σ' H' => i + 1 ≤ all.length ∧ ∃ ρ st σh, Up C.K ρ0 H0 ρ H' ∧ SR C.G ρ H' st ∧ SlR C.K ρ H' σh σ' ∧ PostS C ρ H' D (loopF g b w all (all.drop (i + 1)) σh st),
          fun σ' H' h => ⟨all.length - (i + 1), by omega, rfl, h.1, h.2⟩, fun v H' hy => ?_⟩
        obtain ⟨ρ2, u2, S2, r2⟩ := g2 v H' hy
        refine ⟨ρ2, st1, σh1, all[i], S2, R1.up u2, r2, ?_⟩
        cases e : g all[i] σh1 st1 with
        | none => rw [e] at p1; exact p1.elim
        | some z =>
          obtain ⟨σ2, s2⟩ := z
          rw [e] at p1
          refine fun ρ3 H3 τ u3 S3 R3 _ => ⟨ρ3, s2, σ2, S3, R3, ?_⟩
          have uu := (u1.trans u2).trans u3
          dsimp only at p1
          cases e2 : b σ2 s2 with
          | nx σ4 s4 =>
            rw [e2] at p1
            exact fun ρ4 H4 τ4 u4 S4 R4 => ⟨hlt, ρ4, s4, σ4, uu.trans u4, S4, R4, PostS.up ((u2.trans u3).trans u4) p1⟩
          | ct σ4 s4 =>
            rw [e2] at p1
            exact fun ρ4 H4 τ4 u4 S4 R4 => ⟨hlt, ρ4, s4, σ4, uu.trans u4, S4, R4, PostS.up ((u2.trans u3).trans u4) p1⟩
          | bk σ4 s4 => rw [e2] at p1; exact PostS.up (u2.trans u3) (m := .nx σ4 s4) p1
          | rt y s4 => rw [e2] at p1; exact PostS.up (u2.trans u3) (m := .rt y s4) p1
          | exc c fs σ4 s4 => rw [e2] at p1; exact PostS.up (u2.trans u3) (m := .exc c fs σ4 s4) p1
          | no => rw [e2] at p1; exact p1.elim
      · exact p1.elim
    · have e : all.drop i = [] := List.drop_eq_nil_of_le (by omega)
      rw [e] at p1
      unfold loopF at p1
      split at p1
      · rename_i hst
        exact .inl ⟨hJ.stop i ρ1 H1 st1 u1 S1 hst (by omega), p1 ρ1 H1 σ1 Up.refl S1 R1⟩
      · exact p1.elim⟩

/-! ### while -/
def whileF (t : MT) (b : MS) : Nat → MS
  | 0, _, _ => .no
  | n + 1, σ, st => (t σ st).fl σ fun c s1 => if c = true then match b σ s1 with
      | .nx σ2 s2 => whileF t b n σ2 s2
      | .ct σ2 s2 => whileF t b n σ2 s2
      | .bk σ2 s2 => .nx σ2 s2
      | .rt y s2 => .rt y s2
      | .exc c fs σ2 s2 => .exc c fs σ2 s2
      | .no => .no
    else .nx σ s1
theorem s_while (n : Nat) {c : Expr} {body : List Stmt} {t : MT} {b : MS} {pos : Pos} (hp : PassesOwn (model X.prog X.w) X.A X.env X.xe) (hc : PT X c (tT C t)) (hb : PSs X body (tS C b)) : PS X (.While c body [] pos) (tS C (whileF t b n)) :=
  (ps_while hp hc hb).weak fun D σ H ⟨ρ, st, σh, S, R, p⟩ => by
    refine ⟨fun m σ H => ∃ ρ st σh, SR C.G ρ H st ∧ SlR C.K ρ H σh σ ∧ PostS C ρ H D (whileF t b m σh st), ⟨n, ρ, st, σh, S, R, p⟩, ?_⟩
    rintro m σ1 H1 ⟨ρ1, st1, σh1, S1, R1, p1⟩
    cases m with
    | zero => exact p1.elim
    | succ m =>
      unfold whileF at p1
      refine ⟨ρ1, st1, σh1, S1, R1, (PostS.fl R1 p1).imp fun ρ2 H2 c s2 _ u2 S2 ⟨s2', S2', p2⟩ => ?_⟩
      cases c with
      | false => exact iteF (p2 ρ2 H2 σ1 Up.refl S2' (R1.up u2))
      | true =>
        refine iteT ?_
        rw [if_pos rfl] at p2
        refine ⟨fun σ' H' => ∃ ρ st σh, SR C.G ρ H' st ∧ SlR C.K ρ H' σh σ' ∧ PostS C ρ H' D (whileF t b m σh st), fun σ' H' h => ⟨m, Nat.lt_succ_self m, h⟩, ρ2, s2', σh1, S2', R1.up u2, ?_⟩
        cases e2 : b σh1 s2' with
        | nx σ4 s4 => rw [e2] at p2; exact fun ρ4 H4 τ4 u4 S4 R4 => ⟨ρ4, s4, σ4, S4, R4, PostS.up u4 p2⟩
        | ct σ4 s4 => rw [e2] at p2; exact fun ρ4 H4 τ4 u4 S4 R4 => ⟨ρ4, s4, σ4, S4, R4, PostS.up u4 p2⟩
        | bk σ4 s4 => rw [e2] at p2; exact p2
        | rt y s4 => rw [e2] at p2; exact p2
        | exc c fs σ4 s4 => rw [e2] at p2; exact p2
        | no => rw [e2] at p2; exact p2.elim

/-! ### comprehensions -/
def wipeS (σ : Slots) : List Nat → Slots
  | [] => σ
  | v :: vs => (wipeS σ vs).set v none
theorem SlR.wipe {ρ : List Addr} {H : Hp} {σh : Slots} {σ : L2.St} (R : SlR C.K ρ H σh σ) : ∀ vs : List Nat, SlR C.K ρ H (wipeS σh vs) (L2.wipe σ vs)
  | [] => R
  | v :: vs => by
    obtain ⟨l, h⟩ := SlR.wipe R vs
    unfold wipeS L2.wipe
    refine ⟨by rw [List.length_set, List.length_set]; exact l, fun i x e => ?_⟩
    by_cases hi : v = i
    · subst hi
      by_cases hv : v < (wipeS σh vs).length
      · rw [List.getElem?_set_self hv] at e; cases e
      · rw [List.getElem?_eq_none (by simpa using hv)] at e; cases e
    · rw [List.getElem?_set_ne hi] at e ⊢
      exact h i x e
def Res.bindN {α β : Type} : Res α → (α → Store → Res β) → Res β
  | .ok a st, f => f a st
  | _, _ => .no
def lcF (g : MG) (t : MT) (m : ME) (w : Option Nat) (all : List PV) (σ : Slots) (d : Nat) : List PV → Store → Res PV
  | [], st => if stays w all st = true then .ok (.ref d) st else .no
  | x :: r, st => if stays w all st = true then match g x σ st with
      | some (σ1, s1) => (t σ1 s1).bindN fun c s2 => if c = true then (m σ1 s2).bindN fun y s3 => match getM s3 d with
          | some acc => if acc.length < sizeLine then lcF g t m w all σ d r (s3.set d (.lst (acc ++ [y]))) else .no
          | none => .no
        else lcF g t m w all σ d r s2
      | none => .no
    else .no
def mLc (mi : MI) (g : MG) (t : MT) (m : ME) (vs : List Nat) : ME := fun σ st => (mi σ st).bind fun wx s1 => lcF g t m wx.1 wx.2 (wipeS σ vs) s1.length wx.2 (s1 ++ [.lst []])
def mYes : MT := fun _ st => .ok true st
/-- inside a comprehension nothing is raised -/
abbrev Wc.in (C : Wc) : Wc := ⟨C.G, fun _ _ _ _ => False⟩
theorem tYes_of {σ : L2.St} {H : Hp} {Q : Bool → Hp → Prop} (h : tT C.in mYes σ H Q) : tYes σ H Q := by
  obtain ⟨ρ, st, σh, S, R, p⟩ := h
  exact p ρ H Up.refl S
theorem lc_run {mi : MI} {g : MG} {t : MT} {m : ME} {vs : List Nat} {tt : TT} {σ : L2.St} {H : Hp} {Q : VK} (ht : ∀ σ H Q, tT C.in t σ H Q → tt σ H Q) (h : tE C (mLc mi g t m vs) σ H Q) :
    tLc (tI C mi) (tG C.in vs g) tt (tE C.in m) vs σ H Q := by
  obtain ⟨ρ, st, σh, S, R, p⟩ := h
  refine ⟨ρ, st, σh, S, R, (Post.bind p).imp fun ρ0 H0 wx s1 _ u0 S0 ⟨st0, S0', p0⟩ J hJ D hD => ?_⟩
  obtain ⟨w, all⟩ := wx
  dsimp only at p0 hJ
  have P0 := Post.up (up_app (K := C.K) (ρ := ρ0) (o := .lst []) hD) p0
  have T0 : SR C.G (ρ0 ++ [D]) (upd H0 D (.lst [])) (st0 ++ [.lst []]) := S0'.push hD (VRs.nil_iff.mpr rfl)
  have hd0 : (ρ0 ++ [D])[st0.length]? = some D := by rw [List.getElem?_append_right (by rw [S0'.len]; exact Nat.le_refl _), S0'.len]; simp
  refine ⟨fun i m' H => m' = all.length - i ∧ i ≤ all.length ∧ ∃ ρ st, Up C.K ρ0 H0 ρ H ∧ ρ[st0.length]? = some D ∧ SR C.G ρ H st ∧ Post C ρ H σ (fun ρ' H' r => ∀ v, VR C.K ρ' H' r v → Q v H') (lcF g t m w all (wipeS σh vs) st0.length (all.drop i) st),
    ⟨all.length, rfl, Nat.zero_le _, _, _, up_app hD, hd0, T0, P0⟩, ?_⟩
  rintro i m' H1 ⟨rfl, hi, ρ1, st1, u1, hd1, S1, p1⟩
  by_cases hlt : i < all.length
  · have hx : all[i]? = some all[i] := List.getElem?_eq_getElem hlt
    rw [List.drop_eq_getElem_cons hlt] at p1
    unfold lcF at p1
    split at p1
    · rename_i hst
      obtain ⟨g1, g2⟩ := hJ.go i _ ρ1 H1 st1 u1 S1 hst hx
      refine .inr ⟨g1, fun H' => i + 1 ≤ all.length ∧ ∃ ρ st, Up C.K ρ0 H0 ρ H' ∧ ρ[st0.length]? = some D ∧ SR C.G ρ H' st ∧ Post C ρ H' σ (fun ρ' H' r => ∀ v, VR C.K ρ' H' r v → Q v H') (lcF g t m w all (wipeS σh vs) st0.length (all.drop (i + 1)) st),
        fun H' h => ⟨all.length - (i + 1), by omega, rfl, h.1, h.2⟩, fun v H' hy => ?_⟩
      obtain ⟨ρ2, u2, S2, r2⟩ := g2 v H' hy
      refine ⟨ρ2, st1, wipeS σh vs, all[i], S2, (R.up (u0.trans (u1.trans u2))).wipe vs, r2, ?_⟩
      cases e : g all[i] (wipeS σh vs) st1 with
      | none => rw [e] at p1; exact p1.elim
      | some z =>
        obtain ⟨σ2, s2⟩ := z
        rw [e] at p1
        dsimp only at p1
        refine fun ρ3 H3 τ u3 S3 R3 hw => ⟨hw.trans (wipe_wipe σ vs), ht _ _ _ ⟨ρ3, s2, σ2, S3, R3, ?_⟩⟩
        cases e2 : t σ2 s2 with
        | no => rw [e2] at p1; exact p1.elim
        | exc c fs s3 => rw [e2] at p1; exact p1.elim
        | ok c s3 =>
          rw [e2] at p1
          dsimp only [Res.bindN] at p1
          intro ρ4 H4 u4 S4
          have uu := ((u1.trans u2).trans u3).trans u4
          cases c with
          | false => exact iteF ⟨hlt, ρ4, s3, uu, u4.r _ _ (u3.r _ _ (u2.r _ _ hd1)), S4, Post.up ((u2.trans u3).trans u4) p1⟩
          | true =>
            refine iteT ?_
            rw [if_pos rfl] at p1
            refine ⟨ρ4, s3, σ2, S4, R3.up u4, ?_⟩
            cases e3 : m σ2 s3 with
            | no => rw [e3] at p1; exact p1.elim
            | exc c fs s4 => rw [e3] at p1; exact p1.elim
            | ok y s4 =>
              rw [e3] at p1
              dsimp only at p1
              split at p1
              · rename_i acc ea
                split at p1
                · rename_i hz
                  intro ρ5 H5 u5 S5 w5 hv5
                  obtain ⟨b0, b, vs', b1, b2, b3⟩ := getM_at S5 ea
                  have hd5 : ρ5[st0.length]? = some D := u5.r _ _ (u4.r _ _ (u3.r _ _ (u2.r _ _ hd1)))
                  rw [hd5] at b1; cases b1
                  exact ⟨vs', b2, by rw [b3.length]; exact hz, hlt, ρ5, _, (uu.trans u5).trans (up_write b2), hd5, S5.write b0 hd5 b2 (b3.append (VRs.cons_iff.mpr ⟨w5, [], rfl, hv5, VRs.nil_iff.mpr rfl⟩)),
                    Post.up ((((u2.trans u3).trans u4).trans u5).trans (up_write b2)) p1⟩
                · exact p1.elim
              · exact p1.elim
    · exact p1.elim
  · have e : all.drop i = [] := List.drop_eq_nil_of_le (by omega)
    rw [e] at p1
    unfold lcF at p1
    split at p1
    · rename_i hst
      refine .inl ⟨hJ.stop i ρ1 H1 st1 u1 S1 hst (by omega), p1 ρ1 H1 Up.refl S1 _ (VR.ref_iff.mpr ⟨D, rfl, hd1⟩)⟩
    · exact p1.elim
where
  wipe_wipe (σ : L2.St) (vs : List Nat) : L2.wipe (L2.wipe σ vs) vs = L2.wipe σ vs := by
    have key : ∀ us : List Nat, (∀ i ∈ us, i ∈ vs) → L2.wipe (L2.wipe σ us) vs = L2.wipe σ vs := by
      intro us
      induction us with
      | nil => intro _; rfl
      | cons u us ih =>
        intro h
        show L2.wipe ((L2.wipe σ us).set u none) vs = _
        rw [wipe_set (h u (by simp)), ih fun i hi => h i (List.mem_cons_of_mem _ hi)]
    exact key vs fun i hi => hi
end
end Sm

namespace Sm
open PySem PySem.Spec PyProof.Rows L2
section
variable {X : Cx} {C : Wc}
theorem e_lc {elt tg iter : Expr} {ifs : List Expr} {scope : Scope} {own : List (Str × Nat)} {pos : Pos} {mi : MI} {g : MG} {t : MT} {tt : TT} {m : ME} (ht' : ∀ σ H Q, tT C.in t σ H Q → tt σ H Q) (hc : X.calm = true) (hN : X.N.Nodup) (hi : PI X tg iter (tI C mi)) (ok : BlkOk X.N X.env.scope scope own)
    (hg : ∀ (s : Shared) (H : Hp) (D : Addr) (cl : List (Str × Addr)) (fp : List Addr), PG (X.blk s H scope (compEnvC scope cl D X.env) fp) tg (tG C.in (own.map (·.2)) g))
    (ht : ∀ (s : Shared) (H : Hp) (D : Addr) (cl : List (Str × Addr)) (fp : List Addr), PTs (X.blk s H scope (compEnvC scope cl D X.env) fp) ifs tt)
    (he : ∀ (s : Shared) (H : Hp) (D : Addr) (cl : List (Str × Addr)) (fp : List Addr), PE (X.blk s H scope (compEnvC scope cl D X.env) fp) elt (tE C.in m)) (hs : ∀ x, foldedSetIterable iter X.env x = pure x := by intro _; rfl) :
    PE X (.ListComp elt [⟨tg, iter, ifs, 0⟩] scope pos) (tE C (mLc mi g t m (own.map (·.2)))) := (pe_lc hc hN hi ok hg ht he hs).weak fun σ H Q h => lc_run ht' h
theorem s_setLc {i : Nat} {y : Str} {py : Pos} {elt tg iter : Expr} {ifs : List Expr} {scope : Scope} {own : List (Str × Nat)} {pos spos : Pos} {mi : MI} {g : MG} {t : MT} {tt : TT} {m : ME} (ht' : ∀ σ H Q, tT C.in t σ H Q → tt σ H Q) (hc : X.calm = true) (hN : X.N.Nodup) (hy : X.N[i]? = some y) (hyl : X.env.scope.names.lookup y = some .local)
    (hsw : swapsWith (.ListComp elt [⟨tg, iter, ifs, 0⟩] scope pos) (some (.Name y py)) spos.line X.env = pure true) (hi : PI X tg iter (tI C mi)) (ok : BlkOk X.N X.env.scope scope own)
    (hg : ∀ (s : Shared) (H : Hp) (D : Addr) (cl : List (Str × Addr)) (fp : List Addr), PG (X.blk s H scope (compEnvC scope cl D X.env) fp) tg (tG C.in (own.map (·.2)) g))
    (ht : ∀ (s : Shared) (H : Hp) (D : Addr) (cl : List (Str × Addr)) (fp : List Addr), PTs (X.blk s H scope (compEnvC scope cl D X.env) fp) ifs tt)
    (he : ∀ (s : Shared) (H : Hp) (D : Addr) (cl : List (Str × Addr)) (fp : List Addr), PE (X.blk s H scope (compEnvC scope cl D X.env) fp) elt (tE C.in m)) (hs : ∀ x, foldedSetIterable iter X.env x = pure x := by intro _; rfl) :
    PS X (.Assign [.Name y py] (.ListComp elt [⟨tg, iter, ifs, 0⟩] scope pos) spos) (tS C (mAsg (mLc mi g t m (own.map (·.2))) (gNm i))) :=
  (ps_setLc hc hN hy hyl hsw hi ok hg ht he hs).weak fun D σ H ⟨ρ, st, σh, S, R, p⟩ => lc_run ht' ⟨ρ, st, σh, S, R, (PostS.fl R p).imp fun ρ1 H1 x s1 _ u1 S1 ⟨s1', S1', p1⟩ v hv => p1 ρ1 H1 _ Up.refl S1' ((R.up u1).set i hv)⟩

/-! ### two fors -/
def innerF (g : MG) (t : MT) (m : ME) (w : Option Nat) (all : List PV) (σ : Slots) (d : Nat) : List PV → Store → Option Store
  | [], st => if stays w all st = true then some st else none
  | x :: r, st => if stays w all st = true then match g x σ st with
      | some (σ1, s1) => match t σ1 s1 with
        | .ok c s2 => if c = true then match m σ1 s2 with
            | .ok y s3 => match getM s3 d with
              | some acc => if acc.length < sizeLine then innerF g t m w all σ d r (s3.set d (.lst (acc ++ [y]))) else none
              | none => none
            | _ => none
          else innerF g t m w all σ d r s2
        | _ => none
      | none => none
    else none
def lc2F (g : MG) (t : MT) (mi1 : MI) (g1 : MG) (t1 : MT) (m : ME) (w : Option Nat) (all : List PV) (σ : Slots) (vs1 : List Nat) (d : Nat) : List PV → Store → Res PV
  | [], st => if stays w all st = true then .ok (.ref d) st else .no
  | x :: r, st => if stays w all st = true then match g x σ st with
      | some (σ1, s1) => match t σ1 s1 with
        | .ok c s2 => if c = true then match mi1 σ1 s2 with
            | .ok wx s3 => match innerF g1 t1 m wx.1 wx.2 (wipeS σ1 vs1) d wx.2 s3 with
              | some s4 => lc2F g t mi1 g1 t1 m w all σ vs1 d r s4
              | none => .no
            | _ => .no
          else lc2F g t mi1 g1 t1 m w all σ vs1 d r s2
        | _ => .no
      | none => .no
    else .no
def mLc2 (mi : MI) (g : MG) (t : MT) (mi1 : MI) (g1 : MG) (t1 : MT) (m : ME) (vs vs1 : List Nat) : ME := fun σ st => (mi σ st).bind fun wx s1 => lc2F g t mi1 g1 t1 m wx.1 wx.2 (wipeS σ vs) vs1 s1.length wx.2 (s1 ++ [.lst []])
theorem wipe_wipe2 (σ : L2.St) (vs : List Nat) : L2.wipe (L2.wipe σ vs) vs = L2.wipe σ vs := by
  have key : ∀ us : List Nat, (∀ i ∈ us, i ∈ vs) → L2.wipe (L2.wipe σ us) vs = L2.wipe σ vs := by
    intro us
    induction us with
    | nil => intro _; rfl
    | cons u us ih =>
      intro h
      show L2.wipe ((L2.wipe σ us).set u none) vs = _
      rw [wipe_set (h u (by simp)), ih fun i hi => h i (List.mem_cons_of_mem _ hi)]
  exact key vs fun i hi => hi
theorem lc2_run {mi mi1 : MI} {g g1 : MG} {t t1 : MT} {m : ME} {vs vs1 : List Nat} {tt tt1 : TT} {σ : L2.St} {H : Hp} {Q : VK} (ht : ∀ σ H Q, tT C.in t σ H Q → tt σ H Q) (ht1 : ∀ σ H Q, tT C.in t1 σ H Q → tt1 σ H Q) (h : tE C (mLc2 mi g t mi1 g1 t1 m vs vs1) σ H Q) :
    tLc2 (tI C mi) (tG C.in vs g) tt (tI C.in mi1) (tG C.in vs1 g1) tt1 (tE C.in m) vs vs1 σ H Q := by
  obtain ⟨ρ, st, σh, S, R, p⟩ := h
  refine ⟨ρ, st, σh, S, R, (Post.bind p).imp fun ρ0 H0 wx s1 _ u0 S0 ⟨st0, S0', p0⟩ J hJ D hD => ?_⟩
  obtain ⟨w, all⟩ := wx
  dsimp only at p0 hJ
  have P0 := Post.up (up_app (K := C.K) (ρ := ρ0) (o := .lst []) hD) p0
  have T0 : SR C.G (ρ0 ++ [D]) (upd H0 D (.lst [])) (st0 ++ [.lst []]) := S0'.push hD (VRs.nil_iff.mpr rfl)
  have hd0 : (ρ0 ++ [D])[st0.length]? = some D := by rw [List.getElem?_append_right (by rw [S0'.len]; exact Nat.le_refl _), S0'.len]; simp
  refine ⟨fun i m' H => m' = all.length - i ∧ i ≤ all.length ∧ ∃ ρ st, Up C.K ρ0 H0 ρ H ∧ ρ[st0.length]? = some D ∧ SR C.G ρ H st ∧ Post C ρ H σ (fun ρ' H' r => ∀ v, VR C.K ρ' H' r v → Q v H') (lc2F g t mi1 g1 t1 m w all (wipeS σh vs) vs1 st0.length (all.drop i) st),
    ⟨all.length, rfl, Nat.zero_le _, _, _, up_app hD, hd0, T0, P0⟩, ?_⟩
  rintro i m' H1 ⟨rfl, hi, ρ1, st1, u1, hd1, S1, p1⟩
  by_cases hlt : i < all.length
  · have hx : all[i]? = some all[i] := List.getElem?_eq_getElem hlt
    rw [List.drop_eq_getElem_cons hlt] at p1
    unfold lc2F at p1
    split at p1
    · rename_i hst
      obtain ⟨g1', g2⟩ := hJ.go i _ ρ1 H1 st1 u1 S1 hst hx
      refine .inr ⟨g1', fun H' => i + 1 ≤ all.length ∧ ∃ ρ st, Up C.K ρ0 H0 ρ H' ∧ ρ[st0.length]? = some D ∧ SR C.G ρ H' st ∧ Post C ρ H' σ (fun ρ' H' r => ∀ v, VR C.K ρ' H' r v → Q v H') (lc2F g t mi1 g1 t1 m w all (wipeS σh vs) vs1 st0.length (all.drop (i + 1)) st),
        fun H' h => ⟨all.length - (i + 1), by omega, rfl, h.1, h.2⟩, fun v H' hy => ?_⟩
      obtain ⟨ρ2, u2, S2, r2⟩ := g2 v H' hy
      refine ⟨ρ2, st1, wipeS σh vs, all[i], S2, (R.up (u0.trans (u1.trans u2))).wipe vs, r2, ?_⟩
      cases e : g all[i] (wipeS σh vs) st1 with
      | none => rw [e] at p1; exact p1.elim
      | some z =>
        obtain ⟨σ2, s2⟩ := z
        rw [e] at p1
        dsimp only at p1
        refine fun ρ3 H3 τ u3 S3 R3 hw => ⟨hw.trans (wipe_wipe2 σ vs), ht _ _ _ ⟨ρ3, s2, σ2, S3, R3, ?_⟩⟩
        cases e2 : t σ2 s2 with
        | no => rw [e2] at p1; exact p1.elim
        | exc c fs s3 => rw [e2] at p1; exact p1.elim
        | ok c s3 =>
          rw [e2] at p1
          dsimp only at p1
          intro ρ4 H4 u4 S4
          have uu := ((u1.trans u2).trans u3).trans u4
          cases c with
          | false => exact iteF ⟨hlt, ρ4, s3, uu, u4.r _ _ (u3.r _ _ (u2.r _ _ hd1)), S4, Post.up ((u2.trans u3).trans u4) p1⟩
          | true =>
            refine iteT ?_
            rw [if_pos rfl] at p1
            refine ⟨ρ4, s3, σ2, S4, R3.up u4, ?_⟩
            cases e3 : mi1 σ2 s3 with
            | no => rw [e3] at p1; exact p1.elim
            | exc c fs s4 => rw [e3] at p1; exact p1.elim
            | ok wx1 s4 =>
              obtain ⟨w1, all1⟩ := wx1
              rw [e3] at p1
              dsimp only at p1
              intro ρ5 H5 u5 S5 J1 hJ1
              have uu5 := uu.trans u5
              have hd5 : ρ5[st0.length]? = some D := u5.r _ _ (u4.r _ _ (u3.r _ _ (u2.r _ _ hd1)))
              cases e4 : innerF g1 t1 m w1 all1 (wipeS σ2 vs1) st0.length all1 s4 with
              | none => rw [e4] at p1; exact p1.elim
              | some sE =>
                rw [e4] at p1
                dsimp only at p1
                have p5 := Post.up (((u2.trans u3).trans u4).trans u5) p1
                refine ⟨fun j k H => k = all1.length - j ∧ j ≤ all1.length ∧ ∃ ρ st, Up C.K ρ5 H5 ρ H ∧ SR C.G ρ H st ∧ innerF g1 t1 m w1 all1 (wipeS σ2 vs1) st0.length (all1.drop j) st = some sE,
                  ⟨all1.length, rfl, Nat.zero_le _, ρ5, s4, Up.refl, S5, e4⟩, ?_⟩
                rintro j k H6 ⟨rfl, hj, ρ6, st6, u6, S6, q6⟩
                by_cases hlt1 : j < all1.length
                · have hx1 : all1[j]? = some all1[j] := List.getElem?_eq_getElem hlt1
                  rw [List.drop_eq_getElem_cons hlt1] at q6
                  unfold innerF at q6
                  split at q6
                  · rename_i hst1
                    obtain ⟨k1, k2⟩ := hJ1.go j _ ρ6 H6 st6 u6 S6 hst1 hx1
                    refine .inr ⟨k1, fun H' => j + 1 ≤ all1.length ∧ ∃ ρ st, Up C.K ρ5 H5 ρ H' ∧ SR C.G ρ H' st ∧ innerF g1 t1 m w1 all1 (wipeS σ2 vs1) st0.length (all1.drop (j + 1)) st = some sE,
                      fun H' h => ⟨all1.length - (j + 1), by omega, rfl, h.1, h.2⟩, fun v1 H7 hy1 => ?_⟩
                    obtain ⟨ρ7, u7, S7, r7⟩ := k2 v1 H7 hy1
                    refine ⟨ρ7, st6, wipeS σ2 vs1, all1[j], S7, (R3.up (u4.trans (u5.trans (u6.trans u7)))).wipe vs1, r7, ?_⟩
                    cases e5 : g1 all1[j] (wipeS σ2 vs1) st6 with
                    | none => rw [e5] at q6; cases q6
                    | some z =>
                      obtain ⟨σ8, s8⟩ := z
                      rw [e5] at q6
                      dsimp only at q6
                      refine fun ρ8 H8 τ8 u8 S8 R8 hw8 => ⟨hw8.trans (wipe_wipe2 τ vs1), ht1 _ _ _ ⟨ρ8, s8, σ8, S8, R8, ?_⟩⟩
                      cases e6 : t1 σ8 s8 with
                      | no => rw [e6] at q6; cases q6
                      | exc c fs s3 => rw [e6] at q6; cases q6
                      | ok c s9 =>
                        rw [e6] at q6
                        dsimp only at q6
                        intro ρ9 H9 u9 S9
                        have uu9 := ((u6.trans u7).trans u8).trans u9
                        cases c with
                        | false => exact iteF ⟨hlt1, ρ9, s9, uu9, S9, q6⟩
                        | true =>
                          refine iteT ?_
                          rw [if_pos rfl] at q6
                          refine ⟨ρ9, s9, σ8, S9, R8.up u9, ?_⟩
                          cases e7 : m σ8 s9 with
                          | no => rw [e7] at q6; cases q6
                          | exc c fs s4 => rw [e7] at q6; cases q6
                          | ok y s10 =>
                            rw [e7] at q6
                            dsimp only at q6
                            split at q6
                            · rename_i acc ea
                              split at q6
                              · rename_i hz
                                intro ρ10 H10 u10 S10 w10 hv10
                                obtain ⟨b0, b, vs', b1, b2, b3⟩ := getM_at S10 ea
                                have hd10 : ρ10[st0.length]? = some D := (uu9.trans u10).r _ _ hd5
                                rw [hd10] at b1; cases b1
                                exact ⟨vs', b2, by rw [b3.length]; exact hz, hlt1, ρ10, _, (uu9.trans u10).trans (up_write b2), S10.write b0 hd10 b2 (b3.append (VRs.cons_iff.mpr ⟨w10, [], rfl, hv10, VRs.nil_iff.mpr rfl⟩)), q6⟩
                              · cases q6
                            · cases q6
                  · cases q6
                · have e : all1.drop j = [] := List.drop_eq_nil_of_le (by omega)
                  rw [e] at q6
                  unfold innerF at q6
                  split at q6
                  · rename_i hst1
                    cases q6
                    exact .inl ⟨hJ1.stop j ρ6 H6 _ u6 S6 hst1 (by show all1.length ≤ j; omega), hlt, ρ6, _, uu5.trans u6, u6.r _ _ hd5, S6, Post.up u6 p5⟩
                  · cases q6
    · exact p1.elim
  · have e : all.drop i = [] := List.drop_eq_nil_of_le (by omega)
    rw [e] at p1
    unfold lc2F at p1
    split at p1
    · rename_i hst
      refine .inl ⟨hJ.stop i ρ1 H1 st1 u1 S1 hst (by omega), p1 ρ1 H1 Up.refl S1 _ (VR.ref_iff.mpr ⟨D, rfl, hd1⟩)⟩
    · exact p1.elim
theorem e_lc2 {elt tg iter tg1 iter1 : Expr} {ifs ifs1 : List Expr} {scope : Scope} {own : List (Str × Nat)} {vs1 : List Nat} {pos : Pos} {mi mi1 : MI} {g g1 : MG} {t t1 : MT} {tt tt1 : TT} {m : ME} (ht' : ∀ σ H Q, tT C.in t σ H Q → tt σ H Q) (ht1' : ∀ σ H Q, tT C.in t1 σ H Q → tt1 σ H Q) (hc : X.calm = true) (hN : X.N.Nodup)
    (hi : PI X tg iter (tI C mi)) (ok : BlkOk X.N X.env.scope scope own) (hv : ∀ i ∈ vs1, i ∈ own.map (·.2))
    (hg : ∀ (s : Shared) (H : Hp) (D : Addr) (cl : List (Str × Addr)) (fp : List Addr), PG (X.blk s H scope (compEnvC scope cl D X.env) fp) tg (tG C.in (own.map (·.2)) g)) (ht : ∀ (s : Shared) (H : Hp) (D : Addr) (cl : List (Str × Addr)) (fp : List Addr), PTs (X.blk s H scope (compEnvC scope cl D X.env) fp) ifs tt)
    (hi1 : ∀ (s : Shared) (H : Hp) (D : Addr) (cl : List (Str × Addr)) (fp : List Addr), PI (X.blk s H scope (compEnvC scope cl D X.env) fp) tg1 iter1 (tI C.in mi1))
    (hg1 : ∀ (s : Shared) (H : Hp) (D : Addr) (cl : List (Str × Addr)) (fp : List Addr), PG (X.blk s H scope (compEnvC scope cl D X.env) fp) tg1 (tG C.in vs1 g1)) (ht1 : ∀ (s : Shared) (H : Hp) (D : Addr) (cl : List (Str × Addr)) (fp : List Addr), PTs (X.blk s H scope (compEnvC scope cl D X.env) fp) ifs1 tt1)
    (he : ∀ (s : Shared) (H : Hp) (D : Addr) (cl : List (Str × Addr)) (fp : List Addr), PE (X.blk s H scope (compEnvC scope cl D X.env) fp) elt (tE C.in m)) (hs : ∀ x, foldedSetIterable iter X.env x = pure x := by intro _; rfl) (hs1 : ∀ env x, foldedSetIterable iter1 env x = pure x := by intro _ _; rfl) :
    PE X (.ListComp elt [⟨tg, iter, ifs, 0⟩, ⟨tg1, iter1, ifs1, 0⟩] scope pos) (tE C (mLc2 mi g t mi1 g1 t1 m (own.map (·.2)) vs1)) := (pe_lc2 hc hN hi ok hv hg ht hi1 hg1 ht1 he hs hs1).weak fun σ H Q h => lc2_run ht' ht1' h

/-! ### xs[i], slices -/
theorem VRs.atI {K : PySem.W.Frag} {ρ : List Addr} {H : Hp} {xs : List PV} {vs : List V} {i : Int} {x : PV} (r : VRs K ρ H xs vs) (h : L2.atI xs i = some x) : ∃ v, L2.atI vs i = some v ∧ VR K ρ H x v := by
  unfold L2.atI at h ⊢
  rw [r.length]
  cases e : ixN xs.length i with
  | none => rw [e] at h; cases h
  | some j => rw [e] at h; exact r.get h
def ixF : M2 := fun x y st => match y with
  | .int i => match x with
    | .ref n => match getL st n with
      | some xs => match atI xs i with
        | some z => .ok z st
        | none => .no
      | none => .no
    | .tup xs => match atI xs i with
      | some z => .ok z st
      | none => .no
    | .str z => if z.length ≤ sizeLine then match atI z.cps.toList i with
        | some c => .ok (.str ⟨#[c]⟩) st
        | none => .no
      else .no
    | _ => .no
  | _ => .no
theorem calm_ix : Calm2 ixF := fun x y st c fs st' e => by
  unfold ixF at e
  split at e <;> (try split at e) <;> (try split at e) <;> (try split at e) <;> cases e
theorem ixS (hK : X.K = C.K) : IxR X (rS C.G ixF) := by
  intro value slice pins s σ H x y v u Q I rx ry ⟨ρ, st, xh, yh, S, hx, hy, r, st', e, k⟩ hs
  unfold ixF at e
  split at e
  · rename_i i
    rw [VR.int_iff] at hy
    subst hy
    split at e
    · rename_i n
      split at e
      · rename_i xs en
        split at e
        · rename_i z ez
          cases e
          rw [VR.ref_iff] at hx
          obtain ⟨a, rfl, ha⟩ := hx
          obtain ⟨b, vs, h1, h2, h3⟩ := getL_sql S en
          rw [ha] at h1; cases h1
          obtain ⟨w, e1, e2⟩ := h3.atI ez
          exact ix_list value slice pins s σ H _ _ v u Q I rx ry ⟨a, vs, i, w, rfl, rfl, hK ▸ h2, e1, k ρ H w Up.refl S e2⟩ hs
        · cases e
      · cases e
    · rename_i xs
      split at e
      · rename_i z ez
        cases e
        rw [VR.tup_iff] at hx
        obtain ⟨a, vs, rfl, h2, h3⟩ := hx
        obtain ⟨w, e1, e2⟩ := h3.atI ez
        exact ix_tup value slice pins s σ H _ _ v u Q I rx ry ⟨a, vs, i, w, rfl, rfl, hK ▸ h2, e1, k ρ H w Up.refl S e2⟩ hs
      · cases e
    · rename_i z
      split at e
      · split at e
        · rename_i c ec
          cases e
          rw [VR.str_iff] at hx
          subst hx
          exact ix_str value slice pins s σ H _ _ v u Q I rx ry ⟨z, i, c, rfl, rfl, by assumption, ec, k ρ H _ Up.refl S (VR.str_iff.mpr rfl)⟩ hs
        · cases e
      · cases e
    · cases e
  · cases e
theorem e_ix {a b : Expr} {ma mb : ME} {pos : Pos} (hK : X.K = C.K) (ha : PE X a (tE C ma)) (hb : PE X b (tE C mb)) (hs : PlainIx b := by intro _ _; rfl) : PE X (.Subscript a b pos) (tE C (mOp ixF ma mb)) :=
  (pe_ix (ixS hK) ha hb hs).weak fun _ _ _ h => op_run calm_ix h
def cutP (xs : List PV) (lo hi : Option Int) : List PV := (xs.drop (HT.sIx xs.length 0 lo)).take (HT.sIx xs.length xs.length hi - HT.sIx xs.length 0 lo)
theorem VRs.cut {K : PySem.W.Frag} {ρ : List Addr} {H : Hp} {xs : List PV} {vs : List V} (lo hi : Option Int) (r : VRs K ρ H xs vs) : VRs K ρ H (cutP xs lo hi) (cutV vs lo hi) := by
  unfold cutP cutV
  rw [r.length]
  exact (r.drop _).take _
def slF (x : PV) (lo hi : Option Int) (st : Store) : Res PV := match x with
  | .ref n => match getL st n with
    | some xs => newL (cutP xs lo hi) st
    | none => .no
  | .tup xs => .ok (.tup (cutP xs lo hi)) st
  | .str z => if z.length ≤ sizeLine then .ok (.str (cutS z lo hi)) st else .no
  | _ => .no
def rSl (G : Gc) : V → Option Int → Option Int → Hp → VK → Prop := fun x lo hi H Q => ∃ ρ st xh, SR G ρ H st ∧ VR G.K ρ H xh x ∧ ∃ r st', slF xh lo hi st = .ok r st' ∧ ∀ ρ' H' v, Up G.K ρ H ρ' H' → SR G ρ' H' st' → VR G.K ρ' H' r v → Q v H'
theorem cut_whole {α : Type} (xs : List α) (lo hi : Option Int) (h : HT.sIx xs.length 0 lo = 0 ∧ HT.sIx xs.length xs.length hi = xs.length) : (xs.drop (HT.sIx xs.length 0 lo)).take (HT.sIx xs.length xs.length hi - HT.sIx xs.length 0 lo) = xs := by
  rw [h.1, h.2, List.drop_zero, Nat.sub_zero, List.take_length]
theorem slS (hK : X.K = C.K) : L2.SlR X (rSl C.G) := by
  intro pins s σ H x v vl vu lo hi sl Q I rx hs pl pu ⟨ρ, st, xh, S, hx, r, st', e, k⟩
  unfold slF at e
  split at e
  · split at e
    · rename_i xs en
      rw [VR.ref_iff] at hx
      obtain ⟨a, rfl, ha⟩ := hx
      obtain ⟨b, vs, h1, h2, h3⟩ := getL_sql S en
      rw [ha] at h1; cases h1
      exact sl_list pins s σ H _ v vl vu lo hi sl Q I rx hs pl pu ⟨a, vs, rfl, hK ▸ h2, (S.newL (h3.cut lo hi) e k).2⟩
    · cases e
  · rename_i xs
    cases e
    rw [VR.tup_iff] at hx
    obtain ⟨a, vs, rfl, h2, h3⟩ := hx
    refine sl_tupA pins s σ H _ v vl vu lo hi sl Q I rx hs pl pu ⟨a, vs, rfl, hK ▸ h2, fun z => ?_, fun z p hp => k ρ _ _ (up_new hp) (S.new hp) (VR.mk_tup hp (h3.cut lo hi))⟩
    refine k ρ H _ Up.refl S (VR.tup_iff.mpr ⟨a, vs, rfl, h2, ?_⟩)
    rw [h3.length] at z
    rw [show cutP xs lo hi = xs from cut_whole xs lo hi z]
    exact h3
  · split at e
    · cases e
      rw [VR.str_iff] at hx
      subst hx
      exact sl_str pins s σ H _ v vl vu lo hi sl Q I rx hs pl pu ⟨_, rfl, by assumption, k ρ H _ Up.refl S (VR.str_iff.mpr rfl)⟩
    · cases e
  · cases e
def mO (o : Option ME) : Slots → Store → Res (Option Int) := fun σ st => match o with
  | none => .ok none st
  | some m => (m σ st).bind fun x s1 => match x with
    | .int i => .ok (some i) s1
    | _ => .no
def mSl (a : ME) (lo hi : Option ME) : ME := fun σ st => (a σ st).bind fun x s1 => (mO lo σ s1).bind fun l s2 => (mO hi σ s2).bind fun h s3 => match slF x l h s3 with
  | .ok r s4 => .ok r s4
  | _ => .no
def tO (C : Wc) (o : Option ME) : TO := fun σ H Q => ∃ ρ st σh, SR C.G ρ H st ∧ SlR C.K ρ H σh σ ∧ Post C ρ H σ (fun _ H' r => Q r H') (mO o σh st)
theorem _root_.L2.PO.weak {e : Option Expr} {t t' : TO} (h : PO X e t) (w : ∀ σ H Q, t' σ H Q → t σ H Q) : PO X e t' := ⟨fun pins s σ H Q I q => h.run pins s σ H Q I (w σ H Q q)⟩
theorem o_none : PO X none (tO C none) := po_none.weak fun σ H Q ⟨ρ, st, σh, S, R, p⟩ => p ρ H Up.refl S
theorem o_some {e : Expr} {m : ME} (h : PE X e (tE C m)) : PO X (some e) (tO C (some m)) := (po_some h).weak fun σ H Q ⟨ρ, st, σh, S, R, p⟩ => ⟨ρ, st, σh, S, R, (Post.bind p).imp fun ρ1 H1 x s1 _ u1 S1 ⟨s1', S1', p1⟩ v hv => by
  cases x with
  | int i => rw [VR.int_iff] at hv; exact ⟨i, hv, p1 ρ1 H1 Up.refl S1'⟩
  | _ => exact p1.elim⟩
theorem e_slice {e : Expr} {lo hi : Option Expr} {m : ME} {ml mh : Option ME} {pos p2 : Pos} (hK : X.K = C.K) (he : PE X e (tE C m)) (hl : PO X lo (tO C ml)) (hh : PO X hi (tO C mh)) : PE X (.Subscript e (.Slice lo hi none p2) pos) (tE C (mSl m ml mh)) :=
  (pe_slice (slS hK) he hl hh).weak fun σ H Q ⟨ρ, st, σh, S, R, p⟩ => ⟨ρ, st, σh, S, R, (Post.bind p).imp fun ρ1 H1 x s1 _ u1 S1 ⟨s1', S1', p1⟩ v hv =>
    ⟨ρ1, s1', σh, S1', R.up u1, (Post.bind p1).imp fun ρ2 H2 l s2 _ u2 S2 ⟨s2', S2', p2⟩ => ⟨ρ2, s2', σh, S2', R.up (u1.trans u2), (Post.bind p2).imp fun ρ3 H3 h s3 _ u3 S3 ⟨s3', S3', p3⟩ => by
      refine ⟨ρ3, s3', x, S3', hv.up (u2.trans u3), ?_⟩
      cases e : slF x l h s3' with
      | ok r s4 => rw [e] at p3; exact ⟨r, s4, rfl, fun ρ' H' v u S' r' => p3 ρ' H' u S' v r'⟩
      | exc _ _ _ => rw [e] at p3; exact p3.elim
      | no => rw [e] at p3; exact p3.elim⟩⟩⟩
end
end Sm

namespace Sm
open PySem PySem.Spec PyProof.Rows L2
/-! ### built-ins -/
abbrev MC := List PV → Store → Res PV
def rA (G : Gc) (f : MC) : List V → Hp → VK → Prop := fun vs H Q => ∃ ρ st xs, SR G ρ H st ∧ VRs G.K ρ H xs vs ∧ ∃ r st', f xs st = .ok r st' ∧ ∀ ρ' H' v, Up G.K ρ H ρ' H' → SR G ρ' H' st' → VR G.K ρ' H' r v → Q v H'
def mCall (f : MC) (a : MA) : ME := fun σ st => (a σ st).bind fun xs s1 => match f xs s1 with
  | .ok r s2 => .ok r s2
  | _ => .no
theorem call_run {C : Wc} {f : MC} {a : MA} {σ : L2.St} {H : Hp} {Q : VK} (h : tE C (mCall f a) σ H Q) : tA C a σ H fun vs H1 => rA C.G f vs H1 Q := by
  obtain ⟨ρ, st, σh, S, R, p⟩ := h
  refine ⟨ρ, st, σh, S, R, (Post.bind p).imp fun ρ1 H1 xs s1 _ u1 S1 ⟨s1', S1', p1⟩ vs hv => ?_⟩
  refine ⟨ρ1, s1', xs, S1', hv, ?_⟩
  cases e : f xs s1' with
  | ok r s4 => rw [e] at p1; exact ⟨r, s4, rfl, fun ρ' H' v u S' r' => p1 ρ' H' u S' v r'⟩
  | exc _ _ _ => rw [e] at p1; exact p1.elim
  | no => rw [e] at p1; exact p1.elim
theorem VRs.one {K : PySem.W.Frag} {ρ : List Addr} {H : Hp} {x : PV} {vs : List V} (r : VRs K ρ H [x] vs) : ∃ v, vs = [v] ∧ VR K ρ H x v := by
  rw [VRs.cons_iff] at r
  obtain ⟨v, r, rfl, h1, h2⟩ := r
  rw [VRs.nil_iff] at h2
  subst h2
  exact ⟨v, rfl, h1⟩
theorem VRs.two {K : PySem.W.Frag} {ρ : List Addr} {H : Hp} {x y : PV} {vs : List V} (r : VRs K ρ H [x, y] vs) : ∃ v w, vs = [v, w] ∧ VR K ρ H x v ∧ VR K ρ H y w := by
  rw [VRs.cons_iff] at r
  obtain ⟨v, r, rfl, h1, h2⟩ := r
  obtain ⟨w, rfl, h3⟩ := h2.one
  exact ⟨v, w, rfl, h1, h3⟩
inductive Ty where
  | non | bl | int | str | tup | lst | dct
  deriving DecidableEq
def Ty.name : Ty → String
  | .non => "NoneType" | .bl => "bool" | .int => "int" | .str => "str" | .tup => "tuple" | .lst => "list" | .dct => "dict"
def isT (a b : Ty) : Bool := decide (a = b) || (decide (a = .bl) && decide (b = .int))
theorem kit_isT (a b : Ty) : kitB a.name b.name = some (isT a b) := by cases a <;> cases b <;> decide +kernel
def tyC (x : PV) (st : Store) : Option Ty := match x with
  | .non => some .non
  | .bl _ => some .bl
  | .int _ => some .int
  | .str _ => some .str
  | .tup _ => some .tup
  | .ref n => match getL st n with
    | some _ => some .lst
    | none => match st[n]? with
      | some (.dk _) => some .dct
      | _ => none
theorem tyC_ok {G : Gc} {ρ : List Addr} {H : Hp} {st : Store} {x : PV} {v : V} {t : Ty} (S : SR G ρ H st) (r : VR G.K ρ H x v) (h : tyC x st = some t) : TyX G.K H v (.type t.name) := by
  cases x with
  | non => cases h; rw [VR.non_iff] at r; subst r; exact .base .non
  | bl b => cases h; rw [VR.bl_iff] at r; subst r; exact .base (.bl b)
  | int i => cases h; rw [VR.int_iff] at r; subst r; exact .base (.int i)
  | str x => cases h; rw [VR.str_iff] at r; subst r; exact .base (.str x)
  | tup xs =>
    cases h
    rw [VR.tup_iff] at r
    obtain ⟨a, vs, rfl, h1, _⟩ := r
    rcases h1 with (h1 | ⟨o, h1⟩) | ⟨o, _, _, h1, h2, _⟩
    · exact .base (.tup h1)
    · exact .fTuple h1
    · exact .kTuple h1 h2
  | ref n =>
    unfold tyC at h
    dsimp only at h
    cases e : getL st n with
    | none =>
      rw [e] at h
      dsimp only at h
      split at h
      · rename_i kvs ek
        cases h
        rw [VR.ref_iff] at r
        obtain ⟨a, rfl, ha⟩ := r
        obtain ⟨vs, h1, _⟩ := S.cel n _ a ek ha
        exact .base (.dK h1)
      · cases h
    | some xs =>
      rw [e] at h
      cases h
      rw [VR.ref_iff] at r
      obtain ⟨a, rfl, ha⟩ := r
      obtain ⟨b, vs, h1, h2, _⟩ := getL_sql S e
      rw [ha] at h1; cases h1
      rcases h2 with (h2 | ⟨o, h2⟩) | ⟨o, _, _, h1, h2, _⟩
      · exact .base (.lst h2)
      · exact .base (.frz h2)
      · exact .kList h1 h2
section
variable {X : Cx} {C : Wc}
theorem e_cb {id : String} {x : Str} {e : Expr} {es : List Expr} {f : MC} {m : MA} {p pos : Pos} (hc : CallR X (.builtin id) (rA C.G f)) (hm : X.mg x = none) (hv : bootBuiltins x = some (.builtin id)) (ha : PA X (e :: es) (tA C m)) (hg : Gl X x := by rfl) (hn : x ≠ "__name__" := by decide) (hdb : (x == ("__debug__" : Str)) = false := by decide)
    (he : starEach (e :: es) X.env = (false, eval e X.env) :: starEach es X.env := by rfl) (hpl : (backTo pos (starEach es X.env)).any (·.1) = false := by rfl) : PE X (.Call (.Name x p) (e :: es) [] pos) (tE C (mCall f m)) :=
  (pe_callB hc hg hm hv ha hn hdb he hpl).weak fun _ _ _ h => call_run h
theorem e_ct {T : String} {x : Str} {e : Expr} {es : List Expr} {f : MC} {m : MA} {p pos : Pos} (hc : CallR X (.type T) (rA C.G f)) (hm : X.mg x = none) (hv : bootBuiltins x = some (.type T)) (ha : PA X (e :: es) (tA C m)) (hg : Gl X x := by rfl) (hn : x ≠ "__name__" := by decide) (hdb : (x == ("__debug__" : Str)) = false := by decide)
    (he : starEach (e :: es) X.env = (false, eval e X.env) :: starEach es X.env := by rfl) (hpl : (backTo pos (starEach es X.env)).any (·.1) = false := by rfl) : PE X (.Call (.Name x p) (e :: es) [] pos) (tE C (mCall f m)) :=
  (pe_callTy hc hg hm hv ha hn hdb he hpl).weak fun _ _ _ h => call_run h
def lenF : MC := fun xs st => match xs with
  | [.ref n] => match getL st n with
    | some ys => .ok (.int (ys.length : Nat)) st
    | none => .no
  | [.tup ys] => .ok (.int (ys.length : Nat)) st
  | [.str z] => if z.length ≤ sizeLine then .ok (.int (z.length : Nat)) st else .no
  | _ => .no
theorem c_len (hK : X.K = C.K) : CallR X (.builtin "len") (rA C.G lenF) := by
  intro pins s σ H vs us Q I rv ⟨ρ, st, xs, S, hx, r, st', e, k⟩
  unfold lenF at e
  split at e
  · split at e
    · rename_i ys en
      cases e
      obtain ⟨v, rfl, h1⟩ := hx.one
      rw [VR.ref_iff] at h1
      obtain ⟨a, rfl, ha⟩ := h1
      obtain ⟨b, ws, h1, h2, h3⟩ := getL_sql S en
      rw [ha] at h1; cases h1
      exact call_len_seq pins s σ H _ us Q I rv ⟨a, ws, rfl, .inl (hK ▸ h2), by rw [h3.length]; exact k ρ H _ Up.refl S (VR.int_iff.mpr rfl)⟩
    · cases e
  · cases e
    obtain ⟨v, rfl, h1⟩ := hx.one
    rw [VR.tup_iff] at h1
    obtain ⟨a, ws, rfl, h2, h3⟩ := h1
    exact call_len_seq pins s σ H _ us Q I rv ⟨a, ws, rfl, .inr (hK ▸ h2), by rw [h3.length]; exact k ρ H _ Up.refl S (VR.int_iff.mpr rfl)⟩
  · split at e
    · cases e
      obtain ⟨v, rfl, h1⟩ := hx.one
      rw [VR.str_iff] at h1
      subst h1
      exact call_len_str pins s σ H _ us Q I rv ⟨_, rfl, by assumption, k ρ H _ Up.refl S (VR.int_iff.mpr rfl)⟩
    · cases e
  · cases e
def maxF : MC := fun xs st => match xs with
  | [.int i, .int j] => .ok (.int (if j > i then j else i)) st
  | _ => .no
def minF : MC := fun xs st => match xs with
  | [.int i, .int j] => .ok (.int (if j < i then j else i)) st
  | _ => .no
theorem c_max (hc : X.calm = true) : CallR X (.builtin "max") (rA C.G maxF) := by
  intro pins s σ H vs us Q I rv ⟨ρ, st, xs, S, hx, r, st', e, k⟩
  unfold maxF at e
  split at e
  · cases e
    obtain ⟨v, w, rfl, h1, h2⟩ := hx.two
    rw [VR.int_iff] at h1 h2
    subst h1 h2
    exact call_max2 hc pins s σ H _ us Q I rv ⟨_, _, rfl, k ρ H _ Up.refl S (VR.int_iff.mpr rfl)⟩
  · cases e
theorem c_min (hc : X.calm = true) : CallR X (.builtin "min") (rA C.G minF) := by
  intro pins s σ H vs us Q I rv ⟨ρ, st, xs, S, hx, r, st', e, k⟩
  unfold minF at e
  split at e
  · cases e
    obtain ⟨v, w, rfl, h1, h2⟩ := hx.two
    rw [VR.int_iff] at h1 h2
    subst h1 h2
    exact call_min2 hc pins s σ H _ us Q I rv ⟨_, _, rfl, k ρ H _ Up.refl S (VR.int_iff.mpr rfl)⟩
  · cases e
def absF : MC := fun xs st => match xs with
  | [.int i] => .ok (.int (if i < 0 then -i else i)) st
  | _ => .no
theorem c_abs : CallR X (.builtin "abs") (rA C.G absF) := by
  intro pins s σ H vs us Q I rv ⟨ρ, st, xs, S, hx, r, st', e, k⟩
  unfold absF at e
  split at e
  · cases e
    obtain ⟨v, rfl, h1⟩ := hx.one
    rw [VR.int_iff] at h1
    subst h1
    exact call_abs pins s σ H _ us Q I rv ⟨_, rfl, k ρ H _ Up.refl S (VR.int_iff.mpr rfl)⟩
  · cases e
def strIF : MC := fun xs st => match xs with
  | [.int i] => if i.natAbs.log2 < 1920 then .ok (.str (toString i)) st else .no
  | _ => .no
theorem c_strI : CallR X (.type "str") (rA C.G strIF) := by
  intro pins s σ H vs us Q I rv ⟨ρ, st, xs, S, hx, r, st', e, k⟩
  unfold strIF at e
  split at e
  · split at e
    · cases e
      obtain ⟨v, rfl, h1⟩ := hx.one
      rw [VR.int_iff] at h1
      subst h1
      exact call_str_int pins s σ H _ us Q I rv ⟨_, rfl, by assumption, k ρ H _ Up.refl S (VR.str_iff.mpr rfl)⟩
    · cases e
  · cases e
def listF : MC := fun xs st => match xs with
  | [.ref n] => match getL st n with
    | some ys => newL ys st
    | none => .no
  | [.tup ys] => newL ys st
  | _ => .no
theorem c_list (hK : X.K = C.K) : CallR X (.type "list") (rA C.G listF) := by
  intro pins s σ H vs us Q I rv ⟨ρ, st, xs, S, hx, r, st', e, k⟩
  unfold listF at e
  split at e
  · split at e
    · rename_i ys en
      obtain ⟨v, rfl, h1⟩ := hx.one
      rw [VR.ref_iff] at h1
      obtain ⟨a, rfl, ha⟩ := h1
      obtain ⟨b, ws, h1, h2, h3⟩ := getL_sql S en
      rw [ha] at h1; cases h1
      exact call_list_of pins s σ H _ us Q I rv ⟨a, ws, rfl, .inl (hK ▸ h2), (S.newL h3 e k).2⟩
    · cases e
  · obtain ⟨v, rfl, h1⟩ := hx.one
    rw [VR.tup_iff] at h1
    obtain ⟨a, ws, rfl, h2, h3⟩ := h1
    exact call_list_of pins s σ H _ us Q I rv ⟨a, ws, rfl, .inr (hK ▸ h2), (S.newL h3 e k).2⟩
  · cases e
def tupF : MC := fun xs st => match xs with
  | [.ref n] => match getL st n with
    | some ys => .ok (.tup ys) st
    | none => .no
  | [.tup ys] => .ok (.tup ys) st
  | _ => .no
theorem c_tup (hK : X.K = C.K) : CallR X (.type "tuple") (rA C.G tupF) := by
  intro pins s σ H vs us Q I rv ⟨ρ, st, xs, S, hx, r, st', e, k⟩
  unfold tupF at e
  split at e
  · split at e
    · rename_i ys en
      cases e
      obtain ⟨v, rfl, h1⟩ := hx.one
      rw [VR.ref_iff] at h1
      obtain ⟨a, rfl, ha⟩ := h1
      obtain ⟨b, ws, h1, h2, h3⟩ := getL_sql S en
      rw [ha] at h1; cases h1
      exact call_tuple_of pins s σ H _ us Q I rv ⟨a, ws, rfl, .inl ⟨hK ▸ h2, fun l hl => k ρ _ _ (up_new hl) (S.new hl) (VR.mk_tup hl h3)⟩⟩
    · cases e
  · cases e
    obtain ⟨v, rfl, h1⟩ := hx.one
    rw [VR.tup_iff] at h1
    obtain ⟨a, ws, rfl, h2, h3⟩ := h1
    exact call_tuple_of pins s σ H _ us Q I rv ⟨a, ws, rfl, .inr ⟨hK ▸ h2, k ρ H _ Up.refl S (VR.tup_iff.mpr ⟨a, ws, rfl, h2, h3⟩)⟩⟩
  · cases e
/-- isinstance(e, T) -/
def mIsi (t : Ty) (a : ME) : ME := fun σ st => (a σ st).bind fun x s1 => match tyC x s1 with
  | some u => .ok (.bl (isT u t)) s1
  | none => .no
theorem e_isi (t : Ty) {e : Expr} {m : ME} {x : Str} {p p2 pos : Pos} (hK : X.K = C.K) (hm : X.mg "isinstance" = none) (hx : X.mg x = none) (hv : bootBuiltins x = some (.type t.name)) (h : PE X e (tE C m)) (hg : Gl X "isinstance" := by rfl) (hgx : Gl X x := by rfl) (hn : x ≠ "__name__" := by decide) (hdb : (x == ("__debug__" : Str)) = false := by decide)
    (he : starEach [e, .Name x p2] X.env = [(false, eval e X.env), (false, eval (.Name x p2) X.env)] := by rfl) (he2 : starEach [.Name x p2] X.env = [(false, eval (.Name x p2) X.env)] := by rfl) (hpl : (backTo pos (starEach [.Name x p2] X.env)).any (·.1) = false := by rfl) :
    PE X (.Call (.Name "isinstance" p) [e, .Name x p2] [] pos) (tE C (mIsi t m)) :=
  (pe_callB call_isi hg hm (by decide +kernel) (pa_cons h (pa_cons (pe_bltn (v := .ty t.name) hgx hx hv rfl hn hdb) pa_nil (by rw [he2]; rfl)) (by rw [he, he2])) (by decide) (by decide) (by rw [he, he2]) hpl).weak fun σ H Q ⟨ρ, st, σh, S, R, p⟩ => by
    refine ⟨ρ, st, σh, S, R, (Post.bind p).imp fun ρ1 H1 x s1 _ u1 S1 ⟨s1', S1', p1⟩ v hv => ?_⟩
    cases e : tyC x s1' with
    | none => rw [e] at p1; exact p1.elim
    | some u =>
      rw [e] at p1
      refine ⟨v, .ty t.name, .type u.name, .type t.name, isT u t, rfl, .ty _, ?_, kit_ty (kit_isT u t), p1 ρ1 H1 Up.refl S1' _ (VR.bl_iff.mpr rfl)⟩
      rw [hK]
      exact tyC_ok S1' hv e

/-! ### methods of lists -/
def mBM (T : Ty) (f : PV → List PV → Store → Res PV) (o : ME) (a : MA) : ME := fun σ st => (o σ st).bind fun x s1 => if tyC x s1 = some T ∧ T ≠ .tup then (a σ s1).bind fun xs s2 => match f x xs s2 with
    | .ok r s3 => .ok r s3
    | _ => .no
  else .no
def rBM (G : Gc) (f : PV → List PV → Store → Res PV) : V → List V → Hp → VK → Prop := fun v vs H Q => ∃ ρ st x xs, SR G ρ H st ∧ VR G.K ρ H x v ∧ VRs G.K ρ H xs vs ∧ ∃ r st', f x xs st = .ok r st' ∧ ∀ ρ' H' v, Up G.K ρ H ρ' H' → SR G ρ' H' st' → VR G.K ρ' H' r v → Q v H'
theorem tyV_of {G : Gc} {ρ : List Addr} {H : Hp} {st : Store} {x : PV} {v : V} {T : Ty} (S : SR G ρ H st) (r : VR G.K ρ H x v) (h : tyC x st = some T) (h1 : T = .lst ∨ T = .str) : tyV G.K T.name v H := by
  cases x with
  | non => cases h; simp at h1
  | bl b => cases h; simp at h1
  | int i => cases h; simp at h1
  | tup xs => cases h; simp at h1
  | str x => cases h; rw [VR.str_iff] at r; subst r; rfl
  | ref n =>
    unfold tyC at h
    dsimp only at h
    cases e : getL st n with
    | none =>
      rw [e] at h
      dsimp only at h
      split at h
      · cases h; simp at h1
      · cases h
    | some xs =>
      rw [e] at h
      cases h
      rw [VR.ref_iff] at r
      obtain ⟨a, rfl, ha⟩ := r
      obtain ⟨b, vs, q1, q2, _⟩ := getL_sql S e
      rw [ha] at q1; cases q1
      exact .inl ⟨rfl, vs, q2⟩
theorem bm_run {T : Ty} {f : PV → List PV → Store → Res PV} {o : ME} {a : MA} {σ : L2.St} {H : Hp} {Q : VK} (hK : X.K = C.K) (hT : T = .lst ∨ T = .str) (h : tE C (mBM T f o a) σ H Q) : tBM X.K T.name (rBM C.G f) (tE C o) (tA C a) σ H Q := by
  obtain ⟨ρ, st, σh, S, R, p⟩ := h
  refine ⟨ρ, st, σh, S, R, (Post.bind p).imp fun ρ1 H1 x s1 _ u1 S1 ⟨s1', S1', p1⟩ v hv => ?_⟩
  split at p1
  · rename_i hc
    refine ⟨hK ▸ tyV_of S1' hv hc.1 hT, ρ1, s1', σh, S1', R.up u1, (Post.bind p1).imp fun ρ2 H2 xs s2 _ u2 S2 ⟨s2', S2', p2⟩ vs hvs => ?_⟩
    refine ⟨ρ2, s2', x, xs, S2', hv.up u2, hvs, ?_⟩
    cases e : f x xs s2' with
    | ok r s4 => rw [e] at p2; exact ⟨r, s4, rfl, fun ρ' H' v u S' r' => p2 ρ' H' u S' v r'⟩
    | exc _ _ _ => rw [e] at p2; exact p2.elim
    | no => rw [e] at p2; exact p2.elim
  · exact p1.elim
theorem e_bm {T : Ty} {name : Str} {id : String} {f : PV → List PV → Store → Res PV} {o e : Expr} {es : List Expr} {mo : ME} {ma : MA} {apos cpos : Pos} (hK : X.K = C.K) (hT : T = .lst ∨ T = .str) (pa : PlainAttrs T.name) (slot : Slot T.name name id) (hty : typeOf (.builtin id) = pure (.type "method_descriptor"))
    (hm : MtR X id (rBM C.G f)) (ho : PE X o (tE C mo)) (ha : PA X (e :: es) (tA C ma)) (hbase : attributeBase o name X.env (eval o X.env) = eval o X.env := by rfl)
    (hfew : ((backTo cpos (starEach (e :: es) X.env)).all (fun x => !x.1) && (backToKw cpos (keywordEach [] X.env)).all (fun x => x.1.isSome)
      && decide ((e :: es).length + ([] : List Keyword).length + (if ([] : List Keyword).isEmpty then 0 else 1) < 30)) = true := by rfl)
    (hline : (apos.endLine == cpos.line) = true := by rfl) (hs : starEach (e :: es) X.env = (false, eval e X.env) :: starEach es X.env := by rfl) (hplain : (backTo cpos (starEach es X.env)).any (·.1) = false := by rfl) :
    PE X (.Call (.Attribute o name apos) (e :: es) [] cpos) (tE C (mBM T f mo ma)) := (pe_bm pa slot hty hm ho ha hbase hfew hline hs hplain).weak fun _ _ _ h => bm_run hK hT h
theorem e_bm0 {T : Ty} {name : Str} {id : String} {f : PV → List PV → Store → Res PV} {o : Expr} {mo : ME} {apos cpos : Pos} (hK : X.K = C.K) (hT : T = .lst ∨ T = .str) (pa : PlainAttrs T.name) (slot : Slot T.name name id) (hty : typeOf (.builtin id) = pure (.type "method_descriptor"))
    (hm : MtR X id (rBM C.G f)) (ho : PE X o (tE C mo)) (hbase : attributeBase o name X.env (eval o X.env) = eval o X.env := by rfl) (hline : (apos.endLine == cpos.line) = true := by rfl) :
    PE X (.Call (.Attribute o name apos) [] [] cpos) (tE C (mBM T f mo mNil)) := (pe_bm0 pa slot hty hm ho hbase hline).weak fun σ H Q h => by
  obtain ⟨ρ, st, σh, S, R, p⟩ := bm_run (X := X) hK hT h
  exact ⟨ρ, st, σh, S, R, p.imp fun ρ1 H1 x s1 _ u1 S1 q v hv => by
    obtain ⟨q1, ρ2, s2, σ2, S2, R2, q2⟩ := q v hv
    exact ⟨q1, q2 ρ2 H1 Up.refl S2 [] (VRs.nil_iff.mpr rfl)⟩⟩
def appF (x : PV) (xs : List PV) (st : Store) : Res PV := match x, xs with
  | .ref n, [y] => match getM st n with
    | some ys => if ys.length < sizeLine then .ok .non (st.set n (.lst (ys ++ [y]))) else .no
    | none => .no
  | _, _ => .no
theorem m_append : MtR X "list.append" (rBM C.G appF) := by
  intro pins s σ H v vs u us Q I ru rus ⟨ρ, st, x, xs, S, hx, hxs, r, st', e, k⟩
  unfold appF at e
  split at e
  · split at e
    · rename_i ys en
      split at e
      · cases e
        obtain ⟨b0, b, ws, b1, b2, b3⟩ := getM_at S en
        rw [VR.ref_iff] at hx
        obtain ⟨a, rfl, ha⟩ := hx
        rw [ha] at b1; cases b1
        obtain ⟨w, rfl, hw⟩ := hxs.one
        exact mt_append pins s σ H _ _ u us Q I ru rus ⟨_, ws, w, rfl, rfl, b2, by rw [b3.length]; assumption, k ρ _ _ (up_write b2) (S.write b0 ha b2 (b3.append (VRs.cons_iff.mpr ⟨w, [], rfl, hw, VRs.nil_iff.mpr rfl⟩))) (VR.non_iff.mpr rfl)⟩
      · cases e
    · cases e
  · cases e
def extF (x : PV) (xs : List PV) (st : Store) : Res PV := match x, xs with
  | .ref n, [.ref m] => match getM st n, getM st m with
    | some ys, some zs => if ys.length + zs.length ≤ sizeLine then .ok .non (st.set n (.lst (ys ++ zs))) else .no
    | _, _ => .no
  | _, _ => .no
theorem m_extend : MtR X "list.extend" (rBM C.G extF) := by
  intro pins s σ H v vs u us Q I ru rus ⟨ρ, st, x, xs, S, hx, hxs, r, st', e, k⟩
  unfold extF at e
  split at e
  · split at e
    · rename_i ys zs en em
      split at e
      · cases e
        obtain ⟨b0, b, ws, b1, b2, b3⟩ := getM_at S en
        obtain ⟨c0, c, zs', c1, c2, c3⟩ := getM_at S em
        rw [VR.ref_iff] at hx
        obtain ⟨a, rfl, ha⟩ := hx
        rw [ha] at b1; cases b1
        obtain ⟨w, rfl, hw⟩ := hxs.one
        rw [VR.ref_iff] at hw
        obtain ⟨d, rfl, hd⟩ := hw
        rw [hd] at c1; cases c1
        exact mt_extend pins s σ H _ _ u us Q I ru rus ⟨_, _, ws, zs', rfl, rfl, b2, c2, by rw [b3.length, c3.length]; assumption, k ρ _ _ (up_write b2) (S.write b0 ha b2 (b3.append c3)) (VR.non_iff.mpr rfl)⟩
      · cases e
    · cases e
  · cases e
def popF (x : PV) (xs : List PV) (st : Store) : Res PV := match x, xs with
  | .ref n, [] => match getM st n with
    | some ys => match ys[ys.length - 1]? with
      | some y => .ok y (st.set n (.lst ys.dropLast))
      | none => .no
    | none => .no
  | _, _ => .no
theorem VRs.dropLast {K : PySem.W.Frag} {ρ : List Addr} {H : Hp} {xs : List PV} {vs : List V} (r : VRs K ρ H xs vs) : VRs K ρ H xs.dropLast vs.dropLast := by
  rw [List.dropLast_eq_take, List.dropLast_eq_take, r.length]
  exact r.take _
theorem m_pop : MtR X "list.pop" (rBM C.G popF) := by
  intro pins s σ H v vs u us Q I ru rus ⟨ρ, st, x, xs, S, hx, hxs, r, st', e, k⟩
  unfold popF at e
  split at e
  · split at e
    · rename_i ys en
      split at e
      · rename_i y ey
        cases e
        obtain ⟨b0, b, ws, b1, b2, b3⟩ := getM_at S en
        rw [VR.ref_iff] at hx
        obtain ⟨a, rfl, ha⟩ := hx
        rw [ha] at b1; cases b1
        rw [VRs.nil_iff] at hxs
        subst hxs
        obtain ⟨w, e1, e2⟩ := b3.get ey
        exact mt_pop pins s σ H _ _ u us Q I ru rus ⟨_, ws, w, rfl, rfl, b2, by rw [b3.length]; exact e1, k ρ _ _ (up_write b2) (S.write b0 ha b2 b3.dropLast) (e2.up (up_write b2))⟩
      · cases e
    · cases e
  · cases e

/-! ### defs: nothing is being shown around -/
/-- a def keeps its promise wherever no repr is under way -/
structure FnG (P : Program) (w : World) (K : PySem.W.Frag) (mg : Str → Option Value) (base : Heap) (CX : CXT) (k : Nat) (f : Addr) (fd : FuncData) (ps : List Str) (sp : Sp) : Prop where
  many : ∀ vs H Q E, sp vs H Q E → vs.length = ps.length
  go : ∀ (A : Around) (outer : List Env) (s : Shared) (H : Hp) (args : Args) (us : List Value) (vs : List V) (Q : VK) (E : XK), A.guards = some [] → Room k A → Env0 P w K mg base A outer s H → BindsTo s fd args (ps.zip us) → Vals vs us → sp vs H Q E →
    codeAny (model P w) A (.call (.ref f) args) (L2.CR CX outer P w H s Q E) s
theorem run_g {CX : CXT} {k : Nat} {f : Addr} {fd : FuncData} {ps : List Str} {sp : Sp} {E : XK} {ds : List Value} {dvs : List V} {pins : List (Addr × Obj)} {σ : L2.St} {H : Hp} {s : Shared} {Q : VK} {us : List Value} {vs : List V}
    (F : FnG X.prog X.w X.K X.mg X.base CX k f fd ps sp) (hG : X.A.guards = some []) (hr : Room k X.A) (hb : Binds X.K fd ps ds) (hd : Vals dvs ds) (hx : Passes CX X E) (I : Inv X pins σ H s) (r : Vals vs us) (h : sp (vs ++ dvs) H Q E) : wpAny (model X.prog X.w) X.A (call (.ref f) us) (EP X pins σ Q) X.xe s := by
  have rr : Vals (vs ++ dvs) (us ++ ds) := r.append hd
  have many : (us ++ ds).length = ps.length := (F.many _ _ _ _ h) ▸ rr.length.symm
  have done := F.go X.A X.stack s H ⟨us, []⟩ (us ++ ds) (vs ++ dvs) Q E hG hr I.env0 (hb s us I.kIn many) rr h
  refine wpAny_call (codeAny_mono done ?_)
  intro res s' hq
  rcases res with er | fl
  · exact hx pins σ H s er s' I hq
  · rcases fl with _ | _ | _ | u
    all_goals first | exact I.after hq | exact False.elim hq
/-- what a def that lets nothing out keeps -/
def spS (G : Gc) (n : Nat) (g : MC) : Sp := fun vs H Q _ => ∃ ρ st xs, xs.length = n ∧ SR G ρ H st ∧ VRs G.K ρ H xs vs ∧ ∃ r st', g xs st = .ok r st' ∧ ∀ ρ' H' v, Up G.K ρ H ρ' H' → SR G ρ' H' st' → VR G.K ρ' H' r v → Q v H'
def mFn (n : Nat) (g : MC) (a : MA) : ME := mCall (fun xs st => if xs.length = n then g xs st else .no) a
theorem fn_run {n : Nat} {g : MC} {vs : List V} {H : Hp} {Q : VK} {E : XK} (h : rA C.G (fun xs st => if xs.length = n then g xs st else .no) vs H Q) : spS C.G n g (vs ++ []) H Q E := by
  obtain ⟨ρ2, s2, ys, S2, hy, r, st', e, k⟩ := h
  rw [List.append_nil]
  dsimp only at e
  split at e
  · exact ⟨ρ2, s2, ys, by assumption, S2, hy, r, st', e, k⟩
  · cases e
theorem e_call {x : Str} {f : Addr} {k n : Nat} {fd : FuncData} {ps : List Str} {g : MC} {e : Expr} {es : List Expr} {m : MA} {p pos : Pos} (F : FnG X.prog X.w X.K X.mg X.base CX0 k f fd ps (spS C.G n g)) (hG : X.A.guards = some []) (hr : Room k X.A) (hm : X.mg x = some (.ref f)) (hk : PySem.W.keepIn X.K (.ref f) = true) (hb : Binds X.K fd ps [])
    (ha : PA X (e :: es) (tA C m)) (hg : Gl X x := by rfl) (hdb : (x == ("__debug__" : Str)) = false := by decide) (he : starEach (e :: es) X.env = (false, eval e X.env) :: starEach es X.env := by rfl) (hpl : (backTo pos (starEach es X.env)).any (·.1) = false := by rfl) :
    PE X (.Call (.Name x p) (e :: es) [] pos) (tE C (mFn n g m)) := by
  refine ⟨fun pins s σ H Q I h => ?_⟩
  refine wpAny_Call_Name_kw (ld_glob I hg hm ?_ hdb)
  have args := ha.run pos pins s σ H _ I (call_run h)
  refine PySem.W.callWith_K (h₀ := X.base) I.ok.mod.kin hk (thn args ?_) he hpl
  rintro us s1 ⟨vs, H1, J, rv, q⟩
  exact ⟨J.kIn, run_g (E := E0) F hG hr hb .nil pass0 J rv (fn_run q)⟩
theorem e_call0 {x : Str} {f : Addr} {k n : Nat} {fd : FuncData} {ps : List Str} {g : MC} {p pos : Pos} (F : FnG X.prog X.w X.K X.mg X.base CX0 k f fd ps (spS C.G n g)) (hG : X.A.guards = some []) (hr : Room k X.A) (hm : X.mg x = some (.ref f)) (hk : PySem.W.keepIn X.K (.ref f) = true) (hb : Binds X.K fd ps [])
    (hg : Gl X x := by rfl) (hdb : (x == ("__debug__" : Str)) = false := by decide) :
    PE X (.Call (.Name x p) [] [] pos) (tE C (mFn n g mNil)) := by
  refine ⟨fun pins s σ H Q I h => ?_⟩
  obtain ⟨ρ, st, σh, S, R, q⟩ := call_run h
  refine wpAny_Call_Name_kw (ld_glob I hg hm ?_ hdb)
  refine PySem.W.callWith_K0 I.kIn hk ?_
  exact run_g (E := E0) (us := []) (vs := []) F hG hr hb .nil pass0 I .nil (fn_run (q ρ H Up.refl S [] (VRs.nil_iff.mpr rfl)))
def startS (N : List Str) (xs : List PV) : Slots := xs.map some ++ List.replicate (N.length - xs.length) none
/-- a def's function, of its body -/
def gOf (N : List Str) (m : MS) : MC := fun xs st => match m (startS N xs) st with
  | .rt x s1 => .ok x s1
  | .nx _ s1 => .ok .non s1
  | .exc c fs _ s1 => .exc c fs s1
  | _ => .no
abbrev W0 (G : Gc) : Wc := ⟨G, fun _ _ _ _ => False⟩
theorem SlR.start {K : PySem.W.Frag} {ρ : List Addr} {H : Hp} {N : List Str} {xs : List PV} {vs : List V} (r : VRs K ρ H xs vs) : SlR K ρ H (startS N xs) (L2.start N vs) := by
  refine ⟨by unfold startS L2.start; rw [List.length_append, List.length_append, List.length_map, List.length_map, List.length_replicate, List.length_replicate, r.length], fun i x e => ?_⟩
  unfold startS at e
  by_cases hi : i < xs.length
  · rw [List.getElem?_append_left (by rw [List.length_map]; exact hi), List.getElem?_map] at e
    cases ex : xs[i]? with
    | none => rw [ex] at e; cases e
    | some y =>
      rw [ex] at e
      cases e
      obtain ⟨v, e1, e2⟩ := r.get ex
      refine ⟨v, ?_, e2⟩
      unfold L2.start
      rw [List.getElem?_append_left (by rw [List.length_map, r.length]; exact hi), List.getElem?_map, e1]
      rfl
  · rw [List.getElem?_append_right (by rw [List.length_map]; omega), List.getElem?_replicate] at e
    split at e <;> cases e
end
section
variable {P : Program} {w : World} {K : PySem.W.Frag} {G : Gc} {mg : Str → Option Value} {base : Heap}
theorem fn_no {G : Gc} {CX : CXT} {k n : Nat} {f : Addr} {fd : FuncData} {ps : List Str} : FnG P w K mg base CX k f fd ps (spS G n fun _ _ => .no) :=
  ⟨fun _ _ _ _ ⟨_, _, _, _, _, _, _, _, e, _⟩ => (nomatch e), fun _ _ _ _ _ _ _ _ _ _ _ _ _ _ ⟨_, _, _, _, _, _, _, _, e, _⟩ => (nomatch e)⟩
theorem fn_ok {x qual : Str} {st : Stmt} {f : Addr} {fd : FuncData} {N ps : List Str} {k : Nat} {m : MS} (F : Fun G.K x qual st f fd) (S : FnScope N ps (defScope st))
    (hb : ∀ (cdv : Value) (A : Around) (outer : List Env) (s : Shared) (H : Hp) (E : XK), (A.deeper (envOfC qual (defScope st) s.heap.objs.size f cdv)).guards = some [] → Room k (A.deeper (envOfC qual (defScope st) s.heap.objs.size f cdv)) →
      PSs (cxOf CX0 P w G.K mg base N qual (defScope st) f cdv A outer s H E).nox (defBody st) (tS (W0 G) m)) : FnG P w G.K mg base CX0 (k + 1) f fd ps (spS G ps.length (gOf N m)) := by
  obtain ⟨oc, od, kV, doc, pm, an, cdv, ct, osl, rfl, lk, hcd⟩ := F.ex
  have len : ∀ vs H Q E, spS G ps.length (gOf N m) vs H Q E → vs.length = ps.length := by
    rintro vs H Q E ⟨ρ, st, xs, hl, _, hv, _⟩
    rw [hv.length, hl]
  refine ⟨len, ?_⟩
  intro A outer s H args us vs Q E hG hr e0 hbd r hsp
  have many := len _ _ _ _ hsp
  have old : ∀ b o, base.get? b = some o → s.heap.get? b = some o := fun b o z => (e0.bs b o z).1
  have KX : G.K.In s.heap := e0.mod.kin.keeps old
  refine codeAny_call_function hr.depth (KX _ _ lk) rfl S.co S.gen rfl (PySem.W.codeRec_of KX hcd) (hbd _ _ _ _ ?_)
  refine wpAny_newFunctionEnv_cells S.kind ?_ ?_
  · rintro ⟨n, v⟩ hy
    rcases S.par n (List.of_mem_zip hy).1 with z | z
    · exact Or.inl z
    · exact Or.inr ⟨z, PySem.W.cellsFrom_some _ _ _ (Or.inl z)⟩
  · rintro env rfl s1 xc
    refine ⟨(e0.mod.nolimit.keeps old).keeps xc.toInCall.keep, codeAny_func ?_⟩
    obtain ⟨ρ, st0, xs, hl, S0, hv, y, st', e, k⟩ := hsp
    have body := hb cdv A outer s H E (by exact hG) (hr.deeper _)
    have I := inv_start (CX := CX0) (E := E) S hr.hd e0 many r xc
    have go : tS (W0 G) m { nx := fun _ H' => Q .non H', rt := Q } (L2.start N vs) H := by
      refine ⟨ρ, st0, startS N xs, S0, SlR.start hv, ?_⟩
      unfold gOf at e
      cases em : m (startS N xs) st0 with
      | rt y s1 => rw [em] at e; cases e; exact k
      | nx σ s1 => rw [em] at e; cases e; exact fun ρ' H' τ u S' R' => k ρ' H' _ u S' (VR.non_iff.mpr rfl)
      | exc c fs σ s1 => rw [em] at e; cases e
      | bk _ _ => rw [em] at e; cases e
      | ct _ _ => rw [em] at e; cases e
      | no => rw [em] at e; cases e
    have all := body.nox.run [] s1 (L2.start N vs) H _ I go
    refine wpAny_mono all ?_ fun _ _ z => z
    rintro fl s' hs
    have fin : ∀ {σ' : L2.St} {H' : Hp} {v : V} {u : Value}, Inv (cxOf CX0 P w G.K mg base N qual (defScope st) f cdv A outer s H E) [] σ' H' s' → RelV v u → Q v H' → CE outer P w H s Q u s' :=
      fun J rv q => ⟨_, _, J.os, J.bare, J.base, J.hok, rv, q⟩
    rcases fl with _ | _ | _ | u
    all_goals first
      | (obtain ⟨v, σ', H', J, rv, q⟩ := hs; exact fin J rv q)
      | (obtain ⟨σ', H', J, q⟩ := hs; first | exact fin (v := .non) (u := .none) J rfl q | exact False.elim q)
/-- what the law is to keep -/
theorem law_sp {g : MC} {H : Hp} {a : Addr} {ns : List Int} (hO : Only H) (hS : SqL G.K H a (ns.map V.int)) (h : ∃ st', g [.ref 0] [.rol (ns.map .int)] = .ok (.bl true) st') : spS G 1 g [.ref a] H (fun v _ => v = .bl true) fun _ _ _ => False := by
  obtain ⟨st', e⟩ := h
  refine ⟨[a], [.rol (ns.map .int)], [.ref 0], rfl, ⟨rfl, fun n m a xs ys h1 h2 o1 o2 _ _ => ?_, fun n c b h1 h2 => ?_⟩, VRs.cons_iff.mpr ⟨_, [], rfl, VR.ref_iff.mpr ⟨a, rfl, rfl⟩, VRs.nil_iff.mpr rfl⟩, _, st', e, fun ρ' H' v _ _ r => VR.bl_iff.mp r⟩
  · cases n with
    | zero => cases h1; cases o1
    | succ n => simp at h1
  · cases n with
    | succ n => simp at h1
    | zero =>
      cases h1
      cases h2
      refine ⟨ns.map V.int, ?_, VRs.ints⟩
      rcases hS with (hS | ⟨o, hS⟩) | hS
      · rcases hO a with z | ⟨o, xs, z⟩
        · rw [hS] at z; cases z
        · rw [hS] at z; cases z
      · exact .inl ⟨o, hS⟩
      · exact .inr hS
end
end Sm
namespace Sm
open PySem PySem.Spec PyProof.Rows L2
theorem room65 {k : Nat} {A : Around} (hr : Room k A) : A.units + 65 < cLine := by have := hr.un; omega
end Sm

namespace Sm
open PySem
section
variable {σ : Slots} {st s1 : Store} {a b c : ME} {t u : MT} {p q : MS} {g : MG} {gs : MGs} {f : M2} {α β : Type}
@[simp] theorem bind_ok {x : α} {k : α → Store → Res β} : (Res.ok x st).bind k = k x st := rfl
@[simp] theorem bind_no {k : α → Store → Res β} : (Res.no : Res α).bind k = .no := rfl
@[simp] theorem bindN_ok {x : α} {k : α → Store → Res β} : (Res.ok x st).bindN k = k x st := rfl
@[simp] theorem fl_ok {x : α} {k : α → Store → Fl} : (Res.ok x st).fl σ k = k x st := rfl
@[simp] theorem fl_no {k : α → Store → Fl} : (Res.no : Res α).fl σ k = .no := rfl
@[simp] theorem mSeq_ap : mSeq p q σ st = match p σ st with
  | .nx σ' st' => q σ' st'
  | x => x := rfl
@[simp] theorem mNext_ap : mNext σ st = .nx σ st := rfl
@[simp] theorem mVar_ap {i : Nat} : mVar i σ st = match σ[i]? with
  | some (some x) => .ok x st
  | _ => .no := rfl
@[simp] theorem mC_ap {x : PV} : mC x σ st = .ok x st := rfl
@[simp] theorem mOp_ap : mOp f a b σ st = (a σ st).bind fun x s1 => (b σ s1).bind fun y s2 => f x y s2 := rfl
@[simp] theorem mTest_ap : mTest a σ st = (a σ st).bind fun x s1 => match x with
  | .bl b => .ok b s1
  | _ => .no := rfl
@[simp] theorem mChain_ap {f g : M2} : mChain f g a b c σ st = (a σ st).bind fun x s1 => (b σ s1).bind fun y s2 => (f x y s2).bind fun z s3 => match z with
  | .bl true => (c σ s3).bind fun w s4 => g y w s4
  | .bl false => .ok (.bl false) s3
  | _ => .no := rfl
@[simp] theorem mAndT_ap : mAndT t u σ st = (t σ st).bind fun c s1 => if c = true then u σ s1 else .ok false s1 := rfl
@[simp] theorem mOrT_ap : mOrT t u σ st = (t σ st).bind fun c s1 => if c = true then .ok true s1 else u σ s1 := rfl
@[simp] theorem mNotT_ap : mNotT t σ st = (t σ st).bind fun c s1 => .ok (!c) s1 := rfl
@[simp] theorem mAndV_ap : mAndV a b σ st = (a σ st).bind fun x s1 => match x with
  | .bl c => if c = true then b σ s1 else .ok (.bl false) s1
  | _ => .no := rfl
@[simp] theorem mOrV_ap : mOrV a b σ st = (a σ st).bind fun x s1 => match x with
  | .bl c => if c = true then .ok (.bl true) s1 else b σ s1
  | _ => .no := rfl
@[simp] theorem mNotV_ap : mNotV a σ st = (a σ st).bind fun x s1 => match x with
  | .bl c => .ok (.bl (!c)) s1
  | _ => .no := rfl
@[simp] theorem mIf_ap : mIf t a b σ st = (t σ st).bind fun c s1 => if c = true then a σ s1 else b σ s1 := rfl
@[simp] theorem mTru_ap : mTru a σ st = (a σ st).bind fun x s1 => match truF x s1 with
  | some b => .ok b s1
  | none => .no := rfl
@[simp] theorem mNil_ap : mNil σ st = .ok [] st := rfl
@[simp] theorem mCons_ap {r : MA} : mCons a r σ st = (a σ st).bind fun x s1 => (r σ s1).bind fun xs s2 => .ok (x :: xs) s2 := rfl
@[simp] theorem mTup_ap {r : MA} : mTup r σ st = (r σ st).bind fun xs s1 => if xs.length ≤ sizeLine then .ok (.tup xs) s1 else .no := rfl
@[simp] theorem mLst_ap {r : MA} : mLst r σ st = (r σ st).bind fun xs s1 => if xs.length ≤ sizeLine then .ok (.ref s1.length) (s1 ++ [.lst xs]) else .no := rfl
@[simp] theorem mUn_ap {f : PV → Store → Res PV} : mUn f a σ st = (a σ st).bind f := rfl
@[simp] theorem mCall_ap {f : MC} {r : MA} : mCall f r σ st = (r σ st).bind fun xs s1 => match f xs s1 with
  | .ok r s2 => .ok r s2
  | _ => .no := rfl
theorem mFn_ap {n : Nat} {f : MC} {r : MA} : mFn n f r σ st = (r σ st).bind fun xs s1 => match (if xs.length = n then f xs s1 else .no) with
  | .ok r s2 => .ok r s2
  | _ => .no := rfl
@[simp] theorem mIsi_ap {t : Ty} : mIsi t a σ st = (a σ st).bind fun x s1 => match tyC x s1 with
  | some u => .ok (.bl (isT u t)) s1
  | none => .no := rfl
@[simp] theorem mRet_ap : mRet a σ st = (a σ st).fl σ fun x s1 => .rt x s1 := rfl
@[simp] theorem mRetN_ap : mRetN σ st = .rt .non st := rfl
@[simp] theorem mDrop_ap : mDrop a σ st = (a σ st).fl σ fun _ s1 => .nx σ s1 := rfl
@[simp] theorem mIfS_ap : mIfS t p q σ st = (t σ st).fl σ fun c s1 => if c = true then p σ s1 else q σ s1 := rfl
@[simp] theorem mAsg_ap : mAsg a g σ st = (a σ st).fl σ fun x s1 => match g x σ s1 with
  | some (σ', s2) => .nx σ' s2
  | none => .no := rfl
@[simp] theorem mPar_ap {i j : Nat} {r : MA} : mPar i j r σ st = (r σ st).fl σ fun xs s1 => match xs with
  | [x, y] => .nx ((σ.set i (some x)).set j (some y)) s1
  | _ => .no := rfl
@[simp] theorem mPar3_ap {i j l : Nat} {r : MA} : mPar3 i j l r σ st = (r σ st).fl σ fun xs s1 => match xs with
  | [x, y, z] => .nx (((σ.set i (some x)).set j (some y)).set l (some z)) s1
  | _ => .no := rfl
@[simp] theorem gNm_ap {i : Nat} {x : PV} : gNm i x σ st = some (σ.set i (some x), st) := rfl
@[simp] theorem gNil_ap : Sm.gNil [] σ st = some (σ, st) := rfl
@[simp] theorem gCons_ap {x : PV} {ys : List PV} : Sm.gCons g gs (x :: ys) σ st = (g x σ st).bind fun (σ', st') => gs ys σ' st' := rfl
@[simp] theorem gTp_ap {n : Nat} {xs : List PV} : gTp n gs (.tup xs) σ st = if xs.length = n then gs xs σ st else none := rfl
@[simp] theorem gIx_ap {x : PV} : gIx a b x σ st = match a σ st with
  | .ok (.ref n) s1 => match b σ s1 with
    | .ok (.int k) s2 => match getM s2 n with
      | some xs => match L2.ixN xs.length k with
        | some j => some (σ, s2.set n (.lst (xs.set j x)))
        | none => none
      | none => none
    | _ => none
  | _ => none := rfl
@[simp] theorem add_int {i j : Int} : addF (.int i) (.int j) st = .ok (.int (i + j)) st := rfl
@[simp] theorem add_tup {xs ys : List PV} : addF (.tup xs) (.tup ys) st = if xs.length + ys.length ≤ sizeLine then .ok (.tup (xs ++ ys)) st else .no := rfl
@[simp] theorem add_str {x y : Str} : addF (.str x) (.str y) st = if x.length + y.length ≤ sizeLine then .ok (.str (x ++ y)) st else .no := rfl
@[simp] theorem add_ref {m n : Nat} : addF (.ref m) (.ref n) st = match getM st m, getM st n with
    | some xs, some ys => newL (xs ++ ys) st
    | _, _ => .no := rfl
@[simp] theorem sub_int {i j : Int} : subF (.int i) (.int j) st = .ok (.int (i - j)) st := rfl
@[simp] theorem mul_int {i j : Int} : mulF (.int i) (.int j) st = if L2.CMul i j then .ok (.int (i * j)) st else .no := rfl
@[simp] theorem fdiv_int {i j : Int} : fdivF (.int i) (.int j) st = if L2.CDivN i j ∨ L2.CDivW i j then .ok (.int (i.fdiv j)) st else .no := rfl
@[simp] theorem mod_int {i j : Int} : modF (.int i) (.int j) st = if j ≠ 0 then .ok (.int (i.fmod j)) st else .no := rfl
@[simp] theorem pow_int {i j : Int} : powF (.int i) (.int j) st = if powOk i j = true then .ok (.int (i ^ j.toNat)) st else .no := rfl
@[simp] theorem neg_int {i : Int} : negF (.int i) st = .ok (.int (-i)) st := rfl
@[simp] theorem ord_int {g : Int → Int → Bool} {i j : Int} : ordF g (.int i) (.int j) st = .ok (.bl (g i j)) st := rfl
@[simp] theorem eq_int {neg : Bool} {i j : Int} : eqF neg (.int i) (.int j) st = .ok (.bl (if neg then !decide (i = j) else decide (i = j))) st := rfl
@[simp] theorem eq_str {neg : Bool} {i j : Str} : eqF neg (.str i) (.str j) st = .ok (.bl (if neg then !decide (i = j) else decide (i = j))) st := rfl
@[simp] theorem eq_bl {neg : Bool} {i j : Bool} : eqF neg (.bl i) (.bl j) st = .ok (.bl (if neg then !decide (i = j) else decide (i = j))) st := rfl
theorem eq_tup {neg : Bool} {xs : List PV} {y : PV} : eqF neg (.tup xs) y st = eqDF neg (.tup xs) y st := rfl
theorem eq_ref {neg : Bool} {n : Nat} {y : PV} : eqF neg (.ref n) y st = eqDF neg (.ref n) y st := rfl
@[simp] theorem ix_tup {xs : List PV} {i : Int} : ixF (.tup xs) (.int i) st = match L2.atI xs i with
      | some z => .ok z st
      | none => .no := rfl
@[simp] theorem ix_ref {n : Nat} {i : Int} : ixF (.ref n) (.int i) st = match getL st n with
      | some xs => match L2.atI xs i with
        | some z => .ok z st
        | none => .no
      | none => .no := rfl
@[simp] theorem mO_none : mO none σ st = .ok none st := rfl
@[simp] theorem mO_some : mO (some a) σ st = (a σ st).bind fun x s1 => match x with
    | .int i => .ok (some i) s1
    | _ => .no := rfl
@[simp] theorem mSl_ap {lo hi : Option ME} : mSl a lo hi σ st = (a σ st).bind fun x s1 => (mO lo σ s1).bind fun l s2 => (mO hi σ s2).bind fun h s3 => match slF x l h s3 with
  | .ok r s4 => .ok r s4
  | _ => .no := rfl
@[simp] theorem sl_tup {xs : List PV} {lo hi : Option Int} : slF (.tup xs) lo hi st = .ok (.tup (cutP xs lo hi)) st := rfl
@[simp] theorem max_ap {i j : Int} : maxF [.int i, .int j] st = .ok (.int (if j > i then j else i)) st := rfl
@[simp] theorem min_ap {i j : Int} : minF [.int i, .int j] st = .ok (.int (if j < i then j else i)) st := rfl
@[simp] theorem len_ref {n : Nat} : lenF [.ref n] st = match getL st n with
    | some ys => .ok (.int (ys.length : Nat)) st
    | none => .no := rfl
@[simp] theorem len_tup {xs : List PV} : lenF [.tup xs] st = .ok (.int (xs.length : Nat)) st := rfl
@[simp] theorem mItL_ap : mItL a σ st = (a σ st).bind fun x s1 => match x with
  | .ref n => match getL s1 n with
    | some xs => .ok (some n, xs) s1
    | none => .no
  | _ => .no := rfl
@[simp] theorem mItT_ap : mItT a σ st = (a σ st).bind fun x s1 => match x with
  | .tup xs => .ok (none, xs) s1
  | _ => .no := rfl
@[simp] theorem mItR1_ap {r : MA} : mItR1 r σ st = (r σ st).bind fun xs s1 => match xs with
  | [.int j] => if -(2 ^ 62) ≤ j ∧ j < 2 ^ 62 then .ok (none, rangeP 0 j.toNat) s1 else .no
  | _ => .no := rfl
@[simp] theorem mItR2_ap {r : MA} : mItR2 r σ st = (r σ st).bind fun xs s1 => match xs with
  | [.int i, .int j] => if -(2 ^ 62) ≤ i ∧ i < 2 ^ 62 ∧ -(2 ^ 62) ≤ j ∧ j < 2 ^ 62 then .ok (none, rangeP i (j - i).toNat) s1 else .no
  | _ => .no := rfl
@[simp] theorem mFor_ap {mi : MI} {g : MG} : mFor mi g p σ st = (mi σ st).fl σ fun wx s1 => loopF g p wx.1 wx.2 wx.2 σ s1 := rfl
@[simp] theorem mLc_ap {mi : MI} {g : MG} {vs : List Nat} : mLc mi g t a vs σ st = (mi σ st).bind fun wx s1 => lcF g t a wx.1 wx.2 (wipeS σ vs) s1.length wx.2 (s1 ++ [.lst []]) := rfl
@[simp] theorem mYes_ap : mYes σ st = .ok true st := rfl
@[simp] theorem mBM_ap {T : Ty} {f : PV → List PV → Store → Res PV} {r : MA} : mBM T f a r σ st = (a σ st).bind fun x s1 => if tyC x s1 = some T ∧ T ≠ .tup then (r σ s1).bind fun xs s2 => match f x xs s2 with
    | .ok r s3 => .ok r s3
    | _ => .no
  else .no := rfl
@[simp] theorem isT_refl (a : Ty) : isT a a = true := by cases a <;> rfl
/-! ### stores -/
theorem getL_lst {n : Nat} {xs : List PV} (h : st[n]? = some (.lst xs)) : getL st n = some xs := by unfold getL; rw [h]
theorem getL_rol {n : Nat} {xs : List PV} (h : st[n]? = some (.rol xs)) : getL st n = some xs := by unfold getL; rw [h]
theorem getM_lst {n : Nat} {xs : List PV} (h : st[n]? = some (.lst xs)) : getM st n = some xs := by unfold getM; rw [h]
theorem atI_cast {α : Type} {xs : List α} {j : Nat} : L2.atI xs (j : Int) = xs[j]? := by
  unfold L2.atI L2.ixN
  rw [if_pos (Int.natCast_nonneg j)]
  by_cases h : j < xs.length
  · rw [if_pos (by omega), Int.toNat_natCast]; rfl
  · rw [if_neg (by omega), List.getElem?_eq_none (by omega)]; rfl
theorem ixN_cast {n j : Nat} (h : j < n) : L2.ixN n (j : Int) = some j := by
  unfold L2.ixN
  rw [if_pos (Int.natCast_nonneg j), if_pos (by omega), Int.toNat_natCast]
@[simp] theorem atI_0 {α : Type} {xs : List α} : L2.atI xs 0 = xs[0]? := atI_cast (j := 0)
@[simp] theorem atI_1 {α : Type} {xs : List α} : L2.atI xs 1 = xs[1]? := atI_cast (j := 1)
@[simp] theorem atI_2 {α : Type} {xs : List α} : L2.atI xs 2 = xs[2]? := atI_cast (j := 2)
@[simp] theorem atI_3 {α : Type} {xs : List α} : L2.atI xs 3 = xs[3]? := atI_cast (j := 3)
@[simp] theorem atI_4 {α : Type} {xs : List α} : L2.atI xs 4 = xs[4]? := atI_cast (j := 4)
@[simp] theorem atI_5 {α : Type} {xs : List α} : L2.atI xs 5 = xs[5]? := atI_cast (j := 5)
@[simp] theorem atI_6 {α : Type} {xs : List α} : L2.atI xs 6 = xs[6]? := atI_cast (j := 6)
@[simp] theorem atI_7 {α : Type} {xs : List α} : L2.atI xs 7 = xs[7]? := atI_cast (j := 7)
@[simp] theorem atI_8 {α : Type} {xs : List α} : L2.atI xs 8 = xs[8]? := atI_cast (j := 8)
@[simp] theorem ixN_0 {n : Nat} : L2.ixN (n + 1) 0 = some 0 := ixN_cast (j := 0) (by omega)
@[simp] theorem ixN_1 {n : Nat} : L2.ixN (n + 2) 1 = some 1 := ixN_cast (j := 1) (by omega)
@[simp] theorem ixN_2 {n : Nat} : L2.ixN (n + 3) 2 = some 2 := ixN_cast (j := 2) (by omega)
@[simp] theorem ixN_3 {n : Nat} : L2.ixN (n + 4) 3 = some 3 := ixN_cast (j := 3) (by omega)
theorem size_small {n : Nat} (h : n ≤ 1000000) : n ≤ sizeLine := Nat.le_trans h (by decide)
end
end Sm

namespace Sm
open PySem PySem.Spec PyProof.Rows L2
/-! ### repr -/
def shows (d : PyData) : Bool := d.showable && !d.hasDict && decide (d.depth ≤ 60) && decide (d.shown.length ≤ sizeLine)
def reprF : MC := fun xs st => match xs with
  | [x] => match toD st x with
    | some d => if shows d then .ok (.str d.shown) st else .no
    | none => .no
  | _ => .no
section
variable {X : Cx} {C : Wc}
theorem c_repr (hK : X.K = C.K) (hG : X.A.guards = some []) (hu : X.A.units + 65 < cLine) : CallR X (.builtin "repr") (rA C.G reprF) := by
  intro pins s σ H vs us Q I rv ⟨ρ, st, xs, S, hx, r, st', e, k⟩
  unfold reprF at e
  split at e
  · rename_i x
    split at e
    · rename_i d ed
      split at e
      · rename_i hs
        cases e
        obtain ⟨v, rfl, h1⟩ := hx.one
        have D : Dp X.K H v d := by rw [hK]; exact toD_ok S h1 ed
        unfold shows at hs
        simp only [Bool.and_eq_true, decide_eq_true_eq] at hs
        obtain ⟨⟨⟨s1, s2⟩, s3⟩, s4⟩ := hs
        rw [Bool.not_eq_true'] at s2
        cases rv with
        | cons r1 r2 =>
          cases r2
          rename_i u
          obtain ⟨as, R⟩ := Dp.reads I d v u D r1
          have fin : ∀ (t : Tok) (s' : Shared), Inv X pins σ H s' → EP X pins σ Q (.str d.shown t) s' := fun t s' J => ⟨.str d.shown, H, J, ⟨t, rfl⟩, k ρ H _ Up.refl S (VR.str_iff.mpr rfl)⟩
          cases u with
          | ref a => exact repr_of_reads' R s1 (PyData.noDict_hsm s2) hG (by omega) (fun _ _ z => z) (fun h' u tk hk => fin _ _ (I.kept hk)) s4
          | none => cases R; exact PySem.P.repr_of_none (fin _ _ (I.tok _))
          | bool b => cases R; exact PySem.P.repr_of_bool (fin _ _ (I.tok _))
          | int i t =>
            cases R
            exact PySem.P.repr_of_int (by simpa [PyData.showable] using s1) (fin _ _ (I.tok _))
          | str z t => cases R; exact PySem.P.repr_of_str (fin _ _ (I.tok _)) s4
          | _ => cases R
      · cases e
    · cases e
  · cases e
end
/-! ### a list turned round -/
def mRev (m : ME) : ME := fun σ st => (m σ st).bind fun x s1 => match x with
  | .ref n => match getL s1 n with
    | some xs => newL xs.reverse s1
    | none => .no
  | _ => .no
theorem VRs.rev {K : PySem.W.Frag} {ρ : List Addr} {H : Hp} : ∀ {xs : List PV} {vs : List V}, VRs K ρ H xs vs → VRs K ρ H xs.reverse vs.reverse
  | [], vs, r => by rw [VRs.nil_iff] at r; subst r; exact VRs.nil_iff.mpr rfl
  | x :: xs, vs, r => by
    rw [VRs.cons_iff] at r
    obtain ⟨v, ws, rfl, h1, h2⟩ := r
    rw [List.reverse_cons, List.reverse_cons]
    exact (VRs.rev h2).append (VRs.cons_iff.mpr ⟨v, [], rfl, h1, VRs.nil_iff.mpr rfl⟩)
section
variable {X : Cx} {C : Wc}
theorem e_rev {e : Expr} {m : ME} {k : Nat} {p1 p2 p3 pos : Pos} (hK : X.K = C.K) (he : PE X e (tE C m)) : PE X (.Subscript e (.Slice none none (some (.UnaryOp .USub (.Constant (.int 1) k p1) p2)) p3) pos) (tE C (mRev m)) :=
  (pe_revL he).weak fun σ H Q ⟨ρ, st, σh, S, R, p⟩ => ⟨ρ, st, σh, S, R, (Post.bind p).imp fun ρ1 H1 x s1 _ u1 S1 ⟨s1', S1', p1⟩ v hv => by
    cases x with
    | ref n =>
      dsimp only at p1
      cases en : getL s1' n with
      | none => rw [en] at p1; exact p1.elim
      | some xs =>
        rw [en] at p1
        dsimp only at p1
        rw [VR.ref_iff] at hv
        obtain ⟨a, rfl, ha⟩ := hv
        obtain ⟨b, ws, h1, h2, h3⟩ := getL_sql S1' en
        rw [ha] at h1; cases h1
        refine ⟨a, ws, rfl, hK ▸ h2, ?_⟩
        cases er : newL xs.reverse s1' with
        | ok r s4 =>
          rw [er] at p1
          exact (S1'.newL h3.rev er fun ρ' H' v u S' r' => p1 ρ' H' u S' v r').2
        | exc _ _ _ => unfold newL at er; split at er <;> cases er
        | no => rw [er] at p1; exact p1.elim
    | _ => exact p1.elim⟩
/-- a tuple that the module holds under a name -/
def KT (K : PySem.W.Frag) (mg : Str → Option Value) (x : Str) (vs : List V) : Prop := ∃ (a : Addr) (o : Obj) (us : Array Value) (n : Nat), mg x = some (.ref a) ∧ K.lookup a = some o ∧ o.cls = .type "tuple" ∧ o.data = .seq us n ∧ us.size ≤ sizeLine ∧ Vals vs us.toList
theorem e_kt {x : Str} {xs : List PV} {vs : List V} {pos : Pos} (hK : X.K = C.K) (k : KT X.K X.mg x vs) (r : ∀ ρ H, VRs C.K ρ H xs vs) (hg : Gl X x := by rfl) (hdb : (x == ("__debug__" : Str)) = false := by decide) : PE X (.Name x pos) (tE C (mC (.tup xs))) := by
  obtain ⟨a, o, us, n, hm, hl, hc, hd, hz, rv⟩ := k
  exact e_c (pe_glob (v := .ref a) hg hm rfl hdb) fun ρ H => VR.tup_iff.mpr ⟨a, vs, rfl, .inr ⟨o, us, n, hK ▸ hl, hc, hd, hz, rv⟩, r ρ H⟩
theorem e_ki {x : Str} {i : Int} {pos : Pos} (k : ∃ t, X.mg x = some (.int i t)) (hg : Gl X x := by rfl) (hdb : (x == ("__debug__" : Str)) = false := by decide) : PE X (.Name x pos) (tE C (mC (.int i))) := by
  obtain ⟨t, hm⟩ := k
  exact e_c (pe_glob (v := .int i) hg hm ⟨t, rfl⟩ hdb) fun _ _ => VR.int_iff.mpr rfl
theorem e_ks {x y : Str} {pos : Pos} (k : ∃ t, X.mg x = some (.str y t)) (hg : Gl X x := by rfl) (hdb : (x == ("__debug__" : Str)) = false := by decide) : PE X (.Name x pos) (tE C (mC (.str y))) := by
  obtain ⟨t, hm⟩ := k
  exact e_c (pe_glob (v := .str y) hg hm ⟨t, rfl⟩ hdb) fun _ _ => VR.str_iff.mpr rfl
end
/-! ### the law's call, where nothing is being shown -/
section
variable {P : Program} {w : World} {K : PySem.W.Frag} {G : Gc} {mg mb : Str → Option Value} {base : Heap} {k : Nat} {f a : Addr} {fd : FuncData} {x : Str} {g : MC} {t : Shared} {us : List Value} {zs : List Int}
/-- the law meets one script -/
def Meets (g : MC) (zs : List Int) : Prop := ∃ st', g [.ref 0] [.rol (zs.map .int)] = .ok (.bl true) st'
/-- what stands before the law's call -/
structure Eve (P : Program) (w : World) (K : PySem.W.Frag) (mg mb : Str → Option Value) (t : Shared) : Prop where
  kin : K.In t.heap
  glo : t.heap.Ns mainGlobals mg
  blt : t.heap.Ns builtinsNs mb
  boot : ∀ y : Str, y ≠ "__name__" → mb y = bootBuiltins y
  nolim : t.heap.NoLimit
  nogen : t.gens = #[]
theorem Eve.env {H : Hp} (Z : Eve P w K mg mb t) (ok : HOk P w H t.heap) (clear : ∀ b o, t.heap.get? b = some o → ∀ es ep, o.data = .dict es ep → H b = none) (free : ∀ b o, K.lookup b = some o → H b = none) :
    Env0 P w K mg (hidT t.heap H) callerA [] t H := by
  have ns : ∀ {c : Addr} {m : Str → Option Value}, t.heap.Ns c m → (hidT t.heap H).Ns c m := by
    rintro c m ⟨o, es, ep, q1, q2, q3⟩
    exact ⟨o, es, ep, hidT_get q1 (clear c o q1 es ep q2), q2, q3⟩
  obtain ⟨mc, n1, n2⟩ := Z.nolim
  refine ⟨rfl, ⟨fun b o q => hidT_get (Z.kin b o q) (free b o q), ns Z.glo, ⟨mb, ns Z.blt, Z.boot⟩, mc, ns n1, n2⟩, fun b o => of_hidT, Nat.le_of_eq (hidT_size _ _), trivial, ?_, ok, AllBare.of_eq Z.nogen⟩
  intro b hb
  exact absurd (show b ∈ ([] : List Addr) from hb) (by simp)
abbrev Wins (t : Shared) (r : Except Value Flow) (t' : Shared) : Prop := r = .ok (.ret (.bool true)) ∧ OldK t.heap t'.heap ∧ t'.os = t.os ∧ AllBare t'.gens
theorem met {H : Hp} (hr : Room k callerA) (F : FnG P w G.K mg (hidT t.heap H) CX0 k f fd [x] (spS G 1 g)) (hbd : ∀ (s : Shared) (u : Value), BindsTo s fd ⟨[u], []⟩ [(x, u)]) (e0 : Env0 P w G.K mg (hidT t.heap H) callerA [] t H)
    (only : Only H) (sq : SqL G.K H a (zs.map V.int)) (m : Meets g zs) : codeAny (model P w) callerA (.call (.ref f) ⟨[.ref a], []⟩) (Wins t) t := by
  have run := F.go callerA [] t H ⟨[.ref a], []⟩ [.ref a] [.ref a] _ (fun _ _ _ => False) rfl hr e0 (hbd t (.ref a)) (.cons rfl .nil) (law_sp only sq m)
  refine codeAny_mono run ?_
  rintro (er | fl) t' q
  · exact False.elim q
  · rcases fl with _ | _ | _ | u
    · exact False.elim q
    · exact False.elim q
    · exact False.elim q
    · obtain ⟨v, H2, os, bare, un, ok2, rv, win⟩ := q
      have win' : v = .bl true := win
      subst win'
      have ru : u = Value.bool true := rv
      subst ru
      refine ⟨rfl, .of_keep ?_, os, bare⟩
      intro b o eb
      have ok1 := e0.hok
      cases c : H b with
      | none => exact un.keep b o eb c (by intro z; exact absurd (show b ∈ ([] : List Addr) from z) (by simp)) (by simp)
      | some y =>
        obtain z | ⟨ob, ys, z⟩ := only b
        · rw [c] at z; cases z
        · have l1 := (ok1 b _ z).1
          rw [eb] at l1
          cases l1
          exact (ok2 b _ (un.frzs b _ _ z)).1
theorem callG (Z : Eve P w G.K mg mb t) (hr : Room k callerA) (ha : t.heap.get? a = some { cls := .type "list", data := .seq us.toArray }) (hi : IntsAre us zs) (hz : zs.length ≤ sizeLine)
    (F : ∀ base : Heap, G.K.In base → base.Ns mainGlobals mg → FnG P w G.K mg base CX0 k f fd [x] (spS G 1 g)) (hbd : ∀ (s : Shared) (u : Value), BindsTo s fd ⟨[u], []⟩ [(x, u)]) (m : Meets g zs) :
    codeAny (model P w) callerA (.call (.ref f) ⟨[.ref a], []⟩) (Wins t) t := by
  have vals := vals_ints hi
  have n1 := hi.length
  cases ek : G.K.lookup a with
  | some oa =>
    have same := Z.kin a oa ek
    rw [ha] at same
    obtain rfl := Option.some.inj same
    have e0 := Z.env (H := fun _ => none) (fun _ _ z => by cases (show (none : Option HO) = some _ from z)) (fun _ _ _ _ _ _ => rfl) fun _ _ _ => rfl
    refine met hr (F _ e0.mod.kin e0.mod.glob) hbd e0 (fun _ => .inl rfl) (.inr ⟨_, us.toArray, _, ek, rfl, rfl, rfl, ?_, ?_⟩) m
    · rw [List.size_toArray, n1]; exact hz
    · simpa using vals
  | none =>
    let oa : Obj := { cls := .type "list", data := .seq us.toArray }
    let H1 : Hp := fun b => if b = a then some (.frz oa (.lst (zs.map V.int))) else none
    have here : H1 a = some (.frz oa (.lst (zs.map V.int))) := if_pos rfl
    have there : ∀ b, b ≠ a → H1 b = none := fun b nb => if_neg nb
    have e0 := Z.env (H := H1) (fun b y z => by
      by_cases hb : b = a
      · subst hb
        rw [here] at z
        cases z
        refine ⟨ha, ?_, us, _, vals, ha⟩
        rw [List.length_map]; exact hz
      · rw [there b hb] at z; cases z) (fun b o q es ep hd => there b fun z => by
        subst z
        rw [ha] at q
        cases q
        cases (show Data.seq us.toArray _ = Data.dict es ep from hd)) fun b o q => there b fun z => by
        subst z
        rw [ek] at q
        cases q
    refine met hr (F _ e0.mod.kin e0.mod.glob) hbd e0 (fun b => ?_) (.inl (.inr ⟨oa, here⟩)) m
    by_cases hb : b = a
    · subst hb; exact .inr ⟨_, _, here⟩
    · exact .inl (there b hb)
end
theorem walkG {l : PySem.W.OpenLaw} {n k : Nat} {q : Program} {loose : List Str} {XP : (Str → Option Value) → Heap → Prop} {YP : World → Heap → Prop} {d : DefRec} {K : Params → PySem.W.Frag} {cl : Params → Nat → Addr} {fa : Params → Nat → Addr} {clo : Params → Nat → Addr → List V → List (Addr × Obj) → Prop} {g : MC} {x : Str}
    (most : l.most = some n) (few : n ≤ sizeLine) (nodef : d.params.defaults = []) (hr : Room k callerA)
    (own : ∀ (w : World) (h : Heap), YP w h → (K w.params).In h)
    (F : ∀ (w : World) (mg : Str → Option Value) (f : Addr) (h : Heap), (K w.params).In h → h.Ns mainGlobals mg → mg d.name = some (.ref f) → ∃ fd : FuncData,
      (∀ (s : Shared) (u : Value), BindsTo s fd ⟨[u], []⟩ [(x, u)]) ∧ ∀ base : Heap, (K w.params).In base → base.Ns mainGlobals mg → FnG l.prog w (K w.params) mg base CX0 k f fd [x] (spS ⟨K w.params, cl w.params, l.prog, w, fa w.params, clo w.params⟩ 1 g))
    (good : ∀ zs : List Int, zs.length ≤ n → (∀ z ∈ zs, Builtin.Int.intBits z ≤ 1048576) → Meets g zs) :
    PySem.W.WalkO q loose XP YP l.row.toRowW d [] (fun f vs => PySem.call f vs) := by
  refine Att.attach_callB most nodef ?_
  intro w _ t mg mb f _ _ _ _ a us zs G Y _ _ _ hmg ha hi hl hb hg
  have kin := own w _ Y
  obtain ⟨fd, hbd, hF⟩ := F w mg f _ kin G.T.g hmg
  exact callG (G := ⟨K w.params, cl w.params, l.prog, w, fa w.params, clo w.params⟩) ⟨kin, G.T.g, G.T.b, G.T.builtins, G.T.nolimit, hg⟩ hr ha hi (Nat.le_trans hl few) hF hbd (good zs hl hb)
end Sm

namespace Sm
open PySem PySem.Spec PyProof.Rows L2
/-! ### is None; or, and by truth; int, bool; all, any; what is never run -/
def isNF (neg : Bool) : M2 := fun x y st => match y with
  | .non => .ok (.bl (match x with | .non => !neg | _ => neg)) st
  | _ => .no
theorem calm_isN {neg : Bool} : Calm2 (isNF neg) := fun x y st c fs st' e => by unfold isNF at e; split at e <;> cases e
def mOrX (a b : ME) : ME := fun σ st => (a σ st).bind fun x s1 => match truF x s1 with
  | some c => if c = true then .ok x s1 else b σ s1
  | none => .no
def mAndX (a b : ME) : ME := fun σ st => (a σ st).bind fun x s1 => match truF x s1 with
  | some c => if c = true then b σ s1 else .ok x s1
  | none => .no
def mNotX (a : ME) : ME := fun σ st => (a σ st).bind fun x s1 => match truF x s1 with
  | some c => .ok (.bl (!c)) s1
  | none => .no
def intF : MC := fun xs st => match xs with
  | [.int i] => .ok (.int i) st
  | [.bl b] => .ok (.int (if b then 1 else 0)) st
  | _ => .no
def boolF : MC := fun xs st => match xs with
  | [.int i] => .ok (.bl (i != 0)) st
  | [.bl b] => .ok (.bl b) st
  | _ => .no
def blOf : PV → Option Bool
  | .bl b => some b
  | _ => none
def blsOf : List PV → Option (List Bool)
  | [] => some []
  | x :: xs => match blOf x, blsOf xs with
    | some b, some bs => some (b :: bs)
    | _, _ => none
def allF : MC := fun xs st => match xs with
  | [.ref n] => match getL st n with
    | some ys => match blsOf ys with
      | some bs => .ok (.bl (bs.all id)) st
      | none => .no
    | none => .no
  | _ => .no
def anyF : MC := fun xs st => match xs with
  | [.ref n] => match getL st n with
    | some ys => match blsOf ys with
      | some bs => .ok (.bl (bs.any id)) st
      | none => .no
    | none => .no
  | _ => .no
theorem VRs.bls {K : PySem.W.Frag} {ρ : List Addr} {H : Hp} : ∀ {xs : List PV} {vs : List V} {bs : List Bool}, VRs K ρ H xs vs → blsOf xs = some bs → vs = bs.map V.bl
  | [], vs, bs, r, e => by rw [VRs.nil_iff] at r; subst r; cases e; rfl
  | x :: xs, vs, bs, r, e => by
    rw [VRs.cons_iff] at r
    obtain ⟨v, ws, rfl, h1, h2⟩ := r
    unfold blsOf at e
    cases x with
    | bl b =>
      cases e2 : blsOf xs with
      | none => rw [e2] at e; cases e
      | some cs =>
        rw [e2] at e
        cases e
        rw [VR.bl_iff] at h1
        subst h1
        rw [VRs.bls h2 e2]
        rfl
    | _ => cases e
section
variable {X : Cx} {C : Wc} {K : PySem.W.Frag} {G : Gc}
theorem op_isNS : OpR X (compareOp .Is) (rS G (isNF false)) := by
  intro pins s σ H x y v u Q I rx ry ⟨ρ, st, xh, yh, S, hx, hy, r, st', e, k⟩
  unfold isNF at e
  split at e
  · cases e
    rw [VR.non_iff] at hy
    subst hy
    refine op_isN pins s σ H _ _ v u Q I rx ry ⟨rfl, ?_⟩
    cases xh with
    | non => rw [VR.non_iff] at hx; subst hx; exact k ρ H (.bl true) Up.refl S (VR.bl_iff.mpr rfl)
    | bl b => rw [VR.bl_iff] at hx; subst hx; exact k ρ H (.bl false) Up.refl S (VR.bl_iff.mpr rfl)
    | int i => rw [VR.int_iff] at hx; subst hx; exact k ρ H (.bl false) Up.refl S (VR.bl_iff.mpr rfl)
    | str w => rw [VR.str_iff] at hx; subst hx; exact k ρ H (.bl false) Up.refl S (VR.bl_iff.mpr rfl)
    | tup xs => rw [VR.tup_iff] at hx; obtain ⟨a, vs, rfl, _⟩ := hx; exact k ρ H (.bl false) Up.refl S (VR.bl_iff.mpr rfl)
    | ref n => rw [VR.ref_iff] at hx; obtain ⟨a, rfl, _⟩ := hx; exact k ρ H (.bl false) Up.refl S (VR.bl_iff.mpr rfl)
  · cases e
theorem op_notNS : OpR X (compareOp .IsNot) (rS G (isNF true)) := by
  intro pins s σ H x y v u Q I rx ry ⟨ρ, st, xh, yh, S, hx, hy, r, st', e, k⟩
  unfold isNF at e
  split at e
  · cases e
    rw [VR.non_iff] at hy
    subst hy
    refine op_notN pins s σ H _ _ v u Q I rx ry ⟨rfl, ?_⟩
    cases xh with
    | non => rw [VR.non_iff] at hx; subst hx; exact k ρ H (.bl false) Up.refl S (VR.bl_iff.mpr rfl)
    | bl b => rw [VR.bl_iff] at hx; subst hx; exact k ρ H (.bl true) Up.refl S (VR.bl_iff.mpr rfl)
    | int i => rw [VR.int_iff] at hx; subst hx; exact k ρ H (.bl true) Up.refl S (VR.bl_iff.mpr rfl)
    | str w => rw [VR.str_iff] at hx; subst hx; exact k ρ H (.bl true) Up.refl S (VR.bl_iff.mpr rfl)
    | tup xs => rw [VR.tup_iff] at hx; obtain ⟨a, vs, rfl, _⟩ := hx; exact k ρ H (.bl true) Up.refl S (VR.bl_iff.mpr rfl)
    | ref n => rw [VR.ref_iff] at hx; obtain ⟨a, rfl, _⟩ := hx; exact k ρ H (.bl true) Up.refl S (VR.bl_iff.mpr rfl)
  · cases e
theorem e_orX {a b : Expr} {rest : List Expr} {ma mb : ME} {pos : Pos} (hK : C.K = X.K) (ha : PE X a (tE C ma)) (hb : PE X (.BoolOp .Or (b :: rest) pos) (tE C mb)) : PE X (.BoolOp .Or (a :: b :: rest) pos) (tE C (mOrX ma mb)) :=
  (pe_orT ha hb).weak fun σ H Q ⟨ρ, st, σh, S, R, p⟩ => ⟨ρ, st, σh, S, R, (Post.bind p).imp fun ρ1 H1 x s1 _ u1 S1 ⟨s1', S1', p1⟩ v hv => by
    cases e : truF x s1' with
    | none => rw [e] at p1; exact p1.elim
    | some c =>
      rw [e] at p1
      refine ⟨c, hK ▸ tru_of S1' hv e, ?_⟩
      cases c with
      | true => exact p1 ρ1 H1 Up.refl S1' v hv
      | false => exact ⟨ρ1, s1', σh, S1', R.up u1, p1⟩⟩
theorem e_andX {a b : Expr} {rest : List Expr} {ma mb : ME} {pos : Pos} (hK : C.K = X.K) (ha : PE X a (tE C ma)) (hb : PE X (.BoolOp .And (b :: rest) pos) (tE C mb)) : PE X (.BoolOp .And (a :: b :: rest) pos) (tE C (mAndX ma mb)) :=
  (pe_andT ha hb).weak fun σ H Q ⟨ρ, st, σh, S, R, p⟩ => ⟨ρ, st, σh, S, R, (Post.bind p).imp fun ρ1 H1 x s1 _ u1 S1 ⟨s1', S1', p1⟩ v hv => by
    cases e : truF x s1' with
    | none => rw [e] at p1; exact p1.elim
    | some c =>
      rw [e] at p1
      refine ⟨c, hK ▸ tru_of S1' hv e, ?_⟩
      cases c with
      | false => exact p1 ρ1 H1 Up.refl S1' v hv
      | true => exact ⟨ρ1, s1', σh, S1', R.up u1, p1⟩⟩
theorem e_notX {a : Expr} {ma : ME} {pos : Pos} (hK : C.K = X.K) (ha : PE X a (tE C ma)) : PE X (.UnaryOp .Not a pos) (tE C (mNotX ma)) :=
  (pe_notT ha).weak fun σ H Q ⟨ρ, st, σh, S, R, p⟩ => ⟨ρ, st, σh, S, R, (Post.bind p).imp fun ρ1 H1 x s1 _ u1 S1 ⟨s1', S1', p1⟩ v hv => by
    cases e : truF x s1' with
    | none => rw [e] at p1; exact p1.elim
    | some c =>
      rw [e] at p1
      exact ⟨c, hK ▸ tru_of S1' hv e, p1 ρ1 H1 Up.refl S1' _ (VR.bl_iff.mpr rfl)⟩⟩
theorem c_int : CallR X (.type "int") (rA C.G intF) := by
  intro pins s σ H vs us Q I rv ⟨ρ, st, xs, S, hx, r, st', e, k⟩
  unfold intF at e
  split at e
  · cases e
    obtain ⟨v, rfl, h1⟩ := hx.one
    rw [VR.int_iff] at h1
    subst h1
    exact call_int1 pins s σ H _ us Q I rv (.inl ⟨_, rfl, k ρ H _ Up.refl S (VR.int_iff.mpr rfl)⟩)
  · cases e
    obtain ⟨v, rfl, h1⟩ := hx.one
    rw [VR.bl_iff] at h1
    subst h1
    exact call_int1 pins s σ H _ us Q I rv (.inr ⟨_, rfl, k ρ H _ Up.refl S (VR.int_iff.mpr rfl)⟩)
  · cases e
theorem c_bool : CallR X (.type "bool") (rA C.G boolF) := by
  intro pins s σ H vs us Q I rv ⟨ρ, st, xs, S, hx, r, st', e, k⟩
  unfold boolF at e
  split at e
  · cases e
    obtain ⟨v, rfl, h1⟩ := hx.one
    rw [VR.int_iff] at h1
    subst h1
    exact call_bool1 pins s σ H _ us Q I rv (.inl ⟨_, rfl, k ρ H _ Up.refl S (VR.bl_iff.mpr rfl)⟩)
  · cases e
    obtain ⟨v, rfl, h1⟩ := hx.one
    rw [VR.bl_iff] at h1
    subst h1
    exact call_bool1 pins s σ H _ us Q I rv (.inr ⟨_, rfl, k ρ H _ Up.refl S (VR.bl_iff.mpr rfl)⟩)
  · cases e
theorem c_all (hK : X.K = C.K) (hc : X.calm = true) : CallR X (.builtin "all") (rA C.G allF) := by
  intro pins s σ H vs us Q I rv ⟨ρ, st, xs, S, hx, r, st', e, k⟩
  unfold allF at e
  split at e
  · split at e
    · rename_i ys en
      split at e
      · rename_i bs eb
        cases e
        obtain ⟨v, rfl, h1⟩ := hx.one
        rw [VR.ref_iff] at h1
        obtain ⟨a, rfl, ha⟩ := h1
        obtain ⟨b, ws, h1, h2, h3⟩ := getL_sql S en
        rw [ha] at h1; cases h1
        exact cr_all hc pins s σ H _ us Q I rv ⟨a, bs, rfl, by rw [← h3.bls eb]; exact hK ▸ h2, k ρ H _ Up.refl S (VR.bl_iff.mpr rfl)⟩
      · cases e
    · cases e
  · cases e
theorem c_any (hK : X.K = C.K) (hc : X.calm = true) : CallR X (.builtin "any") (rA C.G anyF) := by
  intro pins s σ H vs us Q I rv ⟨ρ, st, xs, S, hx, r, st', e, k⟩
  unfold anyF at e
  split at e
  · split at e
    · rename_i ys en
      split at e
      · rename_i bs eb
        cases e
        obtain ⟨v, rfl, h1⟩ := hx.one
        rw [VR.ref_iff] at h1
        obtain ⟨a, rfl, ha⟩ := h1
        obtain ⟨b, ws, h1, h2, h3⟩ := getL_sql S en
        rw [ha] at h1; cases h1
        exact cr_any hc pins s σ H _ us Q I rv ⟨a, bs, rfl, by rw [← h3.bls eb]; exact hK ▸ h2, k ρ H _ Up.refl S (VR.bl_iff.mpr rfl)⟩
      · cases e
    · cases e
  · cases e
/-- what no run reaches -/
theorem e_no {e : Expr} : PE X e (tE C fun _ _ => .no) := ⟨fun _ _ _ _ _ _ ⟨_, _, _, _, _, p⟩ => p.elim⟩
theorem s_no {e : Stmt} : PS X e (tS C fun _ _ => .no) := ⟨fun _ _ _ _ _ _ ⟨_, _, _, _, _, p⟩ => p.elim⟩
end
section
variable {σ : Slots} {st : Store} {a b : ME}
@[simp] theorem mOrX_ap : mOrX a b σ st = (a σ st).bind fun x s1 => match truF x s1 with
  | some c => if c = true then .ok x s1 else b σ s1
  | none => .no := rfl
@[simp] theorem mAndX_ap : mAndX a b σ st = (a σ st).bind fun x s1 => match truF x s1 with
  | some c => if c = true then b σ s1 else .ok x s1
  | none => .no := rfl
@[simp] theorem mNotX_ap : mNotX a σ st = (a σ st).bind fun x s1 => match truF x s1 with
  | some c => .ok (.bl (!c)) s1
  | none => .no := rfl
@[simp] theorem isN_non {neg : Bool} : isNF neg .non .non st = .ok (.bl (!neg)) st := rfl
@[simp] theorem isN_int {neg : Bool} {i : Int} : isNF neg (.int i) .non st = .ok (.bl neg) st := rfl
@[simp] theorem isN_bl {neg c : Bool} : isNF neg (.bl c) .non st = .ok (.bl neg) st := rfl
@[simp] theorem isN_str {neg : Bool} {s : Str} : isNF neg (.str s) .non st = .ok (.bl neg) st := rfl
@[simp] theorem isN_tup {neg : Bool} {xs : List PV} : isNF neg (.tup xs) .non st = .ok (.bl neg) st := rfl
@[simp] theorem isN_ref {neg : Bool} {n : Nat} : isNF neg (.ref n) .non st = .ok (.bl neg) st := rfl
@[simp] theorem int_int {i : Int} : intF [.int i] st = .ok (.int i) st := rfl
@[simp] theorem int_bl {c : Bool} : intF [.bl c] st = .ok (.int (if c then 1 else 0)) st := rfl
@[simp] theorem bool_int {i : Int} : boolF [.int i] st = .ok (.bl (i != 0)) st := rfl
@[simp] theorem bool_bl {c : Bool} : boolF [.bl c] st = .ok (.bl c) st := rfl
end
end Sm

namespace Sm
open PySem PySem.Spec PyProof.Rows L2
theorem hu1 {k : Nat} {A : Around} (hr : Room k A) : A.units + 1 < cLine := by have := hr.un; omega
/-! ### dicts with keys that are ints and texts -/
def keyP : PV → Option Key
  | .int i => some (.inl i)
  | .str x => some (.inr x)
  | _ => none
def valP (kvs : List (Key × PV)) (k : Key) : Option PV := (kvs.find? fun kv => decide (kv.1 = k)).map (·.2)
def swapP (kvs : List (Key × PV)) (k : Key) (x : PV) : List (Key × PV) := kvs.map fun kv => if kv.1 = k then (kv.1, x) else kv
def putP (kvs : List (Key × PV)) (k : Key) (x : PV) : List (Key × PV) := if (kvs.any fun kv => decide (kv.1 = k)) = true then swapP kvs k x else kvs ++ [(k, x)]
def mergeP (kvs more : List (Key × PV)) : List (Key × PV) := more.foldl (fun acc kv => putP acc kv.1 kv.2) kvs
/-- the dict that stands for kvs, its values vs -/
abbrev zipK (kvs : List (Key × PV)) (vs : List V) : List (Key × V) := (kvs.map (·.1)).zip vs
section
variable {K : PySem.W.Frag} {G : Gc} {ρ : List Addr} {H : Hp}
theorem keyP_ok {x : PV} {v : V} {k : Key} (r : VR K ρ H x v) (e : keyP x = some k) : v = kV k := by
  unfold keyP at e
  split at e
  · cases e; rw [VR.int_iff] at r; exact r
  · cases e; rw [VR.str_iff] at r; exact r
  · cases e
theorem zip_any {k : Key} : ∀ {kvs : List (Key × PV)} {vs : List V}, vs.length = kvs.length → ((zipK kvs vs).any fun kv => decide (kv.1 = k)) = kvs.any fun kv => decide (kv.1 = k)
  | [], vs, h => rfl
  | p :: kvs, [], h => by simp at h
  | p :: kvs, v :: vs, h => by
    have ih := zip_any (k := k) (kvs := kvs) (vs := vs) (by simpa using h)
    show (decide (p.1 = k) || (zipK kvs vs).any fun kv => decide (kv.1 = k)) = _
    rw [ih]
    rfl
theorem zip_swap {k : Key} {x : PV} {v : V} (hx : VR K ρ H x v) : ∀ {kvs : List (Key × PV)} {vs : List V}, VRs K ρ H (kvs.map (·.2)) vs → ∃ vs', (zipK kvs vs).map (fun kv => if kv.1 = k then (kv.1, v) else kv) = zipK (swapP kvs k x) vs' ∧ VRs K ρ H ((swapP kvs k x).map (·.2)) vs'
  | [], vs, h => ⟨[], rfl, VRs.nil_iff.mpr rfl⟩
  | p :: kvs, vs, h => by
    rw [List.map_cons, VRs.cons_iff] at h
    obtain ⟨w, r, rfl, h1, h2⟩ := h
    obtain ⟨vs', e, h3⟩ := zip_swap hx (k := k) h2
    by_cases hk : p.1 = k
    · refine ⟨v :: vs', ?_, ?_⟩
      · show (if p.1 = k then (p.1, v) else (p.1, w)) :: (zipK kvs r).map _ = zipK ((if p.1 = k then (p.1, x) else p) :: swapP kvs k x) (v :: vs')
        rw [if_pos hk, if_pos hk, e]
        rfl
      · show VRs K ρ H (((if p.1 = k then (p.1, x) else p) :: swapP kvs k x).map (·.2)) _
        rw [if_pos hk]
        exact VRs.cons_iff.mpr ⟨_, _, rfl, hx, h3⟩
    · refine ⟨w :: vs', ?_, ?_⟩
      · show (if p.1 = k then (p.1, v) else (p.1, w)) :: (zipK kvs r).map _ = zipK ((if p.1 = k then (p.1, x) else p) :: swapP kvs k x) (w :: vs')
        rw [if_neg hk, if_neg hk, e]
        rfl
      · show VRs K ρ H (((if p.1 = k then (p.1, x) else p) :: swapP kvs k x).map (·.2)) _
        rw [if_neg hk]
        exact VRs.cons_iff.mpr ⟨_, _, rfl, h1, h3⟩
theorem zip_put {k : Key} {x : PV} {v : V} {kvs : List (Key × PV)} {vs : List V} (hx : VR K ρ H x v) (h : VRs K ρ H (kvs.map (·.2)) vs) : ∃ vs', putK (zipK kvs vs) k v = zipK (putP kvs k x) vs' ∧ VRs K ρ H ((putP kvs k x).map (·.2)) vs' := by
  have hl : vs.length = kvs.length := by rw [h.length, List.length_map]
  unfold putK putP
  rw [zip_any hl]
  by_cases hk : (kvs.any fun kv => decide (kv.1 = k)) = true
  · rw [if_pos hk, if_pos hk]
    exact zip_swap hx h
  · rw [if_neg hk, if_neg hk]
    refine ⟨vs ++ [v], ?_, ?_⟩
    · unfold zipK
      rw [List.map_append, List.zip_append (by rw [List.length_map, hl])]
      rfl
    · rw [List.map_append]
      exact h.append (VRs.cons_iff.mpr ⟨v, [], rfl, hx, VRs.nil_iff.mpr rfl⟩)
theorem zip_val {k : Key} : ∀ {kvs : List (Key × PV)} {vs : List V}, VRs K ρ H (kvs.map (·.2)) vs → (∀ x, valP kvs k = some x → ∃ v, valV (zipK kvs vs) k = some v ∧ VR K ρ H x v) ∧ (valP kvs k = none → valV (zipK kvs vs) k = none)
  | [], vs, h => ⟨fun x e => (by cases e), fun _ => rfl⟩
  | p :: kvs, vs, h => by
    rw [List.map_cons, VRs.cons_iff] at h
    obtain ⟨w, r, rfl, h1, h2⟩ := h
    have ih := zip_val (k := k) h2
    by_cases hk : p.1 = k
    · have e1 : valP (p :: kvs) k = some p.2 := by simp [valP, List.find?_cons, hk]
      have e2 : valV (zipK (p :: kvs) (w :: r)) k = some w := valV_pos (p := (p.1, w)) hk
      rw [e1, e2]
      exact ⟨fun x e => by cases e; exact ⟨w, rfl, h1⟩, fun e => by cases e⟩
    · have e1 : valP (p :: kvs) k = valP kvs k := by simp [valP, List.find?_cons, hk]
      have e2 : valV (zipK (p :: kvs) (w :: r)) k = valV (zipK kvs r) k := valV_neg (p := (p.1, w)) hk
      rw [e1, e2]
      exact ih
end
def getK (st : Store) (n : Nat) : Option (List (Key × PV)) := match st[n]? with
  | some (.dk kvs) => some kvs
  | _ => none
theorem getK_dk {st : Store} {n : Nat} {kvs : List (Key × PV)} (h : st[n]? = some (.dk kvs)) : getK st n = some kvs := by unfold getK; rw [h]
theorem getK_some {st : Store} {n : Nat} {kvs : List (Key × PV)} (h : getK st n = some kvs) : st[n]? = some (.dk kvs) := by
  unfold getK at h
  split at h
  · rename_i e; cases h; exact e
  · cases h
/-- d[k] -/
def dixF : M2 := fun x y st => match x, keyP y with
  | .ref n, some k => match (getK st n).bind fun kvs => valP kvs k with
    | some z => .ok z st
    | none => .no
  | _, _ => .no
/-- d.get(k, z) -/
def dgetF (x y z : PV) (st : Store) : Res PV := match x, keyP y with
  | .ref n, some k => match getK st n with
    | some kvs => .ok ((valP kvs k).getD z) st
    | none => .no
  | _, _ => .no
def mGet (a b c : ME) : ME := fun σ st => (a σ st).bind fun x s1 => match x with
  | .ref n => match getK s1 n with
    | some _ => (b σ s1).bind fun y s2 => (c σ s2).bind fun z s3 => match dgetF x y z s3 with
      | .ok r s4 => .ok r s4
      | _ => .no
    | none => .no
  | _ => .no
/-- the pairs of a display -/
def mPairs : List (ME × ME) → Slots → Store → Res (List (Key × PV))
  | [], _, st => .ok [] st
  | (a, b) :: r, σ, st => (a σ st).bind fun x s1 => (b σ s1).bind fun y s2 => (mPairs r σ s2).bind fun ps s3 => match keyP x with
    | some k => .ok ((k, y) :: ps) s3
    | none => .no
def mDict (ms : List (ME × ME)) : ME := fun σ st => (mPairs ms σ (st ++ [.dk []])).bind fun kvs s1 => match getK s1 st.length with
  | some [] => if kvs.length ≤ 15 then .ok (.ref st.length) (s1.set st.length (.dk (mergeP [] kvs))) else .no
  | _ => .no
section
variable {X : Cx} {C : Wc} {K : PySem.W.Frag} {G : Gc}
theorem e_dix {o i : Expr} {m mi : ME} {pos : Pos} (hK : X.K = C.K) (hu : X.A.units + 1 < cLine) (ho : PE X o (tE C m)) (hi : PE X i (tE C mi)) (hs : NoSl i := by exact fun _ _ => rfl) : PE X (.Subscript o i pos) (tE C (mOp dixF m mi)) :=
  (pe_dget hu ho hi hs).weak fun σ H Q ⟨ρ, st, σh, S, R, p⟩ => ⟨ρ, st, σh, S, R, (Post.bind p).imp fun ρ1 H1 x s1 _ u1 S1 ⟨s1', S1', p1⟩ v hv =>
    ⟨ρ1, s1', σh, S1', R.up u1, (Post.bind p1).imp fun ρ2 H2 y s2 _ u2 S2 ⟨s2', S2', p2⟩ w hw => by
      have hv2 := hv.up u2
      have key : ∃ n k z, x = .ref n ∧ keyP y = some k ∧ (getK s2' n).bind (fun kvs => valP kvs k) = some z := by
        unfold dixF at p2
        cases x with
        | ref n =>
          cases hk : keyP y with
          | none => rw [hk] at p2; exact p2.elim
          | some k =>
            rw [hk] at p2
            dsimp only at p2
            cases hz : (getK s2' n).bind fun kvs => valP kvs k with
            | none => rw [hz] at p2; exact p2.elim
            | some z => exact ⟨n, k, z, rfl, rfl, hz⟩
        | _ => exact p2.elim
      obtain ⟨n, k, z, rfl, hk, hz⟩ := key
      unfold dixF at p2
      rw [hk] at p2
      dsimp only at p2
      rw [hz] at p2
      rw [VR.ref_iff] at hv2
      obtain ⟨a, rfl, ha⟩ := hv2
      cases hg : getK s2' n with
      | none => rw [hg] at hz; cases hz
      | some kvs =>
        rw [hg] at hz
        obtain ⟨b, vs, h1, h2, h3⟩ := S2'.getK (getK_some hg)
        rw [ha] at h1; cases h1
        obtain ⟨v', e1, r1⟩ := (zip_val h3).1 z hz
        have hkey := keyP_ok hw hk
        subst hkey
        exact ⟨a, v', rfl, e1 ▸ DGet.k h2, p2 ρ2 H2 Up.refl S2' _ r1⟩⟩⟩
theorem d_nil {pos : Pos} : PPs X pos [] [] (([] : List (ME × ME)).map fun p => (tE C p.1, tE C p.2)) := pps_nil
theorem d_cons {pos : Pos} {k v : Expr} {ks : List (Option Expr)} {vs : List Expr} {a b : ME} {ms : List (ME × ME)} (hk : PE X k (tE C a)) (hv : PE X v (tE C b)) (hr : PPs X pos ks vs (ms.map fun p => (tE C p.1, tE C p.2))) :
    PPs X pos (some k :: ks) (v :: vs) (((a, b) :: ms).map fun p => (tE C p.1, tE C p.2)) := pps_cons hk hv hr
theorem pairs_run : ∀ (ms : List (ME × ME)) {ρ : List Addr} {st : Store} {σh : Slots} {H : Hp} {σ : L2.St} {Q : List (V × V) → Hp → Prop}, SR C.G ρ H st → SlR C.K ρ H σh σ →
    Post C ρ H σ (fun ρ' H' kvs => ∀ vs, VRs C.K ρ' H' (kvs.map (·.2)) vs → Q ((zipK kvs vs).map fun kv => (kV kv.1, kv.2)) H') (mPairs ms σh st) → tPairs (ms.map fun p => (tE C p.1, tE C p.2)) σ H Q
  | [], ρ, st, σh, H, σ, Q, S, R, p => p ρ H Up.refl S [] (VRs.nil_iff.mpr rfl)
  | (a, b) :: r, ρ, st, σh, H, σ, Q, S, R, p => ⟨ρ, st, σh, S, R, (Post.bind p).imp fun ρ1 H1 x s1 _ u1 S1 ⟨s1', S1', p1⟩ v hv => ⟨ρ1, s1', σh, S1', R.up u1, (Post.bind p1).imp fun ρ2 H2 y s2 _ u2 S2 ⟨s2', S2', p2⟩ w hw =>
      pairs_run r S2' (R.up (u1.trans u2)) ((Post.bind p2).imp fun ρ3 H3 ps s3 _ u3 S3 ⟨s3', S3', p3⟩ vs hvs => by
        cases hk : keyP x with
        | none => rw [hk] at p3; exact p3.elim
        | some k =>
          rw [hk] at p3
          have e := keyP_ok hv hk
          subst e
          exact p3 ρ3 H3 Up.refl S3' (w :: vs) (VRs.cons_iff.mpr ⟨w, vs, rfl, hw.up u3, hvs⟩))⟩⟩
theorem merge_ok {ρ : List Addr} {H : Hp} : ∀ {more : List (Key × PV)} {ws : List V} {kvs : List (Key × PV)} {vs : List V}, VRs K ρ H (more.map (·.2)) ws → VRs K ρ H (kvs.map (·.2)) vs →
    ∃ us, mergeK (zipK kvs vs) (zipK more ws) = zipK (mergeP kvs more) us ∧ VRs K ρ H ((mergeP kvs more).map (·.2)) us
  | [], ws, kvs, vs, h, g => ⟨vs, rfl, g⟩
  | p :: more, ws, kvs, vs, h, g => by
    rw [List.map_cons, VRs.cons_iff] at h
    obtain ⟨w, r, rfl, h1, h2⟩ := h
    obtain ⟨us, e1, g1⟩ := zip_put (k := p.1) h1 g
    obtain ⟨us', e2, g2⟩ := merge_ok h2 g1
    refine ⟨us', ?_, g2⟩
    show mergeK (putK (zipK kvs vs) p.1 w) (zipK more r) = _
    rw [e1, e2]
    rfl
theorem e_dict {keys : List (Option Expr)} {values : List Expr} {ms : List (ME × ME)} {pos : Pos} (h : PPs X pos keys values (ms.map fun p => (tE C p.1, tE C p.2))) (hall : keys.all (·.isSome) = true) (hl : keys.length = values.length) (h0 : keys ≠ []) (h15 : keys.length ≤ 15) :
    PE X (.Dict keys values pos) (tE C (mDict ms)) :=
  (pe_disp h hall hl h0 h15).weak fun σ H Q ⟨ρ, st, σh, S, R, p⟩ => by
    intro a ha
    have u0 : Up C.K ρ H (ρ ++ [a]) (upd H a (.dK [])) := up_app ha
    have S0 : SR C.G (ρ ++ [a]) (upd H a (.dK [])) (st ++ [.dk []]) := S.pushK (kvs := []) (vs := []) ha (VRs.nil_iff.mpr rfl)
    refine pairs_run ms S0 (R.up u0) ((Post.bind (Post.up u0 p)).imp fun ρ1 H1 kvs s1 _ u1 S1 ⟨s1', S1', p1⟩ vs hvs => ?_)
    cases hg : getK s1' st.length with
    | none => rw [hg] at p1; exact p1.elim
    | some d =>
      rw [hg] at p1
      cases d with
      | cons _ _ => exact p1.elim
      | nil =>
        dsimp only at p1
        by_cases hk : kvs.length ≤ 15
        · rw [if_pos hk] at p1
          obtain ⟨b, ws, h1, h2, h3⟩ := S1'.getK (getK_some hg)
          have hb : (ρ ++ [a])[st.length]? = some a := by rw [← S.len]; simp
          rw [u1.r _ _ hb] at h1
          cases h1
          obtain ⟨us, e1, g1⟩ := merge_ok (more := kvs) (kvs := []) (vs := []) hvs (VRs.nil_iff.mpr rfl)
          refine ⟨h2, zipK kvs vs, rfl, ?_, ?_⟩
          · unfold zipK
            rw [List.length_zip, List.length_map, hvs.length, List.length_map]
            omega
          · rw [show mergeK [] (zipK kvs vs) = zipK (mergeP [] kvs) us from e1]
            exact p1 ρ1 _ (up_writeK h2) (S1'.writeK (getK_some hg) (u1.r _ _ hb) h2 g1) _ (VR.ref_iff.mpr ⟨a, rfl, u1.r _ _ hb⟩)
        · rw [if_neg hk] at p1; exact p1.elim
end
end Sm

namespace Sm
open PySem PySem.Spec PyProof.Rows L2
/-! ### walked: a list or a tuple, whichever stands there -/
def iSeq (K : PySem.W.Frag) (t : TE) : TI := fun σ H R => t σ H fun x H1 => (∃ b ys, x = .ref b ∧ SqL K H1 b ys ∧ R (Itl K b) H1) ∨ ∃ b ys, x = .ref b ∧ SqT K H1 b ys ∧ R (Itt K b) H1
theorem pi_seq {X : Cx} {tg l : Expr} {t : TE} (he : PE X l t) : PI X tg l (iSeq X.K t) := by
  constructor
  intro pins s σ H R I w
  refine thn (he.run pins s σ H _ I w) ?_
  rintro v s2 ⟨x, G, J, rx, q⟩
  have seen : ∀ y ∈ [s2.heap.objs.size], FpOk X pins G y := by
    intro y my
    rw [List.mem_singleton] at my
    rw [my]
    exact J.fpOk (Nat.le_refl _) (J.hok.fresh (Nat.le_refl _))
  have kept : ∀ ob : Obj, Inv X pins σ G { s2 with heap := s2.heap.push ob } := fun ob => J.kept (t' := s2.toks) fun _ _ z => Heap.get?_push_of_some _ z
  rcases q with ⟨b, ys, rfl, sq, r⟩ | ⟨b, ys, rfl, sq, r⟩
  · cases rx
    obtain ⟨items, _, pl, _⟩ := J.list sq
    exact wpAny_pyIter_list pl.isList ⟨_, _, _, _, G, rfl, kept _, turn_list b _, ⟨_, Heap.get?_push_size _ rfl, rfl, rfl⟩, seen, r⟩
  · cases rx
    obtain ⟨items, _, pl, _⟩ := J.tuple sq
    exact wpAny_pyIter_tuple (items := items.toArray) pl ⟨_, _, _, _, G, rfl, kept _, turn_tuple b _, ⟨_, Heap.get?_push_size _ rfl, rfl, rfl⟩, seen, r⟩
def mItS (a : ME) : MI := fun σ st => (a σ st).bind fun x s1 => match x with
  | .ref n => match getL s1 n with
    | some xs => .ok (some n, xs) s1
    | none => .no
  | .tup xs => .ok (none, xs) s1
  | _ => .no
theorem i_seq {X : Cx} {C : Wc} {tg l : Expr} {m : ME} (hK : X.K = C.K) (h : PE X l (tE C m)) : PI X tg l (tI C (mItS m)) := (pi_seq h).weak fun σ H R ⟨ρ, st, σh, S, Rl, p⟩ =>
  ⟨ρ, st, σh, S, Rl, (Post.bind p).imp fun ρ1 H1 x s1 _ u1 S1 ⟨s1', S1', p1⟩ v hv => by
    cases x with
    | ref n =>
      cases e : getL s1' n with
      | none => dsimp only at p1; rw [e] at p1; exact p1.elim
      | some xs =>
        dsimp only at p1
        rw [e] at p1
        rw [VR.ref_iff] at hv
        obtain ⟨a, rfl, ha⟩ := hv
        obtain ⟨b, vs, h1, h2, h3⟩ := getL_sql S1' e
        rw [ha] at h1; cases h1
        exact .inl ⟨a, vs, rfl, hK ▸ h2, p1 ρ1 H1 Up.refl S1' _ (by rw [hK]; exact js_list ha)⟩
    | tup xs =>
      rw [VR.tup_iff] at hv
      obtain ⟨a, vs, rfl, h2, h3⟩ := hv
      exact .inr ⟨a, vs, rfl, hK ▸ h2, p1 ρ1 H1 Up.refl S1' _ (by rw [hK]; exact js_tup h2 h3)⟩
    | _ => exact p1.elim⟩
@[simp] theorem mItS_ap {a : ME} {σ : Slots} {st : Store} : mItS a σ st = (a σ st).bind fun x s1 => match x with
  | .ref n => match getL s1 n with
    | some xs => .ok (some n, xs) s1
    | none => .no
  | .tup xs => .ok (none, xs) s1
  | _ => .no := rfl
end Sm

namespace Sm
open PySem PySem.Spec PyProof.Rows L2
/-! ### dicts that are filled, asked -/
def mDnew : ME := fun _ st => .ok (.ref st.length) (st ++ [.dk []])
/-- d[k] = v -/
def mDput (d k v : ME) : MS := fun σ st => (v σ st).fl σ fun z s1 => (d σ s1).fl σ fun x s2 => (k σ s2).fl σ fun y s3 => match x, keyP y with
  | .ref n, some kk => match getK s3 n with
    | some kvs => if kvs.length < sizeLine then .nx σ (s3.set n (.dk (putP kvs kk z))) else .no
    | none => .no
  | _, _ => .no
section
variable {X : Cx} {C : Wc}
theorem e_dnew {pos : Pos} : PE X (.Dict [] [] pos) (tE C mDnew) := pe_dnewK.weak fun σ H Q ⟨ρ, st, σh, S, R, p⟩ => fun a ha =>
  p (ρ ++ [a]) (upd H a (.dK [])) (up_app ha) (S.pushK (kvs := []) (vs := []) ha (VRs.nil_iff.mpr rfl)) (.ref a) (VR.mk_ref S)
theorem e_dget {o e f : Expr} {m mk mz : ME} {apos cpos : Pos} (hK : X.K = C.K) (hu : X.A.units + 1 < cLine) (ho : PE X o (tE C m)) (he : PE X e (tE C mk)) (hf : PE X f (tE C mz)) (mm : L2.M2 X o "get" apos e f cpos) : PE X (.Call (.Attribute o "get" apos) [e, f] [] cpos) (tE C (mGet m mk mz)) :=
  (pe_dget2 hu ho he hf mm).weak fun σ H Q ⟨ρ, st, σh, S, R, p⟩ => ⟨ρ, st, σh, S, R, (Post.bind p).imp fun ρ1 H1 x s1 _ u1 S1 ⟨s1', S1', p1⟩ v hv => by
    cases x with
    | ref n =>
      dsimp only at p1
      cases hg : getK s1' n with
      | none => rw [hg] at p1; exact p1.elim
      | some kvs =>
        rw [hg] at p1
        rw [VR.ref_iff] at hv
        obtain ⟨a, rfl, ha⟩ := hv
        obtain ⟨b, vs, h1, h2, h3⟩ := S1'.getK (getK_some hg)
        rw [ha] at h1; cases h1
        refine ⟨a, rfl, .inl ⟨_, .inl h2⟩, ρ1, s1', σh, S1', R.up u1, (Post.bind p1).imp fun ρ2 H2 y s2 _ u2 S2 ⟨s2', S2', p2⟩ w hw => ⟨ρ2, s2', σh, S2', R.up (u1.trans u2), (Post.bind p2).imp fun ρ3 H3 z s3 _ u3 S3 ⟨s3', S3', p3⟩ r hr => ?_⟩⟩
        have ha3 := u3.r _ _ (u2.r _ _ ha)
        have hw3 := hw.up u3
        unfold dgetF at p3
        cases hk : keyP y with
        | none => rw [hk] at p3; exact p3.elim
        | some kk =>
          rw [hk] at p3
          dsimp only at p3
          cases hg3 : getK s3' n with
          | none => rw [hg3] at p3; exact p3.elim
          | some kvs3 =>
            rw [hg3] at p3
            dsimp only at p3
            obtain ⟨b3, vs3, g1, g2, g3⟩ := S3'.getK (getK_some hg3)
            rw [ha3] at g1; cases g1
            have hkey := keyP_ok hw3 hk
            subst hkey
            cases hv : valP kvs3 kk with
            | none =>
              rw [hv] at p3
              exact ⟨none, (zip_val g3).2 hv ▸ DGet.k g2, p3 ρ3 H3 Up.refl S3' _ hr⟩
            | some zz =>
              rw [hv] at p3
              obtain ⟨v', e1, r1⟩ := (zip_val g3).1 zz hv
              exact ⟨some v', e1 ▸ DGet.k g2, p3 ρ3 H3 Up.refl S3' _ r1⟩
    | _ => exact p1.elim⟩
/-- y in d, y not in d: asked of a dict -/
def dinF (neg : Bool) : M2 := fun y x st => match x, keyP y with
  | .ref n, some k => match getK st n with
    | some kvs => .ok (.bl (if neg then !(valP kvs k).isSome else (valP kvs k).isSome)) st
    | none => .no
  | _, _ => .no
theorem din_ok {ρ : List Addr} {H : Hp} {st : Store} {y x : PV} {v w : V} {neg : Bool} {r : PV} {st' : Store} (S : SR C.G ρ H st) (hy : VR C.K ρ H y v) (hx : VR C.K ρ H x w) (e : dinF neg y x st = .ok r st') :
    ∃ a o, w = .ref a ∧ DGet H a v o ∧ st' = st ∧ r = .bl (if neg then !o.isSome else o.isSome) := by
  unfold dinF at e
  cases x with
  | ref n =>
    cases hk : keyP y with
    | none => rw [hk] at e; cases e
    | some k =>
      rw [hk] at e
      dsimp only at e
      cases hg : getK st n with
      | none => rw [hg] at e; cases e
      | some kvs =>
        rw [hg] at e
        cases e
        rw [VR.ref_iff] at hx
        obtain ⟨a, rfl, ha⟩ := hx
        obtain ⟨b, vs, h1, h2, h3⟩ := S.getK (getK_some hg)
        rw [ha] at h1; cases h1
        have hkey := keyP_ok hy hk
        subst hkey
        cases hv : valP kvs k with
        | none => exact ⟨a, none, rfl, (zip_val h3).2 hv ▸ DGet.k h2, rfl, rfl⟩
        | some z =>
          obtain ⟨v', e1, _⟩ := (zip_val h3).1 z hv
          exact ⟨a, some v', rfl, e1 ▸ DGet.k h2, rfl, rfl⟩
  | _ => cases e
theorem din_run {a b : ME} {neg : Bool} {σ : L2.St} {H : Hp} {Q : VK} (h : tE C (mOp (dinF neg) a b) σ H Q) : (if neg then tDNotIn (tE C a) (tE C b) σ H Q else tDIn (tE C a) (tE C b) σ H Q) := by
  obtain ⟨ρ, st, σh, S, R, p⟩ := h
  have key : tE C a σ H fun y H1 => tE C b σ H1 fun x H2 => ∃ aa o, x = .ref aa ∧ DGet H2 aa y o ∧ Q (.bl (if neg then !o.isSome else o.isSome)) H2 :=
    ⟨ρ, st, σh, S, R, (Post.bind p).imp fun ρ1 H1 y s1 _ u1 S1 ⟨s1', S1', p1⟩ v hv => ⟨ρ1, s1', σh, S1', R.up u1, (Post.bind p1).imp fun ρ2 H2 x s2 _ u2 S2 ⟨s2', S2', p2⟩ w hw => by
      cases e : dinF neg y x s2' with
      | ok r s3 =>
        obtain ⟨aa, o, rfl, g, rfl, rfl⟩ := din_ok S2' (hv.up u2) hw e
        rw [e] at p2
        exact ⟨aa, o, rfl, g, p2 ρ2 H2 Up.refl S2' _ (VR.bl_iff.mpr rfl)⟩
      | exc cc fs s3 =>
        unfold dinF at e
        split at e <;> (try split at e) <;> cases e
      | no => rw [e] at p2; exact p2.elim⟩⟩
  cases neg with
  | true => exact key
  | false => exact key
theorem e_din {a b : Expr} {ma mb : ME} {pos : Pos} (hu : X.A.units + 1 < cLine) (ha : PE X a (tE C ma)) (hb : PE X b (tE C mb)) (hm : behindInMarks .In b = false := by rfl) : PE X (.Compare a [.In] [b] pos) (tE C (mOp (dinF false) ma mb)) :=
  (pe_cmp (pc_din hu ha hb) hm).weak fun _ _ _ h => din_run (neg := false) h
theorem e_dnotin {a b : Expr} {ma mb : ME} {pos : Pos} (hu : X.A.units + 1 < cLine) (ha : PE X a (tE C ma)) (hb : PE X b (tE C mb)) (hm : behindInMarks .NotIn b = false := by rfl) : PE X (.Compare a [.NotIn] [b] pos) (tE C (mOp (dinF true) ma mb)) :=
  (pe_cmp (pc_dnotin hu ha hb) hm).weak fun _ _ _ h => din_run (neg := true) h
theorem s_dput {o i e : Expr} {md mk mv : ME} {pos pos' : Pos} (hu : X.A.units + 1 < cLine) (ho : PE X o (tE C md)) (hi : PE X i (tE C mk)) (he : PE X e (tE C mv)) (hs : swapsWith e (some (.Subscript o i pos')) pos.line X.env = pure false := by rfl) :
    PS X (.Assign [.Subscript o i pos'] e pos) (tS C (mDput md mk mv)) :=
  (ps_dput hu ho hi he hs).weak fun D σ H ⟨ρ, st, σh, S, R, p⟩ => ⟨ρ, st, σh, S, R, (PostS.fl R p).imp fun ρ1 H1 z s1 _ u1 S1 ⟨s1', S1', p1⟩ v hv =>
    ⟨ρ1, s1', σh, S1', R.up u1, (PostS.fl (R.up u1) p1).imp fun ρ2 H2 x s2 _ u2 S2 ⟨s2', S2', p2⟩ w hw => ⟨ρ2, s2', σh, S2', R.up (u1.trans u2), (PostS.fl (R.up (u1.trans u2)) p2).imp fun ρ3 H3 y s3 _ u3 S3 ⟨s3', S3', p3⟩ r hr => by
      have hv3 := hv.up (u2.trans u3)
      have hw3 := hw.up u3
      have R3 := R.up (u1.trans (u2.trans u3))
      cases x with
      | ref n =>
        cases hk : keyP y with
        | none => rw [hk] at p3; exact p3.elim
        | some k =>
          rw [hk] at p3
          dsimp only at p3
          cases hg : getK s3' n with
          | none => rw [hg] at p3; exact p3.elim
          | some kvs =>
            rw [hg] at p3
            dsimp only at p3
            by_cases hl : kvs.length < sizeLine
            · rw [if_pos hl] at p3
              rw [VR.ref_iff] at hw3
              obtain ⟨a, rfl, ha⟩ := hw3
              obtain ⟨b, vs, h1, h2, h3⟩ := S3'.getK (getK_some hg)
              rw [ha] at h1; cases h1
              have hkey := keyP_ok hr hk
              subst hkey
              obtain ⟨vs', e1, g1⟩ := zip_put (k := k) hv3 h3
              have hz : (zipK kvs vs).length < sizeLine := by
                unfold zipK
                rw [List.length_zip, List.length_map]
                omega
              refine ⟨a, _, rfl, DPut.k h2 hz, ?_⟩
              rw [show putK ((kvs.map (·.1)).zip vs) k v = zipK (putP kvs k z) vs' from e1]
              exact p3 ρ3 _ σ (up_writeK h2) (S3'.writeK (getK_some hg) ha h2 g1) (R3.up (up_writeK h2))
            · rw [if_neg hl] at p3; exact p3.elim
      | _ => exact p3.elim⟩⟩⟩
end
section
variable {σ : Slots} {st : Store} {a b c : ME}
@[simp] theorem mDnew_ap : mDnew σ st = .ok (.ref st.length) (st ++ [.dk []]) := rfl
@[simp] theorem mDput_ap : mDput a b c σ st = (c σ st).fl σ fun z s1 => (a σ s1).fl σ fun x s2 => (b σ s2).fl σ fun y s3 => match x, keyP y with
  | .ref n, some kk => match getK s3 n with
    | some kvs => if kvs.length < sizeLine then .nx σ (s3.set n (.dk (putP kvs kk z))) else .no
    | none => .no
  | _, _ => .no := rfl
end
end Sm

namespace Sm
open PySem PySem.Spec PyProof.Rows L2
/-! ### sum, max, min of a list of integers -/
def intOf : PV → Option Int
  | .int b => some b
  | _ => none
def intsOf : List PV → Option (List Int)
  | [] => some []
  | x :: xs => match intOf x, intsOf xs with
    | some b, some bs => some (b :: bs)
    | _, _ => none
theorem VRs.intsE {K : PySem.W.Frag} {ρ : List Addr} {H : Hp} : ∀ {xs : List PV} {vs : List V} {bs : List Int}, VRs K ρ H xs vs → intsOf xs = some bs → vs = bs.map V.int
  | [], vs, bs, r, e => by rw [VRs.nil_iff] at r; subst r; cases e; rfl
  | x :: xs, vs, bs, r, e => by
    rw [VRs.cons_iff] at r
    obtain ⟨v, ws, rfl, h1, h2⟩ := r
    unfold intsOf at e
    cases x with
    | int c =>
      rw [VR.int_iff] at h1
      cases e2 : intsOf xs with
      | none => rw [e2] at e; cases e
      | some cs =>
        rw [e2] at e
        cases e
        rw [h2.intsE e2, h1]
        rfl
    | _ => cases e
def mxL : Int → List Int → Int
  | m, [] => m
  | m, y :: r => mxL (if y > m then y else m) r
def mnL : Int → List Int → Int
  | m, [] => m
  | m, y :: r => mnL (if y < m then y else m) r
theorem mxL_top : ∀ (r : List Int) (m : Int), m ≤ mxL m r ∧ (∀ y ∈ r, y ≤ mxL m r) ∧ (mxL m r = m ∨ mxL m r ∈ r)
  | [], m => ⟨Int.le_refl _, (fun _ h => nomatch h), .inl rfl⟩
  | y :: r, m => by
    have h := mxL_top r (if y > m then y else m)
    unfold mxL
    by_cases c : y > m
    · rw [if_pos c] at h ⊢
      refine ⟨by omega, fun z hz => ?_, .inr ?_⟩
      · rcases List.mem_cons.mp hz with rfl | hz
        · exact h.1
        · exact h.2.1 z hz
      · rcases h.2.2 with e | e
        · rw [e]; exact List.mem_cons_self
        · exact List.mem_cons_of_mem _ e
    · rw [if_neg c] at h ⊢
      refine ⟨h.1, fun z hz => ?_, ?_⟩
      · rcases List.mem_cons.mp hz with rfl | hz
        · omega
        · exact h.2.1 z hz
      · rcases h.2.2 with e | e
        · exact .inl e
        · exact .inr (List.mem_cons_of_mem _ e)
theorem mnL_top : ∀ (r : List Int) (m : Int), mnL m r ≤ m ∧ (∀ y ∈ r, mnL m r ≤ y) ∧ (mnL m r = m ∨ mnL m r ∈ r)
  | [], m => ⟨Int.le_refl _, (fun _ h => nomatch h), .inl rfl⟩
  | y :: r, m => by
    have h := mnL_top r (if y < m then y else m)
    unfold mnL
    by_cases c : y < m
    · rw [if_pos c] at h ⊢
      refine ⟨by omega, fun z hz => ?_, .inr ?_⟩
      · rcases List.mem_cons.mp hz with rfl | hz
        · exact h.1
        · exact h.2.1 z hz
      · rcases h.2.2 with e | e
        · rw [e]; exact List.mem_cons_self
        · exact List.mem_cons_of_mem _ e
    · rw [if_neg c] at h ⊢
      refine ⟨h.1, fun z hz => ?_, ?_⟩
      · rcases List.mem_cons.mp hz with rfl | hz
        · omega
        · exact h.2.1 z hz
      · rcases h.2.2 with e | e
        · exact .inl e
        · exact .inr (List.mem_cons_of_mem _ e)
def sumF : MC := fun xs st => match xs with
  | [.ref n] => match getL st n with
    | some ys => match intsOf ys with
      | some bs => .ok (.int bs.sum) st
      | none => .no
    | none => .no
  | _ => .no
def maxLF : MC := fun xs st => match xs with
  | [.ref n] => match getL st n with
    | some ys => match intsOf ys with
      | some (b :: bs) => .ok (.int (mxL b bs)) st
      | _ => .no
    | none => .no
  | _ => .no
def minLF : MC := fun xs st => match xs with
  | [.ref n] => match getL st n with
    | some ys => match intsOf ys with
      | some (b :: bs) => .ok (.int (mnL b bs)) st
      | _ => .no
    | none => .no
  | _ => .no
section
variable {X : Cx} {C : Wc}
theorem c_sum (hK : X.K = C.K) (hc : X.calm = true) : CallR X (.builtin "sum") (rA C.G sumF) := by
  intro pins s σ H vs us Q I rv ⟨ρ, st, xs, S, hx, r, st', e, k⟩
  unfold sumF at e
  split at e
  · split at e
    · rename_i ys en
      split at e
      · rename_i bs eb
        cases e
        obtain ⟨v, rfl, h1⟩ := hx.one
        rw [VR.ref_iff] at h1
        obtain ⟨a, rfl, ha⟩ := h1
        obtain ⟨b, ws, h1, h2, h3⟩ := getL_sql S en
        rw [ha] at h1; cases h1
        exact cr_sum hc pins s σ H _ us Q I rv ⟨a, bs, rfl, by rw [← h3.intsE eb]; exact hK ▸ h2, k ρ H _ Up.refl S (VR.int_iff.mpr rfl)⟩
      · cases e
    · cases e
  · cases e
theorem c_maxL (hK : X.K = C.K) (hc : X.calm = true) : CallR X (.builtin "max") (rA C.G maxLF) := by
  intro pins s σ H vs us Q I rv ⟨ρ, st, xs, S, hx, r, st', e, k⟩
  unfold maxLF at e
  split at e
  · split at e
    · rename_i ys en
      split at e
      · rename_i b bs eb
        cases e
        obtain ⟨v, rfl, h1⟩ := hx.one
        rw [VR.ref_iff] at h1
        obtain ⟨a, rfl, ha⟩ := h1
        obtain ⟨q, ws, h1, h2, h3⟩ := getL_sql S en
        rw [ha] at h1; cases h1
        refine cr_max hc pins s σ H _ us Q I rv ⟨a, b :: bs, rfl, by rw [← h3.intsE eb]; exact hK ▸ h2, Nat.zero_lt_succ _, fun m hm hle => ?_⟩
        have t := mxL_top bs b
        have e1 : m = mxL b bs := by
          refine Int.le_antisymm ?_ (hle _ ?_)
          · rcases List.mem_cons.mp hm with rfl | hm
            · exact t.1
            · exact t.2.1 m hm
          · rcases t.2.2 with e | e
            · rw [e]; exact List.mem_cons_self
            · exact List.mem_cons_of_mem _ e
        exact k ρ H _ Up.refl S (VR.int_iff.mpr (by rw [e1]))
      · cases e
    · cases e
  · cases e
theorem c_minL (hK : X.K = C.K) (hc : X.calm = true) : CallR X (.builtin "min") (rA C.G minLF) := by
  intro pins s σ H vs us Q I rv ⟨ρ, st, xs, S, hx, r, st', e, k⟩
  unfold minLF at e
  split at e
  · split at e
    · rename_i ys en
      split at e
      · rename_i b bs eb
        cases e
        obtain ⟨v, rfl, h1⟩ := hx.one
        rw [VR.ref_iff] at h1
        obtain ⟨a, rfl, ha⟩ := h1
        obtain ⟨q, ws, h1, h2, h3⟩ := getL_sql S en
        rw [ha] at h1; cases h1
        refine cr_min hc pins s σ H _ us Q I rv ⟨a, b :: bs, rfl, by rw [← h3.intsE eb]; exact hK ▸ h2, Nat.zero_lt_succ _, fun m hm hle => ?_⟩
        have t := mnL_top bs b
        have e1 : m = mnL b bs := by
          refine Int.le_antisymm (hle _ ?_) ?_
          · rcases t.2.2 with e | e
            · rw [e]; exact List.mem_cons_self
            · exact List.mem_cons_of_mem _ e
          · rcases List.mem_cons.mp hm with rfl | hm
            · exact t.1
            · exact t.2.1 m hm
        exact k ρ H _ Up.refl S (VR.int_iff.mpr (by rw [e1]))
      · cases e
    · cases e
  · cases e
end
variable {st : Store}
@[simp] theorem sum_ap {n : Nat} : sumF [.ref n] st = match getL st n with
    | some ys => match intsOf ys with
      | some bs => .ok (.int bs.sum) st
      | none => .no
    | none => .no := rfl
@[simp] theorem maxL_ap {n : Nat} : maxLF [.ref n] st = match getL st n with
    | some ys => match intsOf ys with
      | some (b :: bs) => .ok (.int (mxL b bs)) st
      | _ => .no
    | none => .no := rfl
@[simp] theorem minL_ap {n : Nat} : minLF [.ref n] st = match getL st n with
    | some ys => match intsOf ys with
      | some (b :: bs) => .ok (.int (mnL b bs)) st
      | _ => .no
    | none => .no := rfl
end Sm

namespace SmE
open PySem PySem.Spec PyProof.Rows L2
theorem str_eq_declines_dict (b : Str) (u : Tok) (l : Addr) (c : Value) (es : Array DictEntry) (n : Nat) (dd : Option Addr) (sl : Array (Option Value)) :
    PySem.Meets (Builtin.«str.__eq__» { pos := [Value.str b u, Value.ref l] }) fun x R s => s.heap.get? l = some { cls := c, dict := dd, data := Data.dict es n, slots := sl } ∧ R (Except.ok (Flow.ret Value.notImplemented)) s := by
  refine Meets.of_wp fun prog w A R s h => ?_
  obtain ⟨hp, g, d, tk, os⟩ := s
  obtain ⟨hl, h⟩ := h
  refine wpAny_bind (wpAny_bind ?_)
  unfold slotArgs
  refine wpAny_ite_false rfl (wpAny_ite_false rfl (wpAny_pure ?_))
  refine wpAny_bind (wpAny_pure (wpAny_pure ?_))
  refine wpAny_bind ?_
  unfold asStr?
  refine wpAny_bind (wpAny_load hl (wpAny_pure ?_))
  refine wpAny_bind (wpAny_rule (wpAny_pure ?_))
  exact Exists.intro Value.notImplemented ⟨rfl, h⟩
theorem dict_eq_declines_str (l : Addr) (es : Array DictEntry) (n : Nat) (dd : Option Addr) (sl : Array (Option Value)) (b : Str) (u : Tok) :
    PySem.Meets (Builtin.«dict.__eq__» { pos := [Value.ref l, Value.str b u] }) fun x R s => s.heap.get? l = some { cls := Value.type "dict", dict := dd, data := Data.dict es n, slots := sl } ∧ R (Except.ok (Flow.ret Value.notImplemented)) s := by
  refine Meets.of_wp fun prog w A R s h => ?_
  obtain ⟨hp, g, d, tk, os⟩ := s
  obtain ⟨hl, h⟩ := h
  have f1 := F.sub_str_dict
  refine wpAny_bind ?_
  unfold Builtin.Dict.dictSlotArgs
  refine wpAny_bind (wpAny_pure (wpAny_bind ?_))
  unfold slotArgs
  refine wpAny_ite_false rfl (wpAny_ite_false rfl (wpAny_pure (wpAny_pure ?_)))
  refine wpAny_bind (wpAny_bind (wpAny_pure (wpAny_of_eq f1 ?_)))
  refine wpAny_ite_true rfl (wpAny_bind (wpAny_rule (wpAny_pure ?_)))
  exact Exists.intro Value.notImplemented ⟨rfl, h⟩
section
variable {A : Around} {s : Shared} {l : Addr} {es : Array DictEntry} {n : Nat} {dd : Option Addr} {sl : Array (Option Value)}
theorem rc_str_dict (b : Str) (u : Tok) (ho : s.heap.get? l = some { cls := Value.type "dict", dict := dd, data := Data.dict es n, slots := sl }) (hu : A.units < cLine) : SeqAt.RcAt A s (Value.str b u) (Value.ref l) false := fun prog w E Q h =>
  SeqAt.rc_eq_decline_or (typeIs_str s b u) ⟨_, ho, rfl⟩ (of_decide_eq_true rfl) F.sub_dict_str F.slot_str_eq F.slot_dict_eq_refl
    (fun x hq => call_meets F.slot_str_eq (typeIs_str s b u) F.entry_str_eq (F.args_str_eq_2 _ _) (str_eq_declines_dict b u l _ es n dd sl) ⟨ho, hq⟩)
    (fun x hq => call_meets F.slot_dict_eq_refl ⟨_, ho, rfl⟩ F.entry_dict_eq (F.args_dict_eq_2 _ _) (dict_eq_declines_str l es n dd sl b u) ⟨ho, hq⟩)
    (fun x hq => wpAny_of_eq rfl hq) (.inr hu) h
theorem rc_dict_str (b : Str) (u : Tok) (ho : s.heap.get? l = some { cls := Value.type "dict", dict := dd, data := Data.dict es n, slots := sl }) (hu : A.units < cLine) : SeqAt.RcAt A s (Value.ref l) (Value.str b u) false := fun prog w E Q h =>
  SeqAt.rc_eq_decline_or ⟨_, ho, rfl⟩ (typeIs_str s b u) (of_decide_eq_true rfl) F.sub_str_dict F.slot_dict_eq F.slot_str_eq_refl
    (fun x hq => call_meets F.slot_dict_eq ⟨_, ho, rfl⟩ F.entry_dict_eq (F.args_dict_eq_2 _ _) (dict_eq_declines_str l es n dd sl b u) ⟨ho, hq⟩)
    (fun x hq => call_meets F.slot_str_eq (typeIs_str s b u) F.entry_str_eq (F.args_str_eq_2 _ _) (str_eq_declines_dict b u l _ es n dd sl) ⟨ho, hq⟩)
    (fun x hq => wpAny_of_eq rfl hq) (.inr hu) h
theorem eq_str_dict (b : Str) (u : Tok) (ho : s.heap.get? l = some { cls := Value.type "dict", dict := dd, data := Data.dict es n, slots := sl }) (hu : A.units < cLine) : SeqAt.EqAt A s (Value.str b u) (Value.ref l) false := fun prog w E Q h =>
  wpAny_holding (wpAny_ite_split (fun hab => absurd (eq_of_beq hab) fun a => nomatch a) fun _ =>
    wpAny_bind (rc_str_dict b u ho hu prog w E (fun a s' => wpAny (model prog w) A (truthOfDropped a) Q E s') (wpAny_truthy_bool h)))
end
end SmE

namespace Sm
open PySem PySem.Spec PyProof.Rows L2
/-! ### boxes: tuples, lists, dicts; none of them is a text -/
def boxP (x : PV) (st : Store) : Bool := match x with
  | .tup _ => true
  | .ref n => match st[n]? with
    | some (.err _ _) => false
    | some (.ins _ _) => false
    | some (.clo _ _) => false
    | some (.gdef _) => false
    | some _ => true
    | none => false
  | _ => false
def isStrP : PV → Bool
  | .str _ => true
  | _ => false
def Box (s : Shared) (a : Addr) : Prop := (∃ items, s.heap.IsTuple a items) ∨ (∃ items, s.heap.IsList a items) ∨ ∃ es n dd sl, s.heap.get? a = some { cls := Value.type "dict", dict := dd, data := Data.dict es n, slots := sl }
section
variable {X : Cx} {K : PySem.W.Frag} {G : Gc} {pins : List (Addr × Obj)} {σ : L2.St} {H : Hp} {s : Shared} {ρ : List Addr} {st : Store}
theorem box_obj (hK : X.K = G.K) (I : L2.Inv X pins σ H s) (S : SR G ρ H st) {x : PV} {v : V} {u : Value} (hx : VR G.K ρ H x v) (rx : L2.RelV v u) (hb : boxP x st = true) : ∃ a, u = .ref a ∧ Box s a := by
  cases x with
  | tup xs =>
    rw [VR.tup_iff] at hx
    obtain ⟨a, vs, rfl, h1, _⟩ := hx
    cases rx
    rw [← hK] at h1
    obtain ⟨its, _, p, _⟩ := I.tuple h1
    exact ⟨a, rfl, .inl ⟨_, p⟩⟩
  | ref n =>
    rw [VR.ref_iff] at hx
    obtain ⟨a, rfl, ha⟩ := hx
    cases rx
    unfold boxP at hb
    dsimp only at hb
    cases e : st[n]? with
    | none => rw [e] at hb; cases hb
    | some c =>
      have cr := S.cel n c a e ha
      cases c with
      | lst xs =>
        obtain ⟨b, vs, h1, h2, _⟩ := getL_sql (n := n) (xs := xs) S (by unfold getL; rw [e])
        rw [ha] at h1; cases h1
        rw [← hK] at h2
        obtain ⟨its, _, p, _⟩ := I.list h2
        exact ⟨a, rfl, .inr (.inl ⟨_, p.isList⟩)⟩
      | rol xs =>
        obtain ⟨b, vs, h1, h2, _⟩ := getL_sql (n := n) (xs := xs) S (by unfold getL; rw [e])
        rw [ha] at h1; cases h1
        rw [← hK] at h2
        obtain ⟨its, _, p, _⟩ := I.list h2
        exact ⟨a, rfl, .inr (.inl ⟨_, p.isList⟩)⟩
      | dk kvs =>
        obtain ⟨vs, h1, _⟩ := cr
        have ok := I.hok a _ h1
        unfold ObjOk at ok
        obtain ⟨_, _, ws, _, o, es, ep, ho, hc, hd, _⟩ := ok
        obtain ⟨c1, c2, c3⟩ := hc
        obtain ⟨oc, od, oda, os⟩ := o
        cases c1; cases hd
        exact ⟨a, rfl, .inr (.inr ⟨es, ep, od, os, ho⟩)⟩
      | dn kvs =>
        obtain ⟨nks, bs, vs, h1, _⟩ := cr
        have ok := I.hok a _ h1
        unfold ObjOk dnO at ok
        obtain ⟨⟨o, es, ep, us, ho, hc, hd, _⟩, _⟩ := ok
        obtain ⟨c1, c2, c3⟩ := hc
        obtain ⟨oc, od, oda, os⟩ := o
        cases c1; cases hd
        exact ⟨a, rfl, .inr (.inr ⟨es, ep, od, os, ho⟩)⟩
      | lk kvs =>
        obtain ⟨oo, nks, bs, vs, h1, _⟩ := cr
        have ok := I.hok a _ h1
        unfold ObjOk at ok
        replace ok := ok.2
        unfold ObjOk dnO at ok
        obtain ⟨⟨o, es, ep, us, ho, hc, hd, _⟩, _⟩ := ok
        obtain ⟨c1, c2, c3⟩ := hc
        obtain ⟨oc, od, oda, os⟩ := o
        cases c1; cases hd
        exact ⟨a, rfl, .inr (.inr ⟨es, ep, od, os, ho⟩)⟩
      | err c fs => rw [e] at hb; cases hb
      | ins c fs => rw [e] at hb; cases hb
      | clo c fs => rw [e] at hb; cases hb
      | gdef c => rw [e] at hb; cases hb
  | _ => cases hb
theorem Box.rc_str {A : Around} {a : Addr} (B : Box s a) (b : Str) (u : Tok) (hu : A.units < cLine) : SeqAt.RcAt A s (.ref a) (.str b u) false := by
  rcases B with ⟨items, h⟩ | ⟨items, h⟩ | ⟨es, n, dd, sl, h⟩
  · exact SeqAt.RcAt.tuple_str b u h hu
  · exact SeqAt.RcAt.list_str b u h hu
  · exact SmE.rc_dict_str b u h hu
theorem Box.eq_str {A : Around} {a : Addr} (B : Box s a) (b : Str) (u : Tok) (hu : A.units < cLine) : SeqAt.EqAt A s (.str b u) (.ref a) false := by
  rcases B with ⟨items, h⟩ | ⟨items, h⟩ | ⟨es, n, dd, sl, h⟩
  · exact SeqAt.EqAt.str_tuple b u h hu
  · exact SeqAt.EqAt.str_list b u h hu
  · exact SmE.eq_str_dict b u h hu
theorem Vals.strs {ρ : List Addr} {H : Hp} : ∀ {xs : List PV} {vs : List V} {its : List Value}, VRs K ρ H xs vs → xs.all isStrP = true → L2.Vals vs its → ∀ y ∈ its, ∃ b u, y = Value.str b u
  | [], vs, its, r, _, w, y, hy => by
    rw [VRs.nil_iff] at r; subst r
    cases w; cases hy
  | x :: xs, vs, its, r, h, w, y, hy => by
    rw [VRs.cons_iff] at r
    obtain ⟨v, ws, rfl, h1, h2⟩ := r
    rw [List.all_cons, Bool.and_eq_true] at h
    cases w with
    | cons p q =>
      rcases List.mem_cons.mp hy with rfl | hy
      · cases x with
        | str z =>
          rw [VR.str_iff] at h1; subst h1
          obtain ⟨t, rfl⟩ := p
          exact ⟨_, _, rfl⟩
        | _ => cases h.1
      · exact Vals.strs h2 h.2 q y hy
end
def eqT : M2 := fun x y st => match y with
  | .str b => if boxP x st = true then .ok (.bl false) st else eqF false x y st
  | .tup [] => match x with
    | .tup xs => .ok (.bl xs.isEmpty) st
    | _ => eqF false x y st
  | .ref m => match x with
    | .ref n => match getL st n, getL st m with
      | some xs, some ys => if xs.length = ys.length then eqF false x y st else .ok (.bl false) st
      | _, _ => eqF false x y st
    | _ => eqF false x y st
  | _ => eqF false x y st
def inT : M2 := fun x y st => match y with
  | .tup ys => if boxP x st = true ∧ ys.all isStrP = true then .ok (.bl false) st else inF false x y st
  | _ => inF false x y st
theorem calm_eqT : Calm2 eqT := fun x y st c fs st' e => by
  unfold eqT at e
  split at e
  · split at e
    · cases e
    · exact calm_eq _ _ _ _ _ _ e
  · split at e
    · cases e
    · exact calm_eq _ _ _ _ _ _ e
  · split at e
    · split at e
      · split at e
        · exact calm_eq _ _ _ _ _ _ e
        · cases e
      · exact calm_eq _ _ _ _ _ _ e
    · exact calm_eq _ _ _ _ _ _ e
  · exact calm_eq _ _ _ _ _ _ e
theorem calm_inT : Calm2 inT := fun x y st c fs st' e => by
  unfold inT at e
  split at e
  · split at e
    · cases e
    · exact calm_in _ _ _ _ _ _ e
  · exact calm_in _ _ _ _ _ _ e
section
variable {X : Cx} {K : PySem.W.Frag} {G : Gc}
theorem op_eqT (hK : X.K = G.K) (hu : X.A.units + 64 < cLine) : OpR X (compareOp .Eq) (rS G eqT) := by
  obtain ⟨GK, Gcl, GP, Gw⟩ := G; dsimp only at hK; subst hK
  intro pins s σ H x y v u Q I rx ry ⟨ρ, st, xh, yh, S, hx, hy, r, st', e, k⟩
  have old : eqF false xh yh st = .ok r st' → _ := fun e => op_eqS rfl hu pins s σ H x y v u Q I rx ry ⟨ρ, st, xh, yh, S, hx, hy, r, st', e, k⟩
  have fin : ∀ b : Bool, r = .bl b → st' = st → EP X pins σ Q (.bool b) s := fun b e1 e2 => ⟨.bl b, H, I, rfl, by subst e1 e2; exact k ρ H _ Up.refl S (VR.bl_iff.mpr rfl)⟩
  unfold eqT at e
  split at e
  · rename_i b
    split at e
    · rename_i hb
      cases e
      rw [VR.str_iff] at hy; subst hy
      obtain ⟨t, rfl⟩ := ry
      obtain ⟨a, rfl, B⟩ := box_obj rfl I S hx rx hb
      exact B.rc_str b t (by omega) _ _ _ _ (fin _ rfl rfl)
    · exact old e
  · split at e
    · rename_i xs
      cases e
      rw [VR.tup_iff] at hx hy
      obtain ⟨a, vs, rfl, h1, h2⟩ := hx
      obtain ⟨b, ws, rfl, h3, h4⟩ := hy
      rw [VRs.nil_iff] at h4; subst h4
      cases rx; cases ry
      obtain ⟨its, w1, p1, _⟩ := I.tuple h1
      obtain ⟨jts, w2, p2, _⟩ := I.tuple h3
      cases w2
      refine SeqAt.eq_tupleAt (e := fun _ => true) p1 p2 (by omega) (fun j h1 h2 => absurd h2 (by simp)) ?_
      have l1 : its.length = vs.length := (Vals.length w1).symm
      have l2 := h2.length
      have e1 : ((List.range (min its.toArray.size (#[] : Array Value).size)).all (fun _ => true) && its.toArray.size == (#[] : Array Value).size) = xs.isEmpty := by
        cases xs with
        | nil => have : its = [] := List.eq_nil_of_length_eq_zero (by rw [l1, l2]; rfl); subst this; rfl
        | cons z zs =>
          have : its.length ≠ 0 := by rw [l1, l2]; simp
          simp [this]
      rw [e1]
      exact fin _ rfl rfl
    · exact old e
  · split at e
    · split at e
      · rename_i m n xs ys en em
        split at e
        · exact old e
        · rename_i hne
          cases e
          rw [VR.ref_iff] at hx hy
          obtain ⟨a, rfl, ha⟩ := hx
          obtain ⟨b, rfl, hb⟩ := hy
          cases rx; cases ry
          obtain ⟨a', vs, h1, h2, h3⟩ := getL_sql S en
          obtain ⟨b', ws, h4, h5, h6⟩ := getL_sql S em
          rw [ha] at h1; cases h1
          rw [hb] at h4; cases h4
          obtain ⟨its, w1, p1, _⟩ := I.list h2
          obtain ⟨jts, w2, p2, _⟩ := I.list h5
          refine SeqAt.eq_list_lengthsAt p1.isList p2.isList ?_ (by omega) (fin _ rfl rfl)
          have l1 : its.length = vs.length := (Vals.length w1).symm
          have l2 := h3.length
          have l3 : jts.length = ws.length := (Vals.length w2).symm
          have l4 := h6.length
          simp
          omega
      · exact old e
    · exact old e
  · exact old e
theorem op_inT (hK : X.K = G.K) (hu : X.A.units + 65 < cLine) : OpR X (compareOp .In) (rS G inT) := by
  obtain ⟨GK, Gcl, GP, Gw⟩ := G; dsimp only at hK; subst hK
  intro pins s σ H x y v u Q I rx ry ⟨ρ, st, xh, yh, S, hx, hy, r, st', e, k⟩
  have old : inF false xh yh st = .ok r st' → _ := fun e => op_inS rfl hu pins s σ H x y v u Q I rx ry ⟨ρ, st, xh, yh, S, hx, hy, r, st', e, k⟩
  unfold inT at e
  split at e
  · rename_i ys
    split at e
    · rename_i hb
      cases e
      obtain ⟨a, rfl, B⟩ := box_obj rfl I S hx rx hb.1
      rw [VR.tup_iff] at hy
      obtain ⟨b, ws, rfl, h3, h4⟩ := hy
      cases ry
      obtain ⟨jts, w2, p2, _⟩ := I.tuple h3
      have st' := Vals.strs h4 hb.2 w2
      refine SeqAt.in_tupleAt (fun _ => false) p2 (fun y hy => ?_) ?_
      · obtain ⟨z, t, rfl⟩ := st' y (by simpa using hy)
        exact B.eq_str z t (show X.A.units + 1 < cLine by omega)
      · have e1 : (jts.toArray.any fun _ => false) = false := by simp
        rw [e1]
        exact ⟨.bl false, H, I, rfl, k ρ H _ Up.refl S (VR.bl_iff.mpr rfl)⟩
    · exact old e
  · exact old e
end
end Sm

namespace Sm
open PySem PySem.Spec PyProof.Rows L2
/-! ### repr of data with dicts in it -/
mutual
inductive RX (h : Heap) : Value → PyData → Prop
  | none : RX h .none .none
  | bool (b : Bool) : RX h (.bool b) (.bool b)
  | int (i : Int) (t : Tok) : RX h (.int i t) (.int i)
  | str (x : Str) (t : Tok) : RX h (.str x t) (.str x)
  | list {a : Addr} {its : List Value} {ds : List PyData} : h.IsList a its.toArray → RXs h its ds → RX h (.ref a) (.list ds)
  | tuple {a : Addr} {its : List Value} {ds : List PyData} : h.IsTuple a its.toArray → RXs h its ds → RX h (.ref a) (.tuple ds)
  | dict {a : Addr} {o : Obj} {es : Array DictEntry} {n : Nat} {kvs : List (PyData × PyData)} : h.get? a = some o → o.cls = .type "dict" → o.data = .dict es n → (a == sysModules) = false → RXe h es.toList kvs → RX h (.ref a) (.dict kvs)
inductive RXs (h : Heap) : List Value → List PyData → Prop
  | nil : RXs h [] []
  | cons {v : Value} {d : PyData} {vs : List Value} {ds : List PyData} : RX h v d → RXs h vs ds → RXs h (v :: vs) (d :: ds)
inductive RXe (h : Heap) : List DictEntry → List (PyData × PyData) → Prop
  | nil : RXe h [] []
  | cons {e : DictEntry} {k v : PyData} {es : List DictEntry} {kvs : List (PyData × PyData)} : RX h e.key k → RX h e.val v → RXe h es kvs → RXe h (e :: es) ((k, v) :: kvs)
end
section
variable {h : Heap}
mutual
theorem RX.reads : ∀ {v : Value} {d : PyData}, RX h v d → ∃ as, Reads h v d as
  | _, _, .none => ⟨_, .none⟩
  | _, _, .bool b => ⟨_, .bool b⟩
  | _, _, .int i t => ⟨_, .int i t⟩
  | _, _, .str x t => ⟨_, .str x t⟩
  | _, _, .list ⟨o, ho, hc, n, hd⟩ hs => by
    obtain ⟨as, q⟩ := hs.reads
    exact ⟨_, .list ho hc hd q⟩
  | _, _, .tuple ⟨o, ho, hc, n, hd⟩ hs => by
    obtain ⟨as, q⟩ := hs.reads
    exact ⟨_, .tuple ho hc hd q⟩
  | _, _, .dict ho hc hd _ he => by
    obtain ⟨as, bs, q, r⟩ := he.reads
    exact ⟨_, .dict ho hc hd q r⟩
theorem RXs.reads : ∀ {vs : List Value} {ds : List PyData}, RXs h vs ds → ∃ as, ReadsAll h vs ds as
  | _, _, .nil => ⟨_, .nil⟩
  | _, _, .cons a b => by
    obtain ⟨as, q⟩ := a.reads
    obtain ⟨bs, r⟩ := b.reads
    exact ⟨_, .cons q r⟩
theorem RXe.reads : ∀ {es : List DictEntry} {kvs : List (PyData × PyData)}, RXe h es kvs → ∃ as bs, ReadsAll h (es.map (·.key)) (kvs.map (·.1)) as ∧ ReadsAll h (es.map (·.val)) (kvs.map (·.2)) bs
  | _, _, .nil => ⟨_, _, .nil, .nil⟩
  | _, _, .cons a b c => by
    obtain ⟨as, q⟩ := a.reads
    obtain ⟨bs, r⟩ := b.reads
    obtain ⟨cs, ds, s, t⟩ := c.reads
    exact ⟨_, _, .cons q s, .cons r t⟩
end
section
variable {prog : Program} {w : World}
theorem allK_more {as as' : List Addr} {d d' : Nat} (hs : ∀ b, b ∈ as → b ∈ as') (hd : d ≤ d') : ∀ {l : List Value} {ts : List Str}, ReprAllK prog w as h d l ts → ReprAllK prog w as' h d' l ts
  | _, _, .nil => .nil
  | _, _, .cons a b => .cons ((a.more hs).level_le hd) (allK_more hs hd b)
theorem entK_more {as as' : List Addr} {d d' : Nat} (hs : ∀ b, b ∈ as → b ∈ as') (hd : d ≤ d') : ∀ {l : List DictEntry} {ts : List Str}, ReprEntriesK prog w as h d l ts → ReprEntriesK prog w as' h d' l ts
  | _, _, .nil => .nil
  | _, _, .cons a b c => .cons ((a.more hs).level_le hd) ((b.more hs).level_le hd) (entK_more hs hd c)
theorem leafK {v : Value} {d : PyData} (r : Reads h v d []) (hd : d.depth = 0) (hs : d.showable = true) : ReprK prog w [] h 0 v d.shown := fun base hb A g E s Q hg hc hu hk hq => by
  obtain ⟨bs, hbs, R⟩ := ReprK.of_reads (prog := prog) (w := w) r hs (fun _ z => nomatch z) (by omega)
  rw [hd] at hbs R
  refine R base hb A g E s Q hg (fun b m => ?_) hu hk hq
  obtain ⟨d', as, r', l⟩ := hbs b m
  cases r' with
  | list _ _ _ _ => exact absurd l (by simp [PyData.depth])
  | tuple _ _ _ _ => exact absurd l (by simp [PyData.depth])
  | dict _ _ _ _ _ => exact absurd l (by simp [PyData.depth])
theorem noneAt {n : Nat} : ReadAtMost h n [] := fun _ z => nomatch z
theorem allK_len {as : List Addr} {d : Nat} : ∀ {l : List Value} {ts : List Str}, ReprAllK prog w as h d l ts → ts.length = l.length
  | _, _, .nil => rfl
  | _, _, .cons _ b => by rw [List.length_cons, List.length_cons, allK_len b]
mutual
theorem RX.rk : ∀ {v : Value} {d : PyData}, RX h v d → d.showable = true → ∃ bs, ReadAtMost h d.depth bs ∧ ReprK prog w bs h d.depth v d.shown
  | _, _, .none, hs => ⟨[], noneAt, leafK .none rfl hs⟩
  | _, _, .bool b, hs => ⟨[], noneAt, leafK (.bool b) rfl hs⟩
  | _, _, .int i t, hs => ⟨[], noneAt, leafK (.int i t) rfl hs⟩
  | _, _, .str x t, hs => ⟨[], noneAt, leafK (.str x t) rfl hs⟩
  | _, _, .list (a := a) (its := its) (ds := ds) ⟨o, ho, hc, n, hd⟩ hx, hs => by
    obtain ⟨as, q⟩ := hx.reads
    obtain ⟨bs, hbs, R⟩ := hx.rk hs
    have rd : Reads h (.ref a) (.list ds) (a :: as) := .list ho hc hd q
    cases its with
    | nil =>
      cases hx
      exact ⟨[], noneAt, (ReprK.listEmpty ho hc hd).level_le (Nat.zero_le _)⟩
    | cons x l =>
      refine ⟨a :: bs, ReadAtMost.cons rd (Nat.le_succ _) hbs, ?_⟩
      exact ReprK.list ho hc hd (not_mem_of_deeper rd (Nat.lt_succ_self _) hbs) (allK_len R) (fun i y hy => R.item i y (by simpa using hy))
  | _, _, .tuple (a := a) (its := its) (ds := ds) ⟨o, ho, hc, n, hd⟩ hx, hs => by
    obtain ⟨as, q⟩ := hx.reads
    obtain ⟨bs, hbs, R⟩ := hx.rk hs
    have rd : Reads h (.ref a) (.tuple ds) as := .tuple ho hc hd q
    exact ⟨a :: bs, ReadAtMost.cons rd (Nat.le_succ _) hbs, ReprK.tuple ho hc hd (not_mem_of_deeper rd (Nat.lt_succ_self _) hbs) R⟩
  | _, _, .dict (a := a) (kvs := kvs) ho hc hd hm hx, hs => by
    obtain ⟨as, cs, q, q2⟩ := hx.reads
    obtain ⟨bs, hbs, R⟩ := hx.rk hs
    have rd : Reads h (.ref a) (.dict kvs) (a :: as ++ cs) := .dict ho hc hd q q2
    exact ⟨a :: bs, ReadAtMost.cons rd (Nat.le_succ _) hbs, ReprK.dict ho hc hd hm (not_mem_of_deeper rd (Nat.lt_succ_self _) hbs) R⟩
theorem RXs.rk : ∀ {vs : List Value} {ds : List PyData}, RXs h vs ds → PyData.showableAll ds = true → ∃ bs, ReadAtMost h (PyData.depthAll ds) bs ∧ ReprAllK prog w bs h (PyData.depthAll ds) vs (PyData.shownAll ds)
  | _, _, .nil, _ => ⟨[], noneAt, .nil⟩
  | _, _, .cons (d := d) (ds := ds) a b, hs => by
    have hs' : d.showable = true ∧ PyData.showableAll ds = true := by simpa [PyData.showableAll] using hs
    obtain ⟨as, q, r⟩ := a.rk hs'.1
    obtain ⟨bs, q2, r2⟩ := b.rk hs'.2
    have l1 : d.depth ≤ PyData.depthAll (d :: ds) := Nat.le_max_left _ _
    have l2 : PyData.depthAll ds ≤ PyData.depthAll (d :: ds) := Nat.le_max_right _ _
    exact ⟨as ++ bs, (q.mono l1).append (q2.mono l2), .cons ((r.more fun b z => List.mem_append_left _ z).level_le l1) (allK_more (fun b z => List.mem_append_right _ z) l2 r2)⟩
theorem RXe.rk : ∀ {es : List DictEntry} {kvs : List (PyData × PyData)}, RXe h es kvs → PyData.showableKv kvs = true → ∃ bs, ReadAtMost h (PyData.depthKv kvs) bs ∧ ReprEntriesK prog w bs h (PyData.depthKv kvs) es (PyData.shownKv kvs)
  | _, _, .nil, _ => ⟨[], noneAt, .nil⟩
  | _, _, .cons (k := k) (v := v) (kvs := kvs) a b c, hs => by
    have hs' : (k.showable = true ∧ v.showable = true) ∧ PyData.showableKv kvs = true := by simpa [PyData.showableKv] using hs
    obtain ⟨as, q, r⟩ := a.rk hs'.1.1
    obtain ⟨bs, q2, r2⟩ := b.rk hs'.1.2
    obtain ⟨cs, q3, r3⟩ := c.rk hs'.2
    have l3 : PyData.depthKv kvs ≤ PyData.depthKv ((k, v) :: kvs) := Nat.le_max_right _ _
    have l1 : k.depth ≤ PyData.depthKv ((k, v) :: kvs) := Nat.le_trans (Nat.le_max_left _ _) (Nat.le_max_left _ _)
    have l2 : v.depth ≤ PyData.depthKv ((k, v) :: kvs) := Nat.le_trans (Nat.le_max_right _ _) (Nat.le_max_left _ _)
    exact ⟨as ++ (bs ++ cs), (q.mono l1).append ((q2.mono l2).append (q3.mono l3)), .cons ((r.more fun b z => List.mem_append_left _ z).level_le l1) ((r2.more fun b z => List.mem_append_right _ (List.mem_append_left _ z)).level_le l2) (entK_more (fun b z => List.mem_append_right _ (List.mem_append_right _ z)) l3 r3)⟩
end
end
end
section
variable {X : Cx} {C : Wc}
theorem call_repr_RX {prog : Program} {w : World} {h : Heap} {a : Addr} {d : PyData} {A : Around} {E : Value → Shared → Prop} {s : Shared} {Q : Value → Shared → Prop} (r : RX h (.ref a) d) (hs : d.showable = true) (hg : A.guards = some []) (hu : A.units + (d.depth + 1) < cLine)
    (hk : ∀ (b : Addr) (o : Obj), h.get? b = some o → s.heap.get? b = some o)
    (hQ : ∀ (h' : Heap) (u : Tok) (tk : Nat), (∀ (b : Addr) (o : Obj), s.heap.get? b = some o → h'.get? b = some o) → Q (.str d.shown u) { heap := h', gens := s.gens, drawn := s.drawn, toks := tk, os := s.os })
    (hl : d.shown.length ≤ sizeLine) : wpAny (model prog w) A (call (.builtin "repr") [.ref a]) Q E s := by
  have u1 : A.units + 1 < cLine := by
    have : 1 ≤ d.depth + 1 := Nat.le_add_left _ _
    omega
  have g1 : A.in1.guards = some [] := hg
  have u2 : ∀ n, n + 1 = d.depth → A.in1.units + (n + 1) < cLine := fun n e => by show A.units + 1 + (n + 1) < cLine; omega
  have cl : ∀ {bs : List Addr}, ∀ b, b ∈ bs → Clear [] b := fun b _ id v rest kw z => nomatch z
  cases r with
  | list ih hx =>
    rename_i its ds
    obtain ⟨o, ho, hc, n, hd⟩ := ih
    obtain ⟨as, q⟩ := hx.reads
    have rd : Reads h (.ref a) (.list ds) (a :: as) := .list ho hc hd q
    cases its with
    | nil =>
      cases hx
      exact repr_of_reads' rd hs (fun z => nomatch z) hg hu hk hQ hl
    | cons x l =>
      obtain ⟨bs, hbs, R⟩ := hx.rk (prog := prog) (w := w) hs
      exact call_repr_slot u1 ⟨o, hk _ _ ho, hc⟩ F.slot_list_repr.toG (call_list_reprK ho hc hd (not_mem_of_deeper rd (Nat.lt_succ_self _) hbs) (allK_len R) (fun i y hy => R.item i y (by simpa using hy)) g1 cl (u2 _ rfl) hk (fun h' u tk hk' => ⟨_, u, rfl, hQ h' u tk hk'⟩) hl)
  | tuple ih hx =>
    rename_i its ds
    obtain ⟨o, ho, hc, n, hd⟩ := ih
    obtain ⟨as, q⟩ := hx.reads
    have rd : Reads h (.ref a) (.tuple ds) as := .tuple ho hc hd q
    obtain ⟨bs, hbs, R⟩ := hx.rk (prog := prog) (w := w) hs
    exact call_repr_slot u1 ⟨o, hk _ _ ho, hc⟩ F.slot_tuple_repr (call_tuple_reprK ho hc hd (not_mem_of_deeper rd (Nat.lt_succ_self _) hbs) R g1 cl (u2 _ rfl) hk (fun h' u tk hk' => ⟨_, u, rfl, hQ h' u tk hk'⟩) hl)
  | dict ho hc hd hm hx =>
    rename_i o es n kvs
    obtain ⟨as, cs, q, q2⟩ := hx.reads
    have rd : Reads h (.ref a) (.dict kvs) (a :: as ++ cs) := .dict ho hc hd q q2
    obtain ⟨bs, hbs, R⟩ := hx.rk (prog := prog) (w := w) hs
    exact call_repr_slot u1 ⟨o, hk _ _ ho, hc⟩ F.slot_dict_repr (call_dict_reprK ho hc hd hm (not_mem_of_deeper rd (Nat.lt_succ_self _) hbs) R g1 cl (u2 _ rfl) hk (fun h' u tk hk' => ⟨_, u, rfl, hQ h' u tk hk'⟩) hl)
end
/-! ### from the store -/
def keyD : Key → PyData
  | .inl i => .int i
  | .inr x => .str x
def refX : Nat → Store → Nat → Option PyData
  | 0, _, _ => none
  | n + 1, st, k => match getL st k with
    | some xs => (toDsw (refX n st) xs).map .list
    | none => match getK st k with
      | some kvs => (toDsw (refX n st) (kvs.map (·.2))).map fun ds => .dict ((kvs.map fun p => keyD p.1).zip ds)
      | none => none
def toX (st : Store) (x : PV) : Option PyData := toDw (refX 4 st) x
def RXv (h : Heap) : List V → List PyData → Prop
  | [], [] => True
  | v :: vs, d :: ds => (∀ u, L2.RelV v u → RX h u d) ∧ RXv h vs ds
  | _, _ => False
theorem RXv.all {h : Heap} : ∀ {vs : List V} {ds : List PyData} {its : List Value}, RXv h vs ds → Vals vs its → RXs h its ds
  | [], [], _, _, .nil => .nil
  | [], _ :: _, _, r, _ => r.elim
  | _ :: _, [], _, r, _ => r.elim
  | v :: vs, d :: ds, _, r, .cons a b => .cons (r.1 _ a) (RXv.all r.2 b)
theorem keyIs_rx {h : Heap} {k : Key} {u : Value} (e : keyIs k u = true) : RX h u (keyD k) := by
  cases k with
  | inl i =>
    cases u <;> first | (cases e; done) | skip
    rename_i j t
    have : j = i := by simpa [keyIs, Value.isInt] using e
    subst this
    exact .int _ _
  | inr x =>
    cases u <;> first | (cases e; done) | skip
    rename_i y t
    have : y = x := by simpa [keyIs, Value.isStrOf] using e
    subst this
    exact .str _ _
theorem rxe_of {P : Program} {w : World} {h : Heap} : ∀ {ks : List Key} {vs : List V} {ds : List PyData} {es : List DictEntry} {kvs : List (Key × Value)}, ks.length = vs.length → RXv h vs ds → KV (ks.zip vs) kvs → Pairs (mixKind P w) es kvs → RXe h es ((ks.map keyD).zip ds)
  | [], [], [], _, _, _, _, .nil, .nil => .nil
  | [], [], _ :: _, _, _, _, r, _, _ => r.elim
  | [], _ :: _, _, _, _, l, _, _, _ => nomatch l
  | _ :: _, [], _, _, _, l, _, _, _ => nomatch l
  | _ :: _, _ :: _, [], _, _, _, r, _, _ => r.elim
  | k :: ks, v :: vs, d :: ds, _, _, l, r, .cons a b, .cons e1 e2 e3 => by
    refine .cons (keyIs_rx (by have := a.1; dsimp only at this; rw [this]; exact e1)) (r.1 _ (by rw [e2]; exact a.2)) (rxe_of (by simpa using l) r.2 b e3)
section
variable {X : Cx} {pins : List (Addr × Obj)} {σ : L2.St} {H : Hp} {s : Shared} {ρ : List Addr} {st : Store}
def RXf (ρ : List Addr) (h : Heap) (f : Nat → Option PyData) : Prop := ∀ n d, f n = some d → ∃ a, ρ[n]? = some a ∧ RX h (.ref a) d
mutual
theorem rx_of (I : L2.Inv X pins σ H s) {f : Nat → Option PyData} (hf : RXf ρ s.heap f) : ∀ {x : PV} {v : V} {d : PyData}, VR X.K ρ H x v → toDw f x = some d → ∀ u, L2.RelV v u → RX s.heap u d
  | .non, _, _, r, h, u, g => by rw [toDw] at h; cases h; rw [VR.non_iff] at r; subst r; cases g; exact .none
  | .bl b, _, _, r, h, u, g => by rw [toDw] at h; cases h; rw [VR.bl_iff] at r; subst r; cases g; exact .bool b
  | .int i, _, _, r, h, u, g => by rw [toDw] at h; cases h; rw [VR.int_iff] at r; subst r; obtain ⟨t, rfl⟩ := g; exact .int i t
  | .str x, _, _, r, h, u, g => by rw [toDw] at h; cases h; rw [VR.str_iff] at r; subst r; obtain ⟨t, rfl⟩ := g; exact .str x t
  | .tup xs, _, _, r, h, u, g => by
    rw [toDw] at h
    rw [VR.tup_iff] at r
    obtain ⟨a, vs, rfl, h1, h2⟩ := r
    cases e : toDsw f xs with
    | none => rw [e] at h; cases h
    | some ds =>
      rw [e] at h; cases h; cases g
      obtain ⟨its, w1, p1, _⟩ := I.tuple h1
      exact .tuple p1 (RXv.all (rxs_of I hf h2 e) w1)
  | .ref n, _, _, r, h, u, g => by
    rw [toDw] at h
    rw [VR.ref_iff] at r
    obtain ⟨a, rfl, h1⟩ := r
    obtain ⟨b, h2, h3⟩ := hf n _ h
    rw [h1] at h2; cases h2
    cases g
    exact h3
theorem rxs_of (I : L2.Inv X pins σ H s) {f : Nat → Option PyData} (hf : RXf ρ s.heap f) : ∀ {xs : List PV} {vs : List V} {ds : List PyData}, VRs X.K ρ H xs vs → toDsw f xs = some ds → RXv s.heap vs ds
  | [], _, _, r, h => by rw [toDsw] at h; cases h; rw [VRs.nil_iff] at r; subst r; trivial
  | x :: xs, _, _, r, h => by
    rw [toDsw] at h
    rw [VRs.cons_iff] at r
    obtain ⟨v, vs, rfl, h1, h2⟩ := r
    cases e : toDw f x with
    | none => rw [e] at h; cases h
    | some d =>
      rw [e] at h
      cases e2 : toDsw f xs with
      | none => rw [e2] at h; cases h
      | some ds => rw [e2] at h; cases h; exact ⟨rx_of I hf h1 e, rxs_of I hf h2 e2⟩
end
theorem refX_ok {G : Gc} (hK : X.K = G.K) (I : L2.Inv X pins σ H s) (S : SR G ρ H st) : ∀ n, RXf ρ s.heap (refX n st)
  | 0, _, _, h => by cases h
  | n + 1, k, d, h => by
    unfold refX at h
    cases e : getL st k with
    | some xs =>
      rw [e] at h
      dsimp only at h
      obtain ⟨a, vs, h1, h2, h3⟩ := getL_sql S e
      rw [← hK] at h2 h3
      cases e2 : toDsw (refX n st) xs with
      | none => rw [e2] at h; cases h
      | some ds =>
        rw [e2] at h; cases h
        obtain ⟨its, w1, p1, _⟩ := I.list h2
        exact ⟨a, h1, .list p1.isList (RXv.all (rxs_of I (refX_ok hK I S n) h3 e2) w1)⟩
    | none =>
      rw [e] at h
      dsimp only at h
      cases ek : getK st k with
      | none => rw [ek] at h; cases h
      | some kvs =>
        rw [ek] at h
        dsimp only at h
        cases e2 : toDsw (refX n st) (kvs.map (·.2)) with
        | none => rw [e2] at h; cases h
        | some ds =>
          rw [e2] at h; cases h
          have ec : st[k]? = some (.dk kvs) := by
            unfold getK at ek
            split at ek
            · rename_i e3; cases ek; exact e3
            · cases ek
          have lk : k < st.length := by rw [List.getElem?_eq_some_iff] at ec; exact ec.1
          obtain ⟨a, ha⟩ : ∃ a, ρ[k]? = some a := ⟨_, List.getElem?_eq_getElem (by rw [S.len]; exact lk)⟩
          obtain ⟨vs, h1, h2⟩ := S.cel k _ a ec ha
          rw [← hK] at h2
          have ok := I.hok a _ h1
          unfold ObjOk at ok
          obtain ⟨_, hm, ws, hw, o, es, ep, ho, hc, hd, _, hp, _⟩ := ok
          have hl : (kvs.map (·.1)).length = vs.length := by rw [h2.length, List.length_map, List.length_map]
          have rv := rxs_of I (refX_ok hK I S n) h2 e2
          have q := rxe_of hl rv hw hp
          rw [List.map_map] at q
          exact ⟨a, ha, .dict ho hc.1 hd hm q⟩
end
def showsX (d : PyData) : Bool := d.showable && decide (d.depth ≤ 60) && decide (d.shown.length ≤ sizeLine)
def reprX : MC := fun xs st => match xs with
  | [x] => match toX st x with
    | some d => if showsX d then .ok (.str d.shown) st else .no
    | none => .no
  | _ => .no
section
variable {X : Cx} {C : Wc}
theorem c_reprX (hK : X.K = C.K) (hG : X.A.guards = some []) (hu : X.A.units + 65 < cLine) : CallR X (.builtin "repr") (rA C.G reprX) := by
  intro pins s σ H vs us Q I rv ⟨ρ, st, xs, S, hx, r, st', e, k⟩
  unfold reprX at e
  split at e
  · rename_i x
    split at e
    · rename_i d ed
      split at e
      · rename_i hs
        cases e
        obtain ⟨v, rfl, h1⟩ := hx.one
        unfold showsX at hs
        simp only [Bool.and_eq_true, decide_eq_true_eq] at hs
        obtain ⟨⟨s1, s3⟩, s4⟩ := hs
        cases rv with
        | cons r1 r2 =>
          cases r2
          rename_i u
          have R := rx_of I (refX_ok hK I S 4) (by rw [hK]; exact h1) ed u r1
          have fin : ∀ (t : Tok) (s' : Shared), L2.Inv X pins σ H s' → EP X pins σ Q (.str d.shown t) s' := fun t s' J => ⟨.str d.shown, H, J, ⟨t, rfl⟩, k ρ H _ Up.refl S (VR.str_iff.mpr rfl)⟩
          cases u with
          | ref a => exact call_repr_RX R s1 hG (by omega) (fun _ _ z => z) (fun h' u tk hk => fin _ _ (I.kept hk)) s4
          | none => cases R; exact PySem.P.repr_of_none (fin _ _ (I.tok _))
          | bool b => cases R; exact PySem.P.repr_of_bool (fin _ _ (I.tok _))
          | int i t =>
            cases R
            exact PySem.P.repr_of_int (by simpa [PyData.showable] using s1) (fin _ _ (I.tok _))
          | str z t => cases R; exact PySem.P.repr_of_str (fin _ _ (I.tok _)) s4
          | _ => cases R
      · cases e
    · cases e
  · cases e
end
end Sm
namespace Sm
open PySem PySem.Spec PyProof.Rows L2
/-! ### methods of texts -/
def lowerF : PV → List PV → Store → Res PV := fun x xs st => match x, xs with
  | .str a, [] => if a.length ≤ 5592405 then .ok (.str (Txt.lower a)) st else .no
  | _, _ => .no
section
variable {X : Cx} {C : Wc}
theorem m_lower : MtR X "str.lower" (rBM C.G lowerF) := by
  intro pins s σ H v vs u us Q I rx rv ⟨ρ, st, x, xs, S, hx, hxs, r, st', e, k⟩
  unfold lowerF at e
  split at e
  · split at e
    · cases e
      rw [VR.str_iff] at hx
      rw [VRs.nil_iff] at hxs
      subst hx hxs
      exact mt_lower pins s σ H _ _ u us Q I rx rv ⟨_, rfl, rfl, by assumption, k ρ H _ Up.refl S (VR.str_iff.mpr rfl)⟩
    · cases e
  · cases e
end
@[simp] theorem lower_ap {a : Str} {st : Store} : lowerF (.str a) [] st = if a.length ≤ 5592405 then .ok (.str (Txt.lower a)) st else .no := rfl
end Sm

namespace Sm
open PySem PySem.Spec PyProof.Rows L2
/-! ### a module's dict, asked with get -/
inductive EntP : List DictEntry → List Str → List Value → Prop
  | nil : EntP [] [] []
  | cons {e : DictEntry} {es : List DictEntry} {k : Str} {ks : List Str} {u : Value} {us : List Value} : (∃ t, e.key = .str k t) → e.val = u → EntP es ks us → EntP (e :: es) (k :: ks) (u :: us)
def lookS : List (Str × PV) → Str → Option PV
  | [], _ => none
  | p :: r, x => if p.1 = x then some p.2 else lookS r x
theorem find_ent {K : PySem.W.Frag} {ρ : List Addr} {H : Hp} {x : Str} : ∀ {ents : List (Str × PV)} {es : List DictEntry} {vs : List V} {us : List Value}, EntP es (ents.map (·.1)) us → VRs K ρ H (ents.map (·.2)) vs → Vals vs us →
    (∃ pv v u, lookS ents x = some pv ∧ (es.find? fun e => Value.isStrOf x e.key).map (·.val) = some u ∧ VR K ρ H pv v ∧ L2.RelV v u) ∨ (lookS ents x = none ∧ (es.find? fun e => Value.isStrOf x e.key).map (·.val) = none)
  | [], _, _, _, .nil, _, _ => .inr ⟨rfl, rfl⟩
  | p :: r, _, _, _, .cons (e := e) ⟨t, hk⟩ hv he, hr, hw => by
    rw [List.map_cons, VRs.cons_iff] at hr
    obtain ⟨v, vs, rfl, h1, h2⟩ := hr
    cases hw with
    | cons w1 w2 =>
      by_cases c : p.1 = x
      · refine .inl ⟨p.2, v, _, by unfold lookS; rw [if_pos c], ?_, h1, w1⟩
        have e1 : Value.isStrOf x e.key = true := by rw [hk]; simp [Value.isStrOf, c]
        rw [List.find?_cons, e1]
        simp [hv]
      · have e1 : Value.isStrOf x e.key = false := by
          rw [hk]
          simp only [Value.isStrOf]
          exact beq_eq_false_iff_ne.mpr c
        have ih := find_ent (x := x) he h2 w2
        have e2 : lookS (p :: r) x = lookS r x := by
          show (if p.1 = x then _ else _) = _
          rw [if_neg c]
        rw [e2, List.find?_cons, e1]
        exact ih
def KD (K : PySem.W.Frag) (w : World) (mg : Str → Option Value) (D : Str) (ks : List Str) (vs : List V) : Prop := ∃ a es n us, mg D = some (.ref a) ∧ List.lookup a K = some { cls := .type "dict", data := .dict es n } ∧ PySem.W.KeysLit w.params es.toList ∧ (a == sysModules) = false ∧ EntP es.toList ks us ∧ Vals vs us
section
variable {X : Cx} {C : Wc}
theorem pe_kget {D : Str} {a : Addr} {es : Array DictEntry} {n : Nat} {e f : Expr} {p apos cpos : Pos} {ty tx : TE} (hm : X.mg D = some (.ref a)) (hl : List.lookup a X.K = some { cls := .type "dict", data := .dict es n }) (hk : PySem.W.KeysLit X.w.params es.toList) (low : (a == sysModules) = false)
    (he : PE X e ty) (hf : PE X f tx) (m : L2.M2 X (.Name D p) "get" apos e f cpos) (hg : Gl X D := by rfl) (hdb : (D == ("__debug__" : Str)) = false := by decide) :
    PE X (.Call (.Attribute (.Name D p) "get" apos) [e, f] [] cpos) (fun σ H Q => ty σ H fun y H2 => tx σ H2 fun z H3 => ∃ x, y = .str x ∧ ((∃ u v, findBy Value.isStrOf es x = some u ∧ L2.RelV v u ∧ Q v H3) ∨ (findBy Value.isStrOf es x = none ∧ Q z H3))) := by
  constructor
  intro pins s σ H Q I h
  refine wpAny_Call_method m.base m.few m.line F.plainAttrs_dict F.slot_dict_get F.type_dict_get ?_
  refine thn ((pe_glob (v := .ref a) hg hm rfl hdb).run pins s σ H (fun x H1 => x = .ref a ∧ H1 = H) I ⟨rfl, rfl⟩) ?_
  rintro u s1 ⟨x, H1, I1, rx, rfl, rfl⟩
  cases rx
  have mp := PySem.W.mapOf_K (prog := X.prog) I1.kIn hl hk
  obtain ⟨o, es', ep, ho, hx, hd, _⟩ := mp
  refine ⟨⟨o, ho, hx.1⟩, fun b e => by cases e; exact ⟨o, ho, hx.2.1⟩, ?_⟩
  rw [m.trees]
  refine wpAny_dict_get2 (K := Str) (knd := PySem.strKind X.prog X.w) low ?_
  refine thn (he.run pins s1 σ H1 _ I1 h) ?_
  rintro yv s2 ⟨y, H2, I2, ry, q2⟩
  refine thn (hf.run pins s2 σ H2 _ I2 q2) ?_
  rintro zv s3 ⟨z, H3, I3, rz, x, rfl, q⟩
  obtain ⟨t, rfl⟩ := ry
  refine ⟨x, _, strKind_is X.prog X.w x t, PySem.W.mapOf_K I3.kIn hl hk, ?_⟩
  rcases q with ⟨u, v, e1, rv, q⟩ | ⟨e1, q⟩
  · simp only [e1, Option.getD_some]
    exact ⟨v, H3, I3.tok _, rv, q⟩
  · simp only [e1, Option.getD_none]
    exact ⟨z, H3, I3.tok _, rz, q⟩
def mKget (ents : List (Str × PV)) (k z : ME) : ME := fun σ st => (k σ st).bind fun x s1 => (z σ s1).bind fun y s2 => match x with
  | .str x => .ok ((lookS ents x).getD y) s2
  | _ => .no
theorem e_kget {D : Str} {ents : List (Str × PV)} {vs : List V} {e f : Expr} {p apos cpos : Pos} {mk mz : ME} (hK : X.K = C.K) (hd : KD X.K X.w X.mg D (ents.map (·.1)) vs) (r : ∀ ρ H, VRs C.K ρ H (ents.map (·.2)) vs) (he : PE X e (tE C mk)) (hf : PE X f (tE C mz)) (m : L2.M2 X (.Name D p) "get" apos e f cpos) (hg : Gl X D := by rfl) (hdb : (D == ("__debug__" : Str)) = false := by decide) :
    PE X (.Call (.Attribute (.Name D p) "get" apos) [e, f] [] cpos) (tE C (mKget ents mk mz)) := by
  obtain ⟨a, es, n, us, hm, hl, hk, low, en, hw⟩ := hd
  refine (pe_kget hm hl hk low he hf m hg hdb).weak fun σ H Q ⟨ρ, st, σh, S, R, p⟩ => ⟨ρ, st, σh, S, R, (Post.bind p).imp fun ρ1 H1 x s1 _ u1 S1 ⟨s1', S1', p1⟩ v hv => ⟨ρ1, s1', σh, S1', R.up u1, (Post.bind p1).imp fun ρ2 H2 y s2 _ u2 S2 ⟨s2', S2', p2⟩ w hw2 => ?_⟩⟩
  cases x with
  | str x =>
    rw [VR.str_iff] at hv
    subst hv
    have fe : findBy Value.isStrOf es x = (es.toList.find? fun e => Value.isStrOf x e.key).map (·.val) := by
      unfold findBy
      rw [← Array.find?_toList]
    refine ⟨x, rfl, ?_⟩
    rcases find_ent (K := C.K) (ρ := ρ2) (H := H2) (x := x) en (r ρ2 H2) hw with ⟨pv, v', u, l1, l2, l3, l4⟩ | ⟨l1, l2⟩
    · refine .inl ⟨u, v', by rw [fe, l2], l4, ?_⟩
      dsimp only at p2
      rw [l1] at p2
      exact p2 ρ2 H2 Up.refl S2' _ l3
    · refine .inr ⟨by rw [fe, l2], ?_⟩
      dsimp only at p2
      rw [l1] at p2
      exact p2 ρ2 H2 Up.refl S2' _ hw2
  | _ => exact p2.elim
def KDv (K : PySem.W.Frag) (w : World) (mg : Str → Option Value) (D : Str) (ents : List (Str × PV)) : Prop := ∃ vs, KD K w mg D (ents.map (·.1)) vs ∧ ∀ ρ H, VRs K ρ H (ents.map (·.2)) vs
theorem e_kgetv {D : Str} {ents : List (Str × PV)} {e f : Expr} {p apos cpos : Pos} {mk mz : ME} (hK : X.K = C.K) (hd : KDv X.K X.w X.mg D ents) (he : PE X e (tE C mk)) (hf : PE X f (tE C mz)) (m : L2.M2 X (.Name D p) "get" apos e f cpos) (hg : Gl X D := by rfl) (hdb : (D == ("__debug__" : Str)) = false := by decide) :
    PE X (.Call (.Attribute (.Name D p) "get" apos) [e, f] [] cpos) (tE C (mKget ents mk mz)) := by
  obtain ⟨vs, h1, h2⟩ := hd
  exact e_kget hK h1 (hK ▸ h2) he hf m hg hdb
end
@[simp] theorem mKget_ap {ents : List (Str × PV)} {k z : ME} {σ : Slots} {st : Store} : mKget ents k z σ st = (k σ st).bind fun x s1 => (z σ s1).bind fun y s2 => match x with
  | .str x => .ok ((lookS ents x).getD y) s2
  | _ => .no := rfl
theorem vr_ktup {K : PySem.W.Frag} {ρ : List Addr} {H : Hp} {t : Addr} {d : Option Addr} {us : Array Value} {n : Nat} {sl : Array (Option Value)} {xs : List PV} {vs : List V} (hl : K.lookup t = some ⟨.type "tuple", d, .seq us n, sl⟩) (hz : us.size ≤ sizeLine) (hv : Vals vs us.toList) (r : VRs K ρ H xs vs) : VR K ρ H (.tup xs) (.ref t) :=
  VR.tup_iff.mpr ⟨t, vs, rfl, .inr ⟨_, us, n, hl, rfl, rfl, hz, hv⟩, r⟩
end Sm

namespace Lw
open PySem Sm
abbrev N_f_law_stream : List Str := ["script", "start", "seed", "number", "digits"]
def L1_f_law_stream : MS := (mAsg (mOp addF (mOp modF (mOp powF (mOp addF (mOp mulF (mVar 2) (mC (.int 40127))) (mVar 3)) (mC (.int 3))) (mC (.int 2147483629))) (mC (.int 1))) (gNm 2))
def m_f_law_stream : MS := (mSeq (mAsg (mOp addF (mC (.int 11)) (mVar 1)) (gNm 2))
    (mSeq (mFor (mItL (mVar 0)) (gNm 3) L1_f_law_stream)
    (mSeq (mAsg (mC (.int 0)) (gNm 4))
    (mSeq (mIfS (mAndT (mTest (mOp ltF (mVar 1) (mCall lenF (mCons (mVar 0) mNil)))) (mTest (mOp geF (mOp ixF (mVar 0) (mVar 1)) (mOp powF (mC (.int 10)) (mC (.int 18)))))) (mAsg (mOp subF (mOp ixF (mVar 0) (mVar 1)) (mOp powF (mC (.int 10)) (mC (.int 18)))) (gNm 4)) mNext)
    (mRet (mLst (mCons (mVar 4) (mCons (mVar 2) mNil))))))))
def g_f_law_stream : MC := gOf N_f_law_stream m_f_law_stream
abbrev N_f_law_draw : List Str := ["stream", "size", "found"]
def m_f_law_draw : MS := (mSeq (mIfS (mTest (mOp geF (mOp ixF (mVar 0) (mC (.int 0))) (mVar 1))) (mSeq (mAsg (mOp modF (mOp ixF (mVar 0) (mC (.int 0))) (mVar 1)) (gNm 2))
    (mSeq (mAsg (mOp fdivF (mOp ixF (mVar 0) (mC (.int 0))) (mVar 1)) (gIx (mVar 0) (mC (.int 0))))
    (mRet (mVar 2)))) mNext)
    (mSeq (mAsg (mOp modF (mOp addF (mOp mulF (mOp ixF (mVar 0) (mC (.int 1))) (mC (.int 48271))) (mC (.int 12345))) (mC (.int 2147483647))) (gIx (mVar 0) (mC (.int 1))))
    (mRet (mOp modF (mOp fdivF (mOp modF (mOp powF (mOp modF (mOp powF (mOp ixF (mVar 0) (mC (.int 1))) (mC (.int 3))) (mC (.int 2147483629))) (mC (.int 5))) (mC (.int 1000000007))) (mC (.int 7))) (mVar 1)))))
def g_f_law_draw : MC := gOf N_f_law_draw m_f_law_draw
abbrev N_f_law_choose : List Str := ["stream", "items"]
def m_f_law_choose : MS := (mRet (mOp ixF (mVar 1) (mFn 2 g_f_law_draw (mCons (mVar 0) (mCons (mCall lenF (mCons (mVar 1) mNil)) mNil)))))
def g_f_law_choose : MC := gOf N_f_law_choose m_f_law_choose
end Lw

namespace Lw
open PySem Sm
/-- a source of draws at n -/
def Stm (st : Store) (n : Nat) : Prop := ∃ d s : Int, st[n]? = some (.lst [.int d, .int s]) ∧ 0 ≤ d ∧ 0 ≤ s ∧ s < 2147483648
/-- all but the source is as it was -/
structure Gx (n : Nat) (st st' : Store) : Prop where
  le : st.length ≤ st'.length
  old : ∀ i, i < st.length → i ≠ n → st'[i]? = st[i]?
  stm : Stm st' n
/-- all is as it was -/
structure Ex (st st' : Store) : Prop where
  le : st.length ≤ st'.length
  old : ∀ i, i < st.length → st'[i]? = st[i]?
theorem Ex.refl {st : Store} : Ex st st := ⟨Nat.le_refl _, fun _ _ => rfl⟩
theorem Ex.trans {a b c : Store} (h : Ex a b) (g : Ex b c) : Ex a c := ⟨Nat.le_trans h.le g.le, fun i hi => (g.old i (Nat.lt_of_lt_of_le hi h.le)).trans (h.old i hi)⟩
theorem Ex.push {st : Store} {c : Cell} : Ex st (st ++ [c]) := ⟨by simp, fun i hi => List.getElem?_append_left hi⟩
theorem lt_of_some {α : Type} {l : List α} {n : Nat} {x : α} (h : l[n]? = some x) : n < l.length := (List.getElem?_eq_some_iff.mp h).1
theorem Stm.lt {st : Store} {n : Nat} (h : Stm st n) : n < st.length := by obtain ⟨d, s, h, _⟩ := h; exact lt_of_some h
theorem Ex.stm {a b : Store} {n : Nat} (h : Ex a b) (s : Stm a n) : Stm b n := by
  have hl := s.lt
  obtain ⟨d, z, e, r⟩ := s
  exact ⟨d, z, by rw [h.old n hl]; exact e, r⟩
theorem Gx.refl {st : Store} {n : Nat} (s : Stm st n) : Gx n st st := ⟨Nat.le_refl _, fun _ _ _ => rfl, s⟩
theorem Gx.trans {a b c : Store} {n : Nat} (h : Gx n a b) (g : Gx n b c) : Gx n a c := ⟨Nat.le_trans h.le g.le, fun i hi hn => (g.old i (Nat.lt_of_lt_of_le hi h.le) hn).trans (h.old i hi hn), g.stm⟩
theorem Ex.gx {a b : Store} {n : Nat} (h : Ex a b) (s : Stm a n) : Gx n a b := ⟨h.le, fun i hi _ => h.old i hi, h.stm s⟩
theorem Gx.get {a b : Store} {n i : Nat} {c : Cell} (h : Gx n a b) (hi : i ≠ n) (e : a[i]? = some c) : b[i]? = some c := by rw [h.old i (lt_of_some e) hi]; exact e
theorem Ex.get {a b : Store} {i : Nat} {c : Cell} (h : Ex a b) (e : a[i]? = some c) : b[i]? = some c := by rw [h.old i (lt_of_some e)]; exact e
theorem log2_lt {i : Int} {n : Nat} (h : i.natAbs < 2 ^ n) (hn : 0 < n) : i.natAbs.log2 < n := by
  by_cases h0 : i.natAbs = 0
  · rw [h0]; simpa using hn
  · exact (Nat.log2_lt h0).mpr h
theorem pow_of {i : Int} {n : Nat} {k : Nat} (h : i.natAbs < 2 ^ n) (hn : 0 < n) (hk : n * k ≤ 134217728) : powOk i (k : Int) = true := by
  have := log2_lt h hn
  unfold powOk
  rw [Bool.and_eq_true, decide_eq_true_eq, Int.toNat_natCast]
  refine ⟨Int.natCast_nonneg k, ?_⟩
  have h2 : (i.natAbs.log2 + 1) * k ≤ n * k := Nat.mul_le_mul_right k (by omega)
  exact Nat.ble_eq_true_of_le (Nat.le_trans h2 hk)
theorem fmod_pos {i j : Int} (h : 0 < j) : i.fmod j = i % j := Int.fmod_eq_emod_of_nonneg i (by omega)
theorem fdiv_pos {i j : Int} (h : 0 < j) : i.fdiv j = i / j := Int.fdiv_eq_ediv_of_nonneg i (by omega)
theorem draw_a {st : Store} {n : Nat} {z d s : Int} (e : st[n]? = some (.lst [.int d, .int s])) (h0 : 0 < z) (h1 : z < 1099511627776) (hd : z ≤ d) : g_f_law_draw [.ref n, .int z] st = .ok (.int (d % z)) (st.set n (.lst [.int (d / z), .int s])) := by
  have eL : getL st n = some [.int d, .int s] := getL_lst e
  have eM : getM st n = some [.int d, .int s] := getM_lst e
  have zne : z ≠ 0 := by omega
  have hc : L2.CDivW d z := L2.wide_div (b := 40) h0 (by omega) (by decide) (by decide)
  simp [g_f_law_draw, gOf, m_f_law_draw, startS, eL, eM, hd, zne, hc, fmod_pos h0, fdiv_pos h0]
theorem draw_b {st : Store} {n : Nat} {z d s x y u v : Int} (e : st[n]? = some (.lst [.int d, .int s])) (h0 : 0 < z) (hd : ¬ z ≤ d) (c1 : L2.CMul s 48271) (hx : (s * 48271 + 12345) % 2147483647 = x) (c2 : powOk x 3 = true) (hy : x ^ 3 % 2147483629 = y)
    (c3 : powOk y 5 = true) (hu : y ^ 5 % 1000000007 = u) (hv : u / 7 = v) : g_f_law_draw [.ref n, .int z] st = .ok (.int (v % z)) (st.set n (.lst [.int d, .int x])) := by
  have hl := lt_of_some e
  have eL : getL st n = some [.int d, .int s] := getL_lst e
  have eM : getM st n = some [.int d, .int s] := getM_lst e
  have e2 : getL (st.set n (.lst [.int d, .int x])) n = some [.int d, .int x] := getL_lst (List.getElem?_set_self hl)
  have zne : z ≠ 0 := by omega
  have c4 : L2.CDivN u 7 := ⟨by decide, by decide⟩
  have f1 : Int.fmod (s * 48271 + 12345) 2147483647 = x := by rw [fmod_pos (by decide)]; exact hx
  have f2 : Int.fmod (x ^ 3) 2147483629 = y := by rw [fmod_pos (by decide)]; exact hy
  have f3 : Int.fmod (y ^ 5) 1000000007 = u := by rw [fmod_pos (by decide)]; exact hu
  have f4 : Int.fdiv u 7 = v := by rw [fdiv_pos (by decide)]; exact hv
  simp [g_f_law_draw, gOf, m_f_law_draw, startS, eL, eM, hd, zne, c1, f1, e2, c2, f2, c3, f3, c4, f4, fmod_pos h0]
theorem drawW {st : Store} {n : Nat} {z : Int} (h : Stm st n) (h0 : 0 < z) (h1 : z < 1099511627776) : ∃ v st', g_f_law_draw [.ref n, .int z] st = .ok (.int v) st' ∧ 0 ≤ v ∧ v < z ∧ Gx n st st' ∧ st'.length = st.length := by
  have hl := h.lt
  obtain ⟨d, s, e, d0, s0, s1⟩ := h
  have zne : z ≠ 0 := by omega
  by_cases hd : z ≤ d
  · exact ⟨d % z, _, draw_a e h0 h1 hd, Int.emod_nonneg _ zne, Int.emod_lt_of_pos _ h0, ⟨by simp, fun i hi hn => by rw [List.getElem?_set_ne (Ne.symm hn)], ⟨d / z, s, by rw [List.getElem?_set_self hl], Int.ediv_nonneg d0 (by omega), s0, s1⟩⟩, by simp⟩
  · have q : 0 ≤ (s * 48271 + 12345) % 2147483647 ∧ (s * 48271 + 12345) % 2147483647 < 2147483648 := by omega
    generalize hx : (s * 48271 + 12345) % 2147483647 = x at q
    have q2 : 0 ≤ x ^ 3 % 2147483629 ∧ x ^ 3 % 2147483629 < 2147483648 := by omega
    generalize hy : x ^ 3 % 2147483629 = y at q2
    have c1 : L2.CMul s 48271 := .inl ⟨by omega, by omega⟩
    have c2 : powOk x 3 = true := pow_of (n := 31) (k := 3) (by omega) (by decide) (by decide)
    have c3 : powOk y 5 = true := pow_of (n := 31) (k := 5) (by omega) (by decide) (by decide)
    exact ⟨_, _, draw_b e h0 hd c1 hx c2 hy c3 rfl rfl, Int.emod_nonneg _ zne, Int.emod_lt_of_pos _ h0, ⟨by simp, fun i hi hn => by rw [List.getElem?_set_ne (Ne.symm hn)], ⟨d, x, by rw [List.getElem?_set_self hl], d0, q.1, by omega⟩⟩, by simp⟩
theorem draw {st : Store} {n : Nat} {z : Int} (h : Stm st n) (h0 : 0 < z) (h1 : z < 1073741824) : ∃ v st', g_f_law_draw [.ref n, .int z] st = .ok (.int v) st' ∧ 0 ≤ v ∧ v < z ∧ Gx n st st' ∧ st'.length = st.length := drawW h h0 (by omega)
/-- one of a list -/
theorem choose {st : Store} {n m : Nat} {xs : List PV} (h : Stm st n) (hm : getL st m = some xs) (hn : m ≠ n) (h0 : xs ≠ []) (h1 : xs.length < 1000000) : ∃ x st', g_f_law_choose [.ref n, .ref m] st = .ok x st' ∧ x ∈ xs ∧ Gx n st st' ∧ st'.length = st.length := by
  have hp : 0 < xs.length := List.length_pos_iff.mpr h0
  obtain ⟨v, st', e, v0, v1, G, le⟩ := draw h (z := (xs.length : Nat)) (by omega) (by omega)
  obtain ⟨k, rfl⟩ : ∃ k : Nat, v = (k : Int) := ⟨v.toNat, by omega⟩
  have hk : k < xs.length := by omega
  refine ⟨xs[k], st', ?_, List.getElem_mem hk, G, le⟩
  have hm' : getL st' m = some xs := by
    unfold getL at hm ⊢
    cases e : st[m]? with
    | none => rw [e] at hm; cases hm
    | some c => rw [e] at hm; rw [G.get hn e]; exact hm
  simp [g_f_law_choose, gOf, m_f_law_choose, startS, mFn_ap, hm, e, hm', atI_cast, hk]
end Lw

namespace Lw
open PySem Sm
/-- a script's ints -/
def Bits (ns : List Int) : Prop := ∀ z ∈ ns, z.natAbs < 2 ^ 1048576
theorem bits_of {ns : List Int} (h : ∀ z ∈ ns, Builtin.Int.intBits z ≤ 1048576) : Bits ns := fun z hz => by
  have q := h z hz
  unfold Builtin.Int.intBits at q
  split at q
  · rename_i e
    have : z = 0 := by simpa using e
    subst this
    exact Nat.two_pow_pos _
  · rename_i e
    have h0 : z.natAbs ≠ 0 := fun e' => e (by simp; omega)
    exact (Nat.log2_lt h0).mp (by omega)
theorem seed_small {a z : Int} {n : Nat} (ha : a.natAbs < 2 ^ 47) (hz : z.natAbs < 2 ^ n) (hn : 47 ≤ n) : (a + z).natAbs < 2 ^ (n + 1) := by
  have h1 : 2 ^ 47 ≤ 2 ^ n := Nat.pow_le_pow_right (by decide) hn
  have h2 : (a + z).natAbs ≤ a.natAbs + z.natAbs := Int.natAbs_add_le a z
  rw [Nat.pow_succ]
  omega
theorem stream_step {m : Nat} {i s z x y : Int} {o : Option PV} {st : Store} (c1 : L2.CMul s 40127) (c2 : powOk (s * 40127 + z) 3 = true) (h : ((s * 40127 + z) ^ 3) % 2147483629 + 1 = y) :
    L1_f_law_stream [some (.ref m), some (.int i), some (.int s), some (.int z), none] st
      = .nx [some (.ref m), some (.int i), some (.int y), some (.int z), none] st := by
  have f1 : Int.fmod ((s * 40127 + z) ^ 3) 2147483629 + 1 = y := by rw [fmod_pos (by decide)]; exact h
  simp [L1_f_law_stream, c1, c2, f1]
theorem stream_loop {m : Nat} {i : Int} {all : List PV} {st : Store} (ha : getL st m = some all) : ∀ (r : List Int) (s : Int) (o : Option PV), 0 ≤ s → s < 2147483648 → Bits r →
    ∃ s' o', loopF (gNm 3) L1_f_law_stream (some m) all (r.map .int) [some (.ref m), some (.int i), some (.int s), o, none] st
      = .nx [some (.ref m), some (.int i), some (.int s'), o', none] st ∧ 0 ≤ s' ∧ s' < 2147483648
  | [], s, o, h0, h1, _ => ⟨s, o, by rw [List.map_nil, loopF, if_pos (stays_some ha)], h0, h1⟩
  | z :: r, s, o, h0, h1, hb => by
    have c1 : L2.CMul s 40127 := .inl ⟨by omega, by omega⟩
    have hs := seed_small (a := s * 40127) (by omega) (hb z (by simp)) (by decide)
    have c2 : powOk (s * 40127 + z) 3 = true := pow_of (k := 3) hs (by decide) (by decide)
    have q : 0 ≤ ((s * 40127 + z) ^ 3) % 2147483629 + 1 ∧ ((s * 40127 + z) ^ 3) % 2147483629 + 1 < 2147483648 := by omega
    have e := stream_step (m := m) (i := i) (x := 0) (o := o) (st := st) c1 c2 rfl
    obtain ⟨s', o', e2, r2⟩ := stream_loop ha r _ (some (.int z)) q.1 q.2 (fun x hx => hb x (by simp [hx]))
    refine ⟨s', o', ?_, r2⟩
    rw [List.map_cons, loopF, if_pos (stays_some ha)]
    simp only [gNm_ap, List.set_cons_succ, List.set_cons_zero]
    rw [e]
    exact e2
theorem ten18 : (10 : Int) ^ (18 : Int).toNat = 1000000000000000000 := by decide
theorem stream {m i : Nat} {ns : List Int} {st : Store} (hm : getL st m = some (ns.map .int)) (hi : i < 2000) (hb : Bits ns) : ∃ st', g_f_law_stream [.ref m, .int (i : Int)] st = .ok (.ref st.length) st' ∧ Ex st st' ∧ Stm st' st.length ∧ st'.length = st.length + 1 := by
  obtain ⟨s, o, e, s0, s1⟩ := stream_loop (i := (i : Int)) hm ns (11 + (i : Int)) none (by omega) (by omega) hb
  have p18 : powOk 10 18 = true := by decide +kernel
  have fin : ∀ d : Int, 0 ≤ d → Ex st (st ++ [.lst [.int d, .int s]]) ∧ Stm (st ++ [.lst [.int d, .int s]]) st.length ∧ (st ++ [Cell.lst [.int d, .int s]]).length = st.length + 1 := fun d hd => ⟨Ex.push, ⟨d, s, by simp, hd, s0, s1⟩, by simp⟩
  by_cases h1 : i < ns.length
  · by_cases h2 : 1000000000000000000 ≤ ns[i]
    · refine ⟨st ++ [.lst [.int (ns[i] - 1000000000000000000), .int s]], ?_, fin _ (by omega)⟩
      simp [g_f_law_stream, gOf, m_f_law_stream, startS, hm, e, h1, atI_cast, p18, ten18, h2, size_small]
    · refine ⟨st ++ [.lst [.int 0, .int s]], ?_, fin _ (by omega)⟩
      simp [g_f_law_stream, gOf, m_f_law_stream, startS, hm, e, h1, atI_cast, p18, ten18, h2, size_small]
  · refine ⟨st ++ [.lst [.int 0, .int s]], ?_, fin _ (by omega)⟩
    simp [g_f_law_stream, gOf, m_f_law_stream, startS, hm, e, h1, size_small]
end Lw

namespace Sm
open PySem
/-! ### plain data: None, ints, texts, tuples of such -/
mutual
def dOf : PV → PyData
  | .non => .none
  | .bl b => .bool b
  | .int i => .int i
  | .str x => .str x
  | .tup xs => .tuple (dOfs xs)
  | .ref _ => .none
def dOfs : List PV → List PyData
  | [] => []
  | x :: xs => dOf x :: dOfs xs
end
mutual
/-- no object but tuples, no truth value, texts of real signs -/
def plainP : PV → Bool
  | .non => true
  | .bl _ => false
  | .int _ => true
  | .str x => PyData.strOk x
  | .tup xs => plainPs xs
  | .ref _ => false
def plainPs : List PV → Bool
  | [] => true
  | x :: xs => plainP x && plainPs xs
end
mutual
theorem toDw_plain {f : Nat → Option PyData} : ∀ {x : PV}, plainP x = true → toDw f x = some (dOf x)
  | .non, _ => rfl
  | .bl _, h => by simp [plainP] at h
  | .int _, _ => rfl
  | .str _, _ => rfl
  | .tup xs, h => by
    rw [plainP] at h
    rw [toDw, toDsw_plain h, dOf]
    rfl
  | .ref _, h => by simp [plainP] at h
theorem toDsw_plain {f : Nat → Option PyData} : ∀ {xs : List PV}, plainPs xs = true → toDsw f xs = some (dOfs xs)
  | [], _ => rfl
  | x :: xs, h => by
    rw [plainPs, Bool.and_eq_true] at h
    rw [toDsw, toDw_plain h.1, toDsw_plain h.2, dOfs]
    rfl
end
mutual
theorem lay_plain : ∀ {x : PV}, plainP x = true → (dOf x).canLay0 = true
  | .non, _ => by simp [dOf, PyData.canLay0]
  | .bl _, h => by simp [plainP] at h
  | .int _, _ => by simp [dOf, PyData.canLay0]
  | .str _, h => by rw [plainP] at h; rw [dOf, PyData.canLay0, h]
  | .tup xs, h => by
    rw [plainP] at h
    rw [dOf, PyData.canLay0]
    exact lays_plain h
  | .ref _, h => by simp [plainP] at h
theorem lays_plain : ∀ {xs : List PV}, plainPs xs = true → PyData.canLayAll0 (dOfs xs) = true
  | [], _ => by simp [dOfs, PyData.canLayAll0]
  | x :: xs, h => by
    rw [plainPs, Bool.and_eq_true] at h
    rw [dOfs, PyData.canLayAll0, lay_plain h.1, lays_plain h.2]
    rfl
end
mutual
theorem eqv_same : ∀ {x y : PV}, plainP x = true → plainP y = true → PyData.eqv (dOf x) (dOf y) = same x y
  | .non, y, _, g => by cases y <;> simp [plainP, dOf, PyData.eqv, same] at g ⊢
  | .bl _, _, h, _ => by simp [plainP] at h
  | .int i, y, _, g => by
    cases y <;> simp [plainP, dOf, PyData.eqv, same] at g ⊢
    rename_i j
    by_cases e : i = j <;> simp [e]
  | .str i, y, _, g => by
    cases y <;> simp [plainP, dOf, PyData.eqv, same] at g ⊢
    rename_i j
    by_cases e : i = j <;> simp [e]
  | .tup xs, y, h, g => by
    cases y with
    | tup ys =>
      rw [plainP] at h g
      rw [dOf, dOf, PyData.eqv, same]
      exact eqv_sames h g
    | non => simp [dOf, PyData.eqv, same]
    | bl _ => simp [plainP] at g
    | int _ => simp [dOf, PyData.eqv, same]
    | str _ => simp [dOf, PyData.eqv, same]
    | ref _ => simp [plainP] at g
  | .ref _, _, h, _ => by simp [plainP] at h
theorem eqv_sames : ∀ {xs ys : List PV}, plainPs xs = true → plainPs ys = true → PyData.eqvAll (dOfs xs) (dOfs ys) = sames xs ys
  | [], ys, _, _ => by cases ys <;> simp [dOfs, PyData.eqvAll, sames]
  | x :: xs, ys, h, g => by
    cases ys with
    | nil => simp [dOfs, PyData.eqvAll, sames]
    | cons y ys =>
      rw [plainPs, Bool.and_eq_true] at h g
      rw [dOfs, dOfs, PyData.eqvAll, sames, eqv_same h.1 g.1, eqv_sames h.2 g.2]
end
/-- .. of a bounded depth -/
def okP (x : PV) : Bool := plainP x && decide ((dOf x).depth ≤ 60)
def okPs (xs : List PV) : Bool := plainPs xs && decide (PyData.depthAll (dOfs xs) ≤ 60)
theorem okP_shaped {x : PV} (h : okP x = true) : SeqAt.shaped (dOf x) = true := by
  unfold okP at h
  rw [Bool.and_eq_true, decide_eq_true_eq] at h
  unfold SeqAt.shaped
  rw [lay_plain h.1, Bool.true_and, decide_eq_true_eq]
  omega
theorem okPs_shaped {xs : List PV} (h : okPs xs = true) : SeqAt.shaped (.list (dOfs xs)) = true := by
  unfold okPs at h
  rw [Bool.and_eq_true, decide_eq_true_eq] at h
  unfold SeqAt.shaped
  rw [show PyData.canLay0 (.list (dOfs xs)) = true by rw [PyData.canLay0]; exact lays_plain h.1, Bool.true_and, decide_eq_true_eq, PyData.depth]
  omega
theorem okPs_nil : okPs [] = true := by decide
theorem okPs_cons {x : PV} {xs : List PV} (h : okP x = true) (g : okPs xs = true) : okPs (x :: xs) = true := by
  unfold okP at h
  unfold okPs at g ⊢
  rw [Bool.and_eq_true, decide_eq_true_eq] at h g ⊢
  refine ⟨by rw [plainPs, h.1, g.1]; rfl, ?_⟩
  rw [dOfs, PyData.depthAll]
  omega
theorem okPs_all : ∀ {xs : List PV}, (∀ x ∈ xs, okP x = true) → okPs xs = true
  | [], _ => okPs_nil
  | x :: xs, h => okPs_cons (h x (by simp)) (okPs_all fun y hy => h y (by simp [hy]))
theorem okPs_plain {xs : List PV} (h : okPs xs = true) : plainPs xs = true := by
  unfold okPs at h
  rw [Bool.and_eq_true] at h
  exact h.1
theorem okP_plain {x : PV} (h : okP x = true) : plainP x = true := by
  unfold okP at h
  rw [Bool.and_eq_true] at h
  exact h.1
section
variable {st : Store} {neg : Bool} {n m : Nat}
theorem eq_plain {x y : PV} (h : okP x = true) (g : okP y = true) : eqF neg x y st = .ok (.bl (if neg then !same x y else same x y)) st := by
  have key : eqDF neg x y st = .ok (.bl (if neg then !same x y else same x y)) st := by
    unfold eqDF toD
    rw [toDw_plain (okP_plain h), toDw_plain (okP_plain g)]
    dsimp only
    rw [if_pos ⟨okP_shaped h, okP_shaped g⟩, eqv_same (okP_plain h) (okP_plain g)]
  unfold eqF
  split
  · simp [same]
  · simp [same]
  · simp [plainP, okP] at h
  · exact key
theorem toD_ref {xs : List PV} (h : getL st n = some xs) (g : okPs xs = true) : toD st (.ref n) = some (.list (dOfs xs)) := by
  unfold toD
  rw [toDw, refD, h, Option.bind_some, toDsw_plain (okPs_plain g)]
  rfl
theorem eq_list {xs ys : List PV} (h : getL st n = some xs) (hx : okPs xs = true) (g : getL st m = some ys) (hy : okPs ys = true) : eqF neg (.ref n) (.ref m) st = .ok (.bl (if neg then !sames xs ys else sames xs ys)) st := by
  show eqDF neg (.ref n) (.ref m) st = _
  unfold eqDF
  rw [toD_ref h hx, toD_ref g hy]
  dsimp only
  rw [if_pos ⟨okPs_shaped hx, okPs_shaped hy⟩, PyData.eqv, eqv_sames (okPs_plain hx) (okPs_plain hy)]
theorem any_same {x : PV} (hx : plainP x = true) : ∀ {xs : List PV}, plainPs xs = true → ((dOfs xs).any fun z => PyData.eqv z (dOf x)) = xs.any fun y => same y x
  | [], _ => rfl
  | y :: ys, h => by
    rw [plainPs, Bool.and_eq_true] at h
    rw [dOfs, List.any_cons, List.any_cons, eqv_same h.1 hx, any_same hx h.2]
theorem in_list {x : PV} {xs : List PV} (h : getL st n = some xs) (hx : okP x = true) (hs : okPs xs = true) : inF neg x (.ref n) st = .ok (.bl (if neg then !(xs.any fun y => same y x) else xs.any fun y => same y x)) st := by
  unfold inF
  dsimp only
  rw [toD_ref h hs, show toD st x = some (dOf x) from toDw_plain (okP_plain hx)]
  dsimp only
  rw [if_pos ⟨okP_shaped hx, okPs_shaped hs⟩, any_same (okP_plain hx) (okPs_plain hs)]
end
end Sm

namespace Sm
open PySem
def rangeI (lo : Int) (n : Nat) : List Int := (List.range n).map fun i => lo + (i : Nat)
theorem rangeP_eq (lo : Int) (n : Nat) : rangeP lo n = (rangeI lo n).map .int := by simp [rangeP, rangeI]
theorem set_same {st : Store} {d : Nat} {c : Cell} (h : st[d]? = some c) : st.set d c = st := by
  apply List.ext_getElem?
  intro i
  by_cases hi : d = i
  · subst hi
    rw [List.getElem?_set_self (Lw.lt_of_some h), h]
  · rw [List.getElem?_set_ne hi]
theorem set_end {st : Store} {c e : Cell} : (st ++ [c]).set st.length e = st ++ [e] := by
  apply List.ext_getElem?
  intro i
  by_cases hi : st.length = i
  · subst hi
    rw [List.getElem?_set_self (by simp)]
    simp
  · rw [List.getElem?_set_ne hi]
    by_cases h : i < st.length
    · rw [List.getElem?_append_left h, List.getElem?_append_left h]
    · rw [List.getElem?_eq_none (by simp; omega), List.getElem?_eq_none (by simp; omega)]
theorem get_end {st : Store} {c : Cell} : (st ++ [c])[st.length]? = some c := by simp
end Sm
namespace Lw
open PySem Sm
/-- all but the object at d is as it was -/
structure Fx (d : Nat) (st st' : Store) : Prop where
  le : st.length ≤ st'.length
  old : ∀ i, i < st.length → i ≠ d → st'[i]? = st[i]?
theorem Fx.refl {d : Nat} {st : Store} : Fx d st st := ⟨Nat.le_refl _, fun _ _ _ => rfl⟩
theorem Fx.trans {d : Nat} {a b c : Store} (h : Fx d a b) (g : Fx d b c) : Fx d a c := ⟨Nat.le_trans h.le g.le, fun i hi hn => (g.old i (Nat.lt_of_lt_of_le hi h.le) hn).trans (h.old i hi hn)⟩
theorem Fx.set {d : Nat} {st : Store} {c : Cell} : Fx d st (st.set d c) := ⟨by simp, fun i hi hn => by rw [List.getElem?_set_ne (Ne.symm hn)]⟩
theorem Ex.fx {d : Nat} {a b : Store} (h : Ex a b) : Fx d a b := ⟨h.le, fun i hi _ => h.old i hi⟩
theorem Fx.get {d i : Nat} {a b : Store} {c : Cell} (h : Fx d a b) (hi : i ≠ d) (e : a[i]? = some c) : b[i]? = some c := by rw [h.old i (lt_of_some e) hi]; exact e
/-- what was made new has been changed alone -/
theorem Fx.ex {d : Nat} {a b : Store} (h : Fx d a b) (hd : a.length ≤ d) : Ex a b := ⟨h.le, fun i hi => h.old i hi (by omega)⟩
theorem Fx.ex_of {d : Nat} {a b c : Store} (h : Ex a b) (g : Fx d b c) (hd : a.length ≤ d) : Ex a c := ⟨Nat.le_trans h.le g.le, fun i hi => (g.old i (Nat.lt_of_lt_of_le hi h.le) (by omega)).trans (h.old i hi)⟩
theorem Gx.len_lt {n : Nat} {a b : Store} (h : Gx n a b) : n < b.length := h.stm.lt
theorem Gx.ex {n : Nat} {a b c : Store} (h : Gx n a b) (g : Ex b c) : Gx n a c := h.trans (g.gx h.stm)
end Lw

namespace Lx
open PySem Sm
abbrev N_f_law_cell : List Str := ["stream", "rows", "columns"]
def m_f_law_cell : MS := (mRet (mTup (mCons (mFn 2 Lw.g_f_law_draw (mCons (mVar 0) (mCons (mVar 1) mNil))) (mCons (mFn 2 Lw.g_f_law_draw (mCons (mVar 0) (mCons (mVar 2) mNil))) mNil))))
def g_f_law_cell : MC := gOf N_f_law_cell m_f_law_cell
abbrev N_f_law_area : List Str := ["stream", "rows", "columns", "top", "left"]
def m_f_law_area : MS := (mSeq (mAsg (mFn 3 g_f_law_cell (mCons (mVar 0) (mCons (mVar 1) (mCons (mVar 2) mNil)))) (gTp 2 (gCons (gNm 3) (gCons (gNm 4) gNil))))
    (mRet (mTup (mCons (mVar 3) (mCons (mVar 4) (mCons (mCall minF (mCons (mC (.int 11)) (mCons (mOp addF (mVar 3) (mFn 2 Lw.g_f_law_draw (mCons (mVar 0) (mCons (mC (.int 3)) mNil)))) mNil))) (mCons (mCall minF (mCons (mC (.int 11)) (mCons (mOp addF (mVar 4) (mFn 2 Lw.g_f_law_draw (mCons (mVar 0) (mCons (mC (.int 3)) mNil)))) mNil))) mNil)))))))
def g_f_law_area : MC := gOf N_f_law_area m_f_law_area
abbrev N_f_law_reference : List Str := ["stream", "rows", "columns", "kind"]
def m_f_law_reference : MS := (mSeq (mIfS (mTest (mOp (eqF false) (mFn 2 Lw.g_f_law_draw (mCons (mVar 0) (mCons (mC (.int 12)) mNil))) (mC (.int 0)))) (mAsg (mTup (mCons (mC (.int 12)) (mCons (mC (.int 12)) mNil))) (gTp 2 (gCons (gNm 1) (gCons (gNm 2) gNil)))) mNext)
    (mSeq (mAsg (mFn 2 Lw.g_f_law_draw (mCons (mVar 0) (mCons (mC (.int 12)) mNil))) (gNm 3))
    (mSeq (mIfS (mTest (mOp ltF (mVar 3) (mC (.int 5)))) (mRet (mOp addF (mTup (mCons (mC (.str (Str.ofString "cell"))) mNil)) (mFn 3 g_f_law_cell (mCons (mVar 0) (mCons (mVar 1) (mCons (mVar 2) mNil)))))) mNext)
    (mSeq (mIfS (mTest (mOp ltF (mVar 3) (mC (.int 9)))) (mRet (mOp addF (mTup (mCons (mC (.str (Str.ofString "range"))) mNil)) (mFn 3 g_f_law_area (mCons (mVar 0) (mCons (mVar 1) (mCons (mVar 2) mNil)))))) mNext)
    (mRet (mIf (mTest (mOp ltF (mVar 3) (mC (.int 11)))) (mOp addF (mTup (mCons (mC (.str (Str.ofString "spill"))) mNil)) (mFn 3 g_f_law_cell (mCons (mVar 0) (mCons (mVar 1) (mCons (mVar 2) mNil))))) (mTup (mCons (mC (.str (Str.ofString "badref"))) mNil))))))))
def g_f_law_reference : MC := gOf N_f_law_reference m_f_law_reference
abbrev N_f_law_array : List Str := ["stream", "rows", "columns", "depth", "kind", "sizes", "first", "operator", "second"]
abbrev N_f_law_scalar : List Str := ["stream", "rows", "columns", "depth", "kind", "first", "operator", "name", "places"]
def m_f_law_array (r_f_law_array r_f_law_scalar : MC) : MS := (mSeq (mAsg (mFn 2 Lw.g_f_law_draw (mCons (mVar 0) (mCons (mC (.int 12)) mNil))) (gNm 4))
    (mSeq (mIfS (mOrT (mTest (mOp (eqF false) (mVar 3) (mC (.int 0)))) (mTest (mOp ltF (mVar 4) (mC (.int 3))))) (mRet (mFn 3 g_f_law_reference (mCons (mVar 0) (mCons (mVar 1) (mCons (mVar 2) mNil))))) mNext)
    (mSeq (mIfS (mTest (mOp ltF (mVar 4) (mC (.int 5)))) (mSeq (mAsg (mTup (mCons (mFn 4 r_f_law_scalar (mCons (mVar 0) (mCons (mVar 1) (mCons (mVar 2) (mCons (mOp subF (mVar 3) (mC (.int 1))) mNil))))) (mCons (mFn 4 r_f_law_scalar (mCons (mVar 0) (mCons (mVar 1) (mCons (mVar 2) (mCons (mOp subF (mVar 3) (mC (.int 1))) mNil))))) mNil))) (gNm 5))
    (mRet (mTup (mCons (mC (.str (Str.ofString "call"))) (mCons (mC (.str (Str.ofString "SEQ"))) (mCons (mSl (mVar 5) none (some (mOp addF (mC (.int 1)) (mFn 2 Lw.g_f_law_draw (mCons (mVar 0) (mCons (mC (.int 2)) mNil)))))) mNil)))))) mNext)
    (mSeq (mAsg (mFn 4 r_f_law_array (mCons (mVar 0) (mCons (mVar 1) (mCons (mVar 2) (mCons (mOp subF (mVar 3) (mC (.int 1))) mNil))))) (gNm 6))
    (mSeq (mIfS (mTest (mOp ltF (mVar 4) (mC (.int 7)))) (mRet (mTup (mCons (mC (.str (Str.ofString "call"))) (mCons (mFn 2 Lw.g_f_law_choose (mCons (mVar 0) (mCons (mLst (mCons (mC (.str (Str.ofString "TRANSPOSE"))) (mCons (mC (.str (Str.ofString "SORT"))) mNil))) mNil))) (mCons (mTup (mCons (mVar 6) mNil)) mNil))))) mNext)
    (mSeq (mIfS (mTest (mOp ltF (mVar 4) (mC (.int 9)))) (mSeq (mAsg (mFn 2 Lw.g_f_law_choose (mCons (mVar 0) (mCons (mLst (mCons (mC (.str (Str.ofString "+"))) (mCons (mC (.str (Str.ofString "*"))) (mCons (mC (.str (Str.ofString "-"))) (mCons (mC (.str (Str.ofString "<"))) mNil))))) mNil))) (gNm 7))
    (mRet (mTup (mCons (mC (.str (Str.ofString "binary"))) (mCons (mVar 7) (mCons (mVar 6) (mCons (mFn 4 r_f_law_array (mCons (mVar 0) (mCons (mVar 1) (mCons (mVar 2) (mCons (mOp subF (mVar 3) (mC (.int 1))) mNil))))) mNil))))))) mNext)
    (mSeq (mIfS (mTest (mOp (eqF false) (mVar 4) (mC (.int 9)))) (mRet (mTup (mCons (mC (.str (Str.ofString "call"))) (mCons (mFn 2 Lw.g_f_law_choose (mCons (mVar 0) (mCons (mLst (mCons (mC (.str (Str.ofString "TAKE"))) (mCons (mC (.str (Str.ofString "DROP"))) mNil))) mNil))) (mCons (mTup (mCons (mVar 6) (mCons (mFn 4 r_f_law_scalar (mCons (mVar 0) (mCons (mVar 1) (mCons (mVar 2) (mCons (mOp subF (mVar 3) (mC (.int 1))) mNil))))) mNil))) mNil))))) mNext)
    (mSeq (mAsg (mFn 4 r_f_law_array (mCons (mVar 0) (mCons (mVar 1) (mCons (mVar 2) (mCons (mOp subF (mVar 3) (mC (.int 1))) mNil))))) (gNm 8))
    (mSeq (mIfS (mTest (mOp (eqF false) (mVar 4) (mC (.int 10)))) (mRet (mTup (mCons (mC (.str (Str.ofString "call"))) (mCons (mFn 2 Lw.g_f_law_choose (mCons (mVar 0) (mCons (mLst (mCons (mC (.str (Str.ofString "STACK"))) (mCons (mC (.str (Str.ofString "BESIDE"))) (mCons (mC (.str (Str.ofString "FILTER"))) (mCons (mC (.str (Str.ofString "IFERROR"))) mNil))))) mNil))) (mCons (mTup (mCons (mVar 6) (mCons (mVar 8) mNil))) mNil))))) mNext)
    (mRet (mTup (mCons (mC (.str (Str.ofString "call"))) (mCons (mC (.str (Str.ofString "IF"))) (mCons (mTup (mCons (mFn 4 r_f_law_scalar (mCons (mVar 0) (mCons (mVar 1) (mCons (mVar 2) (mCons (mOp subF (mVar 3) (mC (.int 1))) mNil))))) (mCons (mVar 6) (mCons (mVar 8) mNil)))) mNil))))))))))))))
def m_f_law_scalar (r_f_law_array r_f_law_scalar : MC) : MS := (mSeq (mAsg (mFn 2 Lw.g_f_law_draw (mCons (mVar 0) (mCons (mC (.int 12)) mNil))) (gNm 4))
    (mSeq (mIfS (mOrT (mTest (mOp ltF (mVar 4) (mC (.int 4)))) (mAndT (mTest (mOp (eqF false) (mVar 3) (mC (.int 0)))) (mTest (mOp ltF (mVar 4) (mC (.int 7)))))) (mRet (mTup (mCons (mC (.str (Str.ofString "number"))) (mCons (mFn 2 Lw.g_f_law_choose (mCons (mVar 0) (mCons (mLst (mCons (mC (.int 0)) (mCons (mC (.int 1)) (mCons (mC (.int 2)) (mCons (mC (.int 3)) (mCons (mC (.int 1)) (mCons (mC (.int 2)) (mCons (mC (.int 4)) (mCons (mC (.int 13)) mNil))))))))) mNil))) mNil)))) mNext)
    (mSeq (mIfS (mOrT (mTest (mOp ltF (mVar 4) (mC (.int 7)))) (mTest (mOp (eqF false) (mVar 3) (mC (.int 0))))) (mRet (mOp addF (mTup (mCons (mC (.str (Str.ofString "cell"))) mNil)) (mFn 3 g_f_law_cell (mCons (mVar 0) (mCons (mVar 1) (mCons (mVar 2) mNil)))))) mNext)
    (mSeq (mIfS (mTest (mOp ltF (mVar 4) (mC (.int 9)))) (mSeq (mAsg (mFn 4 r_f_law_scalar (mCons (mVar 0) (mCons (mVar 1) (mCons (mVar 2) (mCons (mOp subF (mVar 3) (mC (.int 1))) mNil))))) (gNm 5))
    (mSeq (mAsg (mFn 2 Lw.g_f_law_choose (mCons (mVar 0) (mCons (mLst (mCons (mC (.str (Str.ofString "+"))) (mCons (mC (.str (Str.ofString "-"))) (mCons (mC (.str (Str.ofString "*"))) (mCons (mC (.str (Str.ofString "/"))) (mCons (mC (.str (Str.ofString "<"))) (mCons (mC (.str (Str.ofString "<="))) (mCons (mC (.str (Str.ofString "="))) mNil)))))))) mNil))) (gNm 6))
    (mRet (mTup (mCons (mC (.str (Str.ofString "binary"))) (mCons (mVar 6) (mCons (mVar 5) (mCons (mFn 4 r_f_law_scalar (mCons (mVar 0) (mCons (mVar 1) (mCons (mVar 2) (mCons (mOp subF (mVar 3) (mC (.int 1))) mNil))))) mNil)))))))) mNext)
    (mSeq (mIfS (mTest (mOp (eqF false) (mVar 4) (mC (.int 9)))) (mRet (mTup (mCons (mC (.str (Str.ofString "negate"))) (mCons (mFn 4 r_f_law_scalar (mCons (mVar 0) (mCons (mVar 1) (mCons (mVar 2) (mCons (mOp subF (mVar 3) (mC (.int 1))) mNil))))) mNil)))) mNext)
    (mSeq (mIfS (mTest (mOp (eqF false) (mVar 4) (mC (.int 10)))) (mSeq (mAsg (mFn 2 Lw.g_f_law_choose (mCons (mVar 0) (mCons (mLst (mCons (mC (.str (Str.ofString "SUM"))) (mCons (mC (.str (Str.ofString "COUNT"))) (mCons (mC (.str (Str.ofString "MAX"))) (mCons (mC (.str (Str.ofString "MIN"))) (mCons (mC (.str (Str.ofString "ROWS"))) (mCons (mC (.str (Str.ofString "COLUMNS"))) mNil))))))) mNil))) (gNm 7))
    (mRet (mTup (mCons (mC (.str (Str.ofString "call"))) (mCons (mVar 7) (mCons (mTup (mCons (mFn 4 r_f_law_array (mCons (mVar 0) (mCons (mVar 1) (mCons (mVar 2) (mCons (mOp subF (mVar 3) (mC (.int 1))) mNil))))) mNil)) mNil)))))) mNext)
    (mSeq (mAsg (mTup (mCons (mTup (mCons (mC (.str (Str.ofString "number"))) (mCons (mOp addF (mC (.int 1)) (mFn 2 Lw.g_f_law_draw (mCons (mVar 0) (mCons (mC (.int 3)) mNil)))) mNil))) (mCons (mTup (mCons (mC (.str (Str.ofString "number"))) (mCons (mOp addF (mC (.int 1)) (mFn 2 Lw.g_f_law_draw (mCons (mVar 0) (mCons (mC (.int 2)) mNil)))) mNil))) mNil))) (gNm 8))
    (mRet (mTup (mCons (mC (.str (Str.ofString "call"))) (mCons (mC (.str (Str.ofString "INDEX"))) (mCons (mOp addF (mTup (mCons (mFn 4 r_f_law_array (mCons (mVar 0) (mCons (mVar 1) (mCons (mVar 2) (mCons (mOp subF (mVar 3) (mC (.int 1))) mNil))))) mNil)) (mVar 8)) mNil))))))))))))
mutual
def g_f_law_array : Nat → MC
  | 0 => fun _ _ => .no
  | n + 1 => gOf N_f_law_array (m_f_law_array (g_f_law_array n) (g_f_law_scalar n))
def g_f_law_scalar : Nat → MC
  | 0 => fun _ _ => .no
  | n + 1 => gOf N_f_law_scalar (m_f_law_scalar (g_f_law_array n) (g_f_law_scalar n))
end
abbrev N_f_law_formula : List Str := ["stream", "rows", "columns", "depth"]
def m_f_law_formula : MS := (mSeq (mIfS (mTest (mOp (eqF false) (mFn 2 Lw.g_f_law_draw (mCons (mVar 0) (mCons (mC (.int 3)) mNil))) (mC (.int 0)))) (mRet (mFn 4 (g_f_law_scalar 6) (mCons (mVar 0) (mCons (mVar 1) (mCons (mVar 2) (mCons (mVar 3) mNil)))))) mNext)
    (mRet (mFn 4 (g_f_law_array 6) (mCons (mVar 0) (mCons (mVar 1) (mCons (mVar 2) (mCons (mVar 3) mNil)))))))
def g_f_law_formula : MC := gOf N_f_law_formula m_f_law_formula
end Lx

namespace Lx
open PySem Sm Lw
abbrev q (s : String) : PV := .str (Str.ofString s)
/-! ### what is drawn: expressions -/
inductive Lf : PV → Prop
  | num {n : Int} : 0 ≤ n → n < 16 → Lf (.tup [q "number", .int n])
  | cell {r c : Int} : 0 ≤ r → r < 12 → 0 ≤ c → c < 12 → Lf (.tup [q "cell", .int r, .int c])
  | range {t l b r : Int} : 0 ≤ t → t ≤ b → b < 12 → 0 ≤ l → l ≤ r → r < 12 → Lf (.tup [q "range", .int t, .int l, .int b, .int r])
  | spill {r c : Int} : 0 ≤ r → r < 12 → 0 ≤ c → c < 12 → Lf (.tup [q "spill", .int r, .int c])
  | bad : Lf (.tup [q "badref"])
def ops : List Str := ["+", "-", "*", "/", "<", "<=", "="].map Str.ofString
def table : List (Str × Nat) := [("SUM", 1), ("COUNT", 1), ("MAX", 1), ("MIN", 1), ("ROWS", 1), ("COLUMNS", 1), ("TRANSPOSE", 1), ("SORT", 1), ("SEQ", 1), ("SEQ", 2), ("IFERROR", 2), ("FILTER", 2), ("TAKE", 2), ("DROP", 2), ("STACK", 2), ("BESIDE", 2), ("IF", 3), ("INDEX", 3)].map fun p => (Str.ofString p.1, p.2)
inductive Nd : PV → List PV → Prop
  | neg {a : PV} : Nd (.tup [q "negate", a]) [a]
  | bin {o : Str} {a b : PV} : o ∈ ops → Nd (.tup [q "binary", .str o, a, b]) [a, b]
  | call {o : Str} {as : List PV} : (o, as.length) ∈ table → Nd (.tup [q "call", .str o, .tup as]) as
def Xq : Nat → PV → Prop
  | 0, _ => False
  | n + 1, x => Lf x ∨ ∃ ks, Nd x ks ∧ ∀ k ∈ ks, Xq n k
theorem Xq.lf {n : Nat} {x : PV} (h : Lf x) : Xq (n + 1) x := .inl h
theorem Xq.nd {n : Nat} {x : PV} {ks : List PV} (h : Nd x ks) (k : ∀ y ∈ ks, Xq n y) : Xq (n + 1) x := .inr ⟨ks, h, k⟩
theorem Xq.up : ∀ {n : Nat} {x : PV}, Xq n x → Xq (n + 1) x
  | 0, _, h => h.elim
  | n + 1, _, .inl h => .inl h
  | n + 1, _, .inr ⟨ks, h, k⟩ => .inr ⟨ks, h, fun y hy => Xq.up (k y hy)⟩
theorem Xq.mono {n m : Nat} {x : PV} (h : Xq n x) (l : n ≤ m) : Xq m x := by
  obtain ⟨k, rfl⟩ := Nat.le.dest l
  clear l
  induction k with
  | zero => exact h
  | succ k ih => exact Xq.up ih
/-! ### drawn -/
section
variable {st : Store} {m : Nat} {R C : Int}
theorem cell_ap (S : Stm st m) (hR : 1 ≤ R ∧ R ≤ 12) (hC : 1 ≤ C ∧ C ≤ 12) : ∃ r c st', g_f_law_cell [.ref m, .int R, .int C] st = .ok (.tup [.int r, .int c]) st' ∧ (0 ≤ r ∧ r < R) ∧ (0 ≤ c ∧ c < C) ∧ Gx m st st' := by
  obtain ⟨r, s1, e1, r0, r1, G1, _⟩ := draw S (z := R) (by omega) (by omega)
  obtain ⟨c, s2, e2, c0, c1, G2, _⟩ := draw G1.stm (z := C) (by omega) (by omega)
  exact ⟨r, c, s2, by simp [g_f_law_cell, gOf, m_f_law_cell, startS, mFn_ap, e1, e2, size_small], ⟨r0, r1⟩, ⟨c0, c1⟩, G1.trans G2⟩
theorem area_ap (S : Stm st m) (hR : 1 ≤ R ∧ R ≤ 12) (hC : 1 ≤ C ∧ C ≤ 12) : ∃ t l b r st', g_f_law_area [.ref m, .int R, .int C] st = .ok (.tup [.int t, .int l, .int b, .int r]) st' ∧ (0 ≤ t ∧ t < R ∧ t ≤ b ∧ b < 12) ∧ (0 ≤ l ∧ l < C ∧ l ≤ r ∧ r < 12) ∧ Gx m st st' := by
  obtain ⟨t, l, s1, e1, ht, hl, G1⟩ := cell_ap S hR hC
  obtain ⟨u, s2, e2, u0, u1, G2, _⟩ := draw G1.stm (z := 3) (by decide) (by decide)
  obtain ⟨v, s3, e3, v0, v1, G3, _⟩ := draw G2.stm (z := 3) (by decide) (by decide)
  refine ⟨t, l, if t + u < 11 then t + u else 11, if l + v < 11 then l + v else 11, s3, ?_, ?_, ?_, (G1.trans G2).trans G3⟩
  · simp [g_f_law_area, gOf, m_f_law_area, startS, mFn_ap, e1, e2, e3, size_small]
  · split <;> omega
  · split <;> omega
theorem reference_ap (S : Stm st m) (hR : 1 ≤ R ∧ R ≤ 12) (hC : 1 ≤ C ∧ C ≤ 12) : ∃ x st', g_f_law_reference [.ref m, .int R, .int C] st = .ok x st' ∧ Lf x ∧ Gx m st st' := by
  obtain ⟨z, s1, e1, z0, z1, G1, _⟩ := draw S (z := 12) (by decide) (by decide)
  obtain ⟨k, s2, e2, k0, k1, G2, _⟩ := draw G1.stm (z := 12) (by decide) (by decide)
  obtain ⟨R', C', hR', hC', fix⟩ : ∃ R' C' : Int, (1 ≤ R' ∧ R' ≤ 12) ∧ (1 ≤ C' ∧ C' ≤ 12) ∧ ((z = 0 ∧ R' = 12 ∧ C' = 12) ∨ (z ≠ 0 ∧ R' = R ∧ C' = C)) := by
    by_cases hz : z = 0
    · exact ⟨12, 12, by decide, by decide, .inl ⟨hz, rfl, rfl⟩⟩
    · exact ⟨R, C, hR, hC, .inr ⟨hz, rfl, rfl⟩⟩
  by_cases h5 : k < 5
  · obtain ⟨r, c, s3, e3, hr, hc, G3⟩ := cell_ap G2.stm hR' hC'
    refine ⟨_, s3, ?_, .cell hr.1 (by omega) hc.1 (by omega), (G1.trans G2).trans G3⟩
    rcases fix with ⟨hz, rfl, rfl⟩ | ⟨hz, rfl, rfl⟩ <;> simp [g_f_law_reference, gOf, m_f_law_reference, startS, mFn_ap, e1, hz, e2, h5, e3, size_small]
  · by_cases h9 : k < 9
    · obtain ⟨t, l, b, r, s3, e3, ht, hl, G3⟩ := area_ap G2.stm hR' hC'
      refine ⟨_, s3, ?_, .range ht.1 ht.2.2.1 ht.2.2.2 hl.1 hl.2.2.1 hl.2.2.2, (G1.trans G2).trans G3⟩
      rcases fix with ⟨hz, rfl, rfl⟩ | ⟨hz, rfl, rfl⟩ <;> simp [g_f_law_reference, gOf, m_f_law_reference, startS, mFn_ap, e1, hz, e2, h5, h9, e3, size_small]
    · by_cases h11 : k < 11
      · obtain ⟨r, c, s3, e3, hr, hc, G3⟩ := cell_ap G2.stm hR' hC'
        refine ⟨_, s3, ?_, .spill hr.1 (by omega) hc.1 (by omega), (G1.trans G2).trans G3⟩
        rcases fix with ⟨hz, rfl, rfl⟩ | ⟨hz, rfl, rfl⟩ <;> simp [g_f_law_reference, gOf, m_f_law_reference, startS, mFn_ap, e1, hz, e2, h5, h9, h11, e3, size_small]
      · refine ⟨_, s2, ?_, .bad, G1.trans G2⟩
        rcases fix with ⟨hz, rfl, rfl⟩ | ⟨hz, rfl, rfl⟩ <;> simp [g_f_law_reference, gOf, m_f_law_reference, startS, mFn_ap, e1, hz, e2, h5, h9, h11, size_small]
/-- one of a list that is written on the spot -/
theorem pick (S : Stm st m) (xs : List PV) (h0 : xs ≠ []) (h1 : xs.length < 1000000) : ∃ x st', g_f_law_choose [.ref m, .ref st.length] (st ++ [.lst xs]) = .ok x st' ∧ x ∈ xs ∧ Gx m st st' := by
  have X : Ex st (st ++ [.lst xs]) := Ex.push
  obtain ⟨x, s1, e1, hx, G1, _⟩ := choose (st := st ++ [.lst xs]) (n := m) (m := st.length) (xs := xs) (X.stm S) (getL_lst (by simp)) (Nat.ne_of_gt S.lt) h0 h1
  exact ⟨x, s1, e1, hx, (X.gx S).trans G1⟩
end
end Lx

namespace Lx
open PySem Sm Lw
/-- the two promises at one level, for one depth -/
def Grow (m : Nat) (R C : Int) (k d : Nat) : Prop :=
  (∀ st, Stm st m → ∃ x st', g_f_law_array k [.ref m, .int R, .int C, .int (d : Int)] st = .ok x st' ∧ Xq (d + 1) x ∧ Gx m st st') ∧
  (∀ st, Stm st m → ∃ x st', g_f_law_scalar k [.ref m, .int R, .int C, .int (d : Int)] st = .ok x st' ∧ Xq (d + 1) x ∧ Gx m st st')
theorem in_ops {x : PV} (h : x ∈ [PV.str (Str.ofString "+"), .str (Str.ofString "-"), .str (Str.ofString "*"), .str (Str.ofString "/"), .str (Str.ofString "<"), .str (Str.ofString "<="), .str (Str.ofString "=")]) : ∃ o, x = .str o ∧ o ∈ ops := by
  simp only [List.mem_cons, List.not_mem_nil, or_false] at h
  rcases h with rfl | rfl | rfl | rfl | rfl | rfl | rfl <;> exact ⟨_, rfl, by decide +kernel⟩
theorem num_of {x : PV} (h : x ∈ [PV.int 0, .int 1, .int 2, .int 3, .int 1, .int 2, .int 4, .int 13]) : ∃ n : Int, x = .int n ∧ 0 ≤ n ∧ n < 16 := by
  simp only [List.mem_cons, List.not_mem_nil, or_false] at h
  rcases h with rfl | rfl | rfl | rfl | rfl | rfl | rfl | rfl <;> exact ⟨_, rfl, by decide, by decide⟩
section
variable {m : Nat} {R C : Int}
theorem scalar_low {st : Store} {n : Nat} {v D : Int} {s1 : Store} (hR : 1 ≤ R ∧ R ≤ 12) (hC : 1 ≤ C ∧ C ≤ 12) (e1 : g_f_law_draw [.ref m, .int 12] st = .ok (.int v) s1) (S1 : Stm s1 m) (h : v < 4 ∨ (D = 0 ∧ v < 7)) :
    ∃ x st', g_f_law_scalar (n + 1) [.ref m, .int R, .int C, .int D] st = .ok x st' ∧ Lf x ∧ Gx m s1 st' := by
  obtain ⟨x, s2, e2, hx, G2⟩ := pick S1 [PV.int 0, .int 1, .int 2, .int 3, .int 1, .int 2, .int 4, .int 13] (by simp) (by decide)
  obtain ⟨z, rfl, z0, z1⟩ := num_of hx
  refine ⟨_, s2, ?_, .num z0 z1, G2⟩
  by_cases h4 : v < 4
  · simp [g_f_law_scalar, gOf, m_f_law_scalar, startS, mFn_ap, e1, h4, e2, size_small]
  · obtain ⟨hD, h7⟩ := h.resolve_left h4
    simp [g_f_law_scalar, gOf, m_f_law_scalar, startS, mFn_ap, e1, h4, hD, h7, e2, size_small]
theorem scalar_cell {st : Store} {n : Nat} {v D : Int} {s1 : Store} (hR : 1 ≤ R ∧ R ≤ 12) (hC : 1 ≤ C ∧ C ≤ 12) (e1 : g_f_law_draw [.ref m, .int 12] st = .ok (.int v) s1) (S1 : Stm s1 m) (n1 : ¬ (v < 4 ∨ (D = 0 ∧ v < 7))) (h : v < 7 ∨ D = 0) :
    ∃ x st', g_f_law_scalar (n + 1) [.ref m, .int R, .int C, .int D] st = .ok x st' ∧ Lf x ∧ Gx m s1 st' := by
  obtain ⟨r, c, s2, e2, hr, hc, G2⟩ := cell_ap S1 hR hC
  refine ⟨_, s2, ?_, .cell hr.1 (by omega) hc.1 (by omega), G2⟩
  have h4 : ¬ v < 4 := fun z => n1 (.inl z)
  by_cases h7 : v < 7
  · have hD : ¬ D = 0 := fun z => n1 (.inr ⟨z, h7⟩)
    simp [g_f_law_scalar, gOf, m_f_law_scalar, startS, mFn_ap, e1, h4, hD, h7, e2, size_small]
  · have hD : D = 0 := h.resolve_left h7
    simp [g_f_law_scalar, gOf, m_f_law_scalar, startS, mFn_ap, e1, h4, hD, h7, e2, size_small]
theorem scalar_high {st : Store} {n e : Nat} {v D : Int} {s1 : Store} (e1 : g_f_law_draw [.ref m, .int 12] st = .ok (.int v) s1) (S1 : Stm s1 m) (h7 : ¬ v < 7) (h12 : v < 12) (hD : D - 1 = (e : Int)) (hD0 : ¬ D = 0) (ih : Grow m R C n e) :
    ∃ x st', g_f_law_scalar (n + 1) [.ref m, .int R, .int C, .int D] st = .ok x st' ∧ Xq (e + 2) x ∧ Gx m s1 st' := by
  have h4 : ¬ v < 4 := by omega
  by_cases h9 : v < 9
  · obtain ⟨x, s2, e2, X2, G2⟩ := ih.2 s1 S1
    obtain ⟨o, s3, e3, ho, G3⟩ := pick G2.stm [PV.str (Str.ofString "+"), .str (Str.ofString "-"), .str (Str.ofString "*"), .str (Str.ofString "/"), .str (Str.ofString "<"), .str (Str.ofString "<="), .str (Str.ofString "=")] (by simp) (by decide)
    obtain ⟨w, rfl, hw⟩ := in_ops ho
    obtain ⟨y, s4, e4, X4, G4⟩ := ih.2 s3 G3.stm
    refine ⟨_, s4, ?_, .nd (.bin (a := x) (b := y) hw) (by simp only [List.mem_cons, List.not_mem_nil, or_false]; rintro k (rfl | rfl) <;> assumption), (G2.trans G3).trans G4⟩
    simp [g_f_law_scalar, gOf, m_f_law_scalar, startS, mFn_ap, e1, h4, h7, h9, hD0, hD, e2, e3, e4, size_small]
  · by_cases h : v = 9
    · subst h
      obtain ⟨x, s2, e2, X2, G2⟩ := ih.2 s1 S1
      refine ⟨_, s2, ?_, .nd (.neg (a := x)) (by simp only [List.mem_cons, List.not_mem_nil, or_false]; rintro k rfl; assumption), G2⟩
      simp [g_f_law_scalar, gOf, m_f_law_scalar, startS, mFn_ap, e1, hD0, hD, e2, size_small]
    · by_cases h' : v = 10
      · subst h'
        obtain ⟨o, s2, e2, ho, G2⟩ := pick S1 [PV.str (Str.ofString "SUM"), .str (Str.ofString "COUNT"), .str (Str.ofString "MAX"), .str (Str.ofString "MIN"), .str (Str.ofString "ROWS"), .str (Str.ofString "COLUMNS")] (by simp) (by decide)
        obtain ⟨x, s3, e3, X3, G3⟩ := ih.1 s2 G2.stm
        obtain ⟨w, rfl, hw⟩ : ∃ w, o = .str w ∧ (w, [x].length) ∈ table := by
          simp only [List.mem_cons, List.not_mem_nil, or_false] at ho
          rcases ho with rfl | rfl | rfl | rfl | rfl | rfl <;> exact ⟨_, rfl, by show (_, 1) ∈ table; decide +kernel⟩
        refine ⟨_, s3, ?_, .nd (.call hw) (by simp only [List.mem_cons, List.not_mem_nil, or_false]; rintro k rfl; assumption), G2.trans G3⟩
        simp [g_f_law_scalar, gOf, m_f_law_scalar, startS, mFn_ap, e1, hD0, hD, e2, e3, size_small]
      · obtain ⟨a, s2, e2, a0, a1, G2, _⟩ := draw S1 (z := 3) (by decide) (by decide)
        obtain ⟨b, s3, e3, b0, b1, G3, _⟩ := draw G2.stm (z := 2) (by decide) (by decide)
        obtain ⟨x, s4, e4, X4, G4⟩ := ih.1 s3 G3.stm
        refine ⟨_, s4, ?_, .nd (.call (o := Str.ofString "INDEX") (as := [x, .tup [q "number", .int (1 + a)], .tup [q "number", .int (1 + b)]]) (by show (_, 3) ∈ table; decide +kernel)) (by simp only [List.mem_cons, List.not_mem_nil, or_false]; rintro k (rfl | rfl | rfl) <;> first | exact X4 | exact .lf (.num (by omega) (by omega))), (G2.trans G3).trans G4⟩
        simp [g_f_law_scalar, gOf, m_f_law_scalar, startS, mFn_ap, e1, h4, h7, h9, h, h', hD0, hD, e2, e3, e4, size_small]
theorem array_low {st : Store} {n : Nat} {v D : Int} {s1 : Store} (hR : 1 ≤ R ∧ R ≤ 12) (hC : 1 ≤ C ∧ C ≤ 12) (e1 : g_f_law_draw [.ref m, .int 12] st = .ok (.int v) s1) (S1 : Stm s1 m) (h : D = 0 ∨ v < 3) :
    ∃ x st', g_f_law_array (n + 1) [.ref m, .int R, .int C, .int D] st = .ok x st' ∧ Lf x ∧ Gx m s1 st' := by
  obtain ⟨x, s2, e2, hx, G2⟩ := reference_ap S1 hR hC
  refine ⟨_, s2, ?_, hx, G2⟩
  by_cases hD : D = 0
  · simp [g_f_law_array, gOf, m_f_law_array, startS, mFn_ap, e1, hD, e2, size_small]
  · have h3 : v < 3 := h.resolve_left hD
    simp [g_f_law_array, gOf, m_f_law_array, startS, mFn_ap, e1, hD, h3, e2, size_small]
theorem array_high {st : Store} {n e : Nat} {v D : Int} {s1 : Store} (e1 : g_f_law_draw [.ref m, .int 12] st = .ok (.int v) s1) (S1 : Stm s1 m) (h3 : ¬ v < 3) (h12 : v < 12) (hD : D - 1 = (e : Int)) (hD0 : ¬ D = 0) (ih : Grow m R C n e) :
    ∃ x st', g_f_law_array (n + 1) [.ref m, .int R, .int C, .int D] st = .ok x st' ∧ Xq (e + 2) x ∧ Gx m s1 st' := by
  by_cases h5 : v < 5
  · obtain ⟨x, s2, e2, X2, G2⟩ := ih.2 s1 S1
    obtain ⟨y, s3, e3, X3, G3⟩ := ih.2 s2 G2.stm
    obtain ⟨u, s4, e4, u0, u1, G4, _⟩ := draw G3.stm (z := 2) (by decide) (by decide)
    have c1 : cutP [x, y] none (some 1) = [x] := rfl
    have c2 : cutP [x, y] none (some 2) = [x, y] := rfl
    by_cases hu : u = 0
    · subst hu
      refine ⟨_, s4, ?_, .nd (.call (o := Str.ofString "SEQ") (as := [x]) (by show (_, 1) ∈ table; decide +kernel)) (by simp only [List.mem_cons, List.not_mem_nil, or_false]; rintro k rfl; assumption), (G2.trans G3).trans G4⟩
      simp [g_f_law_array, gOf, m_f_law_array, startS, mFn_ap, e1, h3, h5, hD0, hD, e2, e3, e4, c1, size_small]
    · obtain rfl : u = 1 := by omega
      refine ⟨_, s4, ?_, .nd (.call (o := Str.ofString "SEQ") (as := [x, y]) (by show (_, 2) ∈ table; decide +kernel)) (by simp only [List.mem_cons, List.not_mem_nil, or_false]; rintro k (rfl | rfl) <;> assumption), (G2.trans G3).trans G4⟩
      simp [g_f_law_array, gOf, m_f_law_array, startS, mFn_ap, e1, h3, h5, hD0, hD, e2, e3, e4, c2, size_small]
  · obtain ⟨x, s2, e2, X2, G2⟩ := ih.1 s1 S1
    by_cases h7 : v < 7
    · obtain ⟨o, s3, e3, ho, G3⟩ := pick G2.stm [PV.str (Str.ofString "TRANSPOSE"), .str (Str.ofString "SORT")] (by simp) (by decide)
      obtain ⟨w, rfl, hw⟩ : ∃ w, o = .str w ∧ (w, [x].length) ∈ table := by
        simp only [List.mem_cons, List.not_mem_nil, or_false] at ho
        rcases ho with rfl | rfl <;> exact ⟨_, rfl, by show (_, 1) ∈ table; decide +kernel⟩
      refine ⟨_, s3, ?_, .nd (.call hw) (by simp only [List.mem_cons, List.not_mem_nil, or_false]; rintro k rfl; assumption), G2.trans G3⟩
      simp [g_f_law_array, gOf, m_f_law_array, startS, mFn_ap, e1, h3, h5, h7, hD0, hD, e2, e3, size_small]
    · by_cases h9 : v < 9
      · obtain ⟨o, s3, e3, ho, G3⟩ := pick G2.stm [PV.str (Str.ofString "+"), .str (Str.ofString "*"), .str (Str.ofString "-"), .str (Str.ofString "<")] (by simp) (by decide)
        obtain ⟨w, rfl, hw⟩ : ∃ w, o = .str w ∧ w ∈ ops := by
          simp only [List.mem_cons, List.not_mem_nil, or_false] at ho
          rcases ho with rfl | rfl | rfl | rfl <;> exact ⟨_, rfl, by decide +kernel⟩
        obtain ⟨y, s4, e4, X4, G4⟩ := ih.1 s3 G3.stm
        refine ⟨_, s4, ?_, .nd (.bin (a := x) (b := y) hw) (by simp only [List.mem_cons, List.not_mem_nil, or_false]; rintro k (rfl | rfl) <;> assumption), (G2.trans G3).trans G4⟩
        simp [g_f_law_array, gOf, m_f_law_array, startS, mFn_ap, e1, h3, h5, h7, h9, hD0, hD, e2, e3, e4, size_small]
      · by_cases h : v = 9
        · subst h
          obtain ⟨o, s3, e3, ho, G3⟩ := pick G2.stm [PV.str (Str.ofString "TAKE"), .str (Str.ofString "DROP")] (by simp) (by decide)
          obtain ⟨y, s4, e4, X4, G4⟩ := ih.2 s3 G3.stm
          obtain ⟨w, rfl, hw⟩ : ∃ w, o = .str w ∧ (w, [x, y].length) ∈ table := by
            simp only [List.mem_cons, List.not_mem_nil, or_false] at ho
            rcases ho with rfl | rfl <;> exact ⟨_, rfl, by show (_, 2) ∈ table; decide +kernel⟩
          refine ⟨_, s4, ?_, .nd (.call hw) (by simp only [List.mem_cons, List.not_mem_nil, or_false]; rintro k (rfl | rfl) <;> assumption), (G2.trans G3).trans G4⟩
          simp [g_f_law_array, gOf, m_f_law_array, startS, mFn_ap, e1, hD0, hD, e2, e3, e4, size_small]
        · obtain ⟨y, s3, e3, X3, G3⟩ := ih.1 s2 G2.stm
          by_cases h' : v = 10
          · subst h'
            obtain ⟨o, s4, e4, ho, G4⟩ := pick G3.stm [PV.str (Str.ofString "STACK"), .str (Str.ofString "BESIDE"), .str (Str.ofString "FILTER"), .str (Str.ofString "IFERROR")] (by simp) (by decide)
            obtain ⟨w, rfl, hw⟩ : ∃ w, o = .str w ∧ (w, [x, y].length) ∈ table := by
              simp only [List.mem_cons, List.not_mem_nil, or_false] at ho
              rcases ho with rfl | rfl | rfl | rfl <;> exact ⟨_, rfl, by show (_, 2) ∈ table; decide +kernel⟩
            refine ⟨_, s4, ?_, .nd (.call hw) (by simp only [List.mem_cons, List.not_mem_nil, or_false]; rintro k (rfl | rfl) <;> assumption), (G2.trans G3).trans G4⟩
            simp [g_f_law_array, gOf, m_f_law_array, startS, mFn_ap, e1, hD0, hD, e2, e3, e4, size_small]
          · obtain ⟨z, s4, e4, X4, G4⟩ := ih.2 s3 G3.stm
            refine ⟨_, s4, ?_, .nd (.call (o := Str.ofString "IF") (as := [z, x, y]) (by show (_, 3) ∈ table; decide +kernel)) (by simp only [List.mem_cons, List.not_mem_nil, or_false]; rintro k (rfl | rfl | rfl) <;> assumption), (G2.trans G3).trans G4⟩
            simp [g_f_law_array, gOf, m_f_law_array, startS, mFn_ap, e1, h3, h5, h7, h9, h, h', hD0, hD, e2, e3, e4, size_small]
theorem grow (hR : 1 ≤ R ∧ R ≤ 12) (hC : 1 ≤ C ∧ C ≤ 12) : ∀ k d : Nat, d < k → Grow m R C k d
  | 0, _, h => absurd h (Nat.not_lt_zero _)
  | n + 1, d, h => by
    refine ⟨fun st S => ?_, fun st S => ?_⟩
    · obtain ⟨v, s1, e1, v0, v1, G1, _⟩ := draw S (z := 12) (by decide) (by decide)
      by_cases hl : (d : Int) = 0 ∨ v < 3
      · obtain ⟨x, s2, e2, X2, G2⟩ := array_low (n := n) hR hC e1 G1.stm hl
        exact ⟨x, s2, e2, .lf X2, G1.trans G2⟩
      · match d, h, hl with
        | 0, _, hl => exact absurd (.inl rfl) hl
        | e + 1, h, hl =>
          obtain ⟨x, s2, e2, X2, G2⟩ := array_high e1 G1.stm (fun z => hl (.inr z)) v1 (e := e) (by omega) (fun z => hl (.inl z)) (grow hR hC n e (by omega))
          exact ⟨x, s2, e2, X2, G1.trans G2⟩
    · obtain ⟨v, s1, e1, v0, v1, G1, _⟩ := draw S (z := 12) (by decide) (by decide)
      by_cases hl : v < 4 ∨ ((d : Int) = 0 ∧ v < 7)
      · obtain ⟨x, s2, e2, X2, G2⟩ := scalar_low (n := n) hR hC e1 G1.stm hl
        exact ⟨x, s2, e2, .lf X2, G1.trans G2⟩
      · by_cases hc : v < 7 ∨ (d : Int) = 0
        · obtain ⟨x, s2, e2, X2, G2⟩ := scalar_cell (n := n) hR hC e1 G1.stm hl hc
          exact ⟨x, s2, e2, .lf X2, G1.trans G2⟩
        · match d, h, hc with
          | 0, _, hc => exact absurd (.inr rfl) hc
          | e + 1, h, hc =>
            obtain ⟨x, s2, e2, X2, G2⟩ := scalar_high e1 G1.stm (fun z => hc (.inl z)) v1 (e := e) (by omega) (fun z => hc (.inr z)) (grow hR hC n e (by omega))
            exact ⟨x, s2, e2, X2, G1.trans G2⟩
end
end Lx
namespace Lx
open PySem Sm Lw
theorem formula_ap {st : Store} {m d : Nat} {R C : Int} (S : Stm st m) (hR : 1 ≤ R ∧ R ≤ 12) (hC : 1 ≤ C ∧ C ≤ 12) (hd : d < 6) : ∃ x st', g_f_law_formula [.ref m, .int R, .int C, .int (d : Int)] st = .ok x st' ∧ Xq (d + 1) x ∧ Gx m st st' := by
  obtain ⟨v, s1, e1, v0, v1, G1, _⟩ := draw S (z := 3) (by decide) (by decide)
  have g := grow (m := m) hR hC 6 d hd
  by_cases h : v = 0
  · obtain ⟨x, s2, e2, X2, G2⟩ := g.2 s1 G1.stm
    exact ⟨x, s2, by simp [g_f_law_formula, gOf, m_f_law_formula, startS, mFn_ap, e1, h, e2], X2, G1.trans G2⟩
  · obtain ⟨x, s2, e2, X2, G2⟩ := g.1 s1 G1.stm
    exact ⟨x, s2, by simp [g_f_law_formula, gOf, m_f_law_formula, startS, mFn_ap, e1, h, e2], X2, G1.trans G2⟩
end Lx

namespace Lx
open PySem Sm Lw
/-! ### the parts of what is drawn -/
def kids : PV → List PV
  | .tup (.str k :: r) => if k = Str.ofString "negate" then (match r with | [a] => [a] | _ => []) else if k = Str.ofString "binary" then (match r with | [_, a, b] => [a, b] | _ => []) else if k = Str.ofString "call" then (match r with | [_, .tup as] => as | _ => []) else []
  | _ => []
section
variable {x : PV} {ks : List PV}
@[simp] theorem k_nn : (Str.ofString "number" = Str.ofString "negate") = False := eq_false (by decide +kernel)
@[simp] theorem k_nb : (Str.ofString "number" = Str.ofString "binary") = False := eq_false (by decide +kernel)
@[simp] theorem k_nc : (Str.ofString "number" = Str.ofString "call") = False := eq_false (by decide +kernel)
@[simp] theorem k_cn : (Str.ofString "cell" = Str.ofString "negate") = False := eq_false (by decide +kernel)
@[simp] theorem k_cb : (Str.ofString "cell" = Str.ofString "binary") = False := eq_false (by decide +kernel)
@[simp] theorem k_cc : (Str.ofString "cell" = Str.ofString "call") = False := eq_false (by decide +kernel)
@[simp] theorem k_rn : (Str.ofString "range" = Str.ofString "negate") = False := eq_false (by decide +kernel)
@[simp] theorem k_rb : (Str.ofString "range" = Str.ofString "binary") = False := eq_false (by decide +kernel)
@[simp] theorem k_rc : (Str.ofString "range" = Str.ofString "call") = False := eq_false (by decide +kernel)
@[simp] theorem k_sn : (Str.ofString "spill" = Str.ofString "negate") = False := eq_false (by decide +kernel)
@[simp] theorem k_sb : (Str.ofString "spill" = Str.ofString "binary") = False := eq_false (by decide +kernel)
@[simp] theorem k_sc : (Str.ofString "spill" = Str.ofString "call") = False := eq_false (by decide +kernel)
@[simp] theorem k_dn : (Str.ofString "badref" = Str.ofString "negate") = False := eq_false (by decide +kernel)
@[simp] theorem k_db : (Str.ofString "badref" = Str.ofString "binary") = False := eq_false (by decide +kernel)
@[simp] theorem k_dc : (Str.ofString "badref" = Str.ofString "call") = False := eq_false (by decide +kernel)
@[simp] theorem k_bn : (Str.ofString "binary" = Str.ofString "negate") = False := eq_false (by decide +kernel)
@[simp] theorem k_an : (Str.ofString "call" = Str.ofString "negate") = False := eq_false (by decide +kernel)
@[simp] theorem k_ab : (Str.ofString "call" = Str.ofString "binary") = False := eq_false (by decide +kernel)
theorem Lf.kids (h : Lf x) : kids x = [] := by cases h <;> simp [Lx.kids]
theorem Nd.kids (h : Nd x ks) : kids x = ks := by cases h <;> simp [Lx.kids]
theorem table_le : ∀ p ∈ table, p.2 ≤ 3 := by decide +kernel
theorem Nd.few (h : Nd x ks) : ks.length ≤ 3 := by
  cases h with
  | neg => simp
  | bin _ => simp
  | call h => exact table_le _ h
theorem Xq.kid {n : Nat} (h : Xq (n + 1) x) : (∀ y ∈ kids x, Xq n y) ∧ (kids x).length ≤ 3 := by
  rcases h with h | ⟨ks, h, k⟩
  · rw [h.kids]; simp
  · rw [h.kids]; exact ⟨k, h.few⟩
theorem Xq.form {n : Nat} (h : Xq (n + 1) x) : Lf x ∨ Nd x (Lx.kids x) := by
  rcases h with h | ⟨ks, h, k⟩
  · exact .inl h
  · rw [h.kids]; exact .inr h
end
/-! ### what can be shown: plain, without truth values, small -/
def Fine (k w : Nat) (x : PV) : Prop := plainP x = true ∧ (dOf x).showable = true ∧ (dOf x).leavesShort 13 = true ∧ (dOf x).depth ≤ k ∧ (dOf x).weight ≤ w
def Fines (k w : Nat) (xs : List PV) : Prop := plainPs xs = true ∧ PyData.showableAll (dOfs xs) = true ∧ PyData.leavesShortAll 13 (dOfs xs) = true ∧ PyData.depthAll (dOfs xs) ≤ k ∧ PyData.weightAll (dOfs xs) ≤ w
theorem Fines.nil {k w : Nat} : Fines k w [] := ⟨rfl, rfl, rfl, Nat.zero_le _, Nat.zero_le _⟩
theorem Fines.cons {k w v u : Nat} {x : PV} {xs : List PV} (h : Fine k w x) (g : Fines k v xs) (e : w + 1 + v ≤ u) : Fines k u (x :: xs) := by
  obtain ⟨h1, h2, h3, h4, h5⟩ := h
  obtain ⟨g1, g2, g3, g4, g5⟩ := g
  refine ⟨?_, ?_, ?_, ?_, ?_⟩
  · rw [plainPs, h1, g1]; rfl
  · rw [dOfs, PyData.showableAll, h2, g2]; rfl
  · rw [dOfs, PyData.leavesShortAll, h3, g3]; rfl
  · rw [dOfs, PyData.depthAll]; omega
  · rw [dOfs, PyData.weightAll]; omega
theorem Fine.tup {k w : Nat} {xs : List PV} (h : Fines k w xs) : Fine (k + 1) w (.tup xs) := by
  obtain ⟨h1, h2, h3, h4, h5⟩ := h
  refine ⟨?_, ?_, ?_, ?_, ?_⟩
  · rw [plainP, h1]
  · rw [dOf, PyData.showable, h2]
  · rw [dOf, PyData.leavesShort, h3]
  · rw [dOf, PyData.depth]; omega
  · rw [dOf, PyData.weight]; exact h5
theorem Fine.more {k w k' w' : Nat} {x : PV} (h : Fine k w x) (a : k ≤ k') (b : w ≤ w') : Fine k' w' x := ⟨h.1, h.2.1, h.2.2.1, Nat.le_trans h.2.2.2.1 a, Nat.le_trans h.2.2.2.2 b⟩
theorem Fines.more {k w k' w' : Nat} {xs : List PV} (h : Fines k w xs) (a : k ≤ k') (b : w ≤ w') : Fines k' w' xs := ⟨h.1, h.2.1, h.2.2.1, Nat.le_trans h.2.2.2.1 a, Nat.le_trans h.2.2.2.2 b⟩
theorem small_int : ∀ n : Fin 16, Fine 0 4 (.int (n.val : Int)) := by
  intro n
  refine ⟨rfl, ?_, ?_, ?_, ?_⟩ <;> revert n <;> decide +kernel
theorem fine_int {k : Nat} {i : Int} (h0 : 0 ≤ i) (h1 : i < 16) : Fine k 4 (.int i) := by
  obtain ⟨n, rfl⟩ : ∃ n : Nat, i = (n : Int) := ⟨i.toNat, by omega⟩
  exact (small_int ⟨n, by omega⟩).more (Nat.zero_le _) (Nat.le_refl _)
theorem fine_str {k : Nat} {s : Str} (h : PyData.strOk s = true) (hl : s.cps.size ≤ 12) : Fine k 12 (.str s) := by
  refine ⟨by rw [plainP, h], rfl, ?_, Nat.zero_le _, ?_⟩
  · rw [dOf, PyData.leavesShort, List.all_eq_true]
    intro c hc
    unfold PyData.strOk at h
    rw [Array.all_eq_true'] at h
    have := h c (Array.mem_toList_iff.mp hc)
    rw [decide_eq_true_eq] at this ⊢
    exact Nat.lt_trans this (by decide)
  · rw [dOf, PyData.weight]; exact hl
theorem ops_ok : ∀ o ∈ ops, PyData.strOk o = true ∧ o.cps.size ≤ 12 := by decide +kernel
theorem table_ok : ∀ p ∈ table, PyData.strOk p.1 = true ∧ p.1.cps.size ≤ 12 := by decide +kernel
theorem Lf.fine {x : PV} {k : Nat} (h : Lf x) : Fine (k + 1) 40 x := by
  cases h with
  | num h0 h1 => exact .tup (.cons (fine_str (by decide +kernel) (by decide +kernel)) (.cons (fine_int h0 h1) .nil (v := 0) (Nat.le_refl _)) (by decide))
  | cell a b c d => exact .tup (.cons (fine_str (by decide +kernel) (by decide +kernel)) (.cons (fine_int a (by omega)) (.cons (fine_int c (by omega)) .nil (v := 0) (Nat.le_refl _)) (Nat.le_refl _)) (by decide))
  | spill a b c d => exact .tup (.cons (fine_str (by decide +kernel) (by decide +kernel)) (.cons (fine_int a (by omega)) (.cons (fine_int c (by omega)) .nil (v := 0) (Nat.le_refl _)) (Nat.le_refl _)) (by decide))
  | range a b c d e f => exact .tup (.cons (fine_str (by decide +kernel) (by decide +kernel)) (.cons (fine_int a (by omega)) (.cons (fine_int d (by omega)) (.cons (fine_int (by omega) (by omega)) (.cons (fine_int (by omega) (by omega)) .nil (v := 0) (Nat.le_refl _)) (Nat.le_refl _)) (Nat.le_refl _)) (Nat.le_refl _)) (by decide))
  | bad => exact .tup (.cons (fine_str (by decide +kernel) (by decide +kernel)) .nil (v := 0) (by decide))
theorem fines_all {k w : Nat} : ∀ {xs : List PV}, (∀ y ∈ xs, Fine k w y) → Fines k (xs.length * (w + 1)) xs
  | [], _ => .nil
  | x :: xs, h => .cons (h x (by simp)) (fines_all fun y hy => h y (by simp [hy])) (by rw [List.length_cons, Nat.succ_mul]; omega)
def wide : Nat → Nat
  | 0 => 0
  | n + 1 => 3 * wide n + 60
theorem Xq.fine : ∀ {n : Nat} {x : PV}, Xq n x → Fine (2 * n) (wide n) x
  | 0, _, h => h.elim
  | n + 1, x, .inl h => (h.fine (k := 0)).more (by omega) (by show _ ≤ 3 * wide n + 60; omega)
  | n + 1, x, .inr ⟨ks, h, k⟩ => by
    have F : ∀ y ∈ ks, Fine (2 * n) (wide n) y := fun y hy => Xq.fine (k y hy)
    cases h with
    | neg => exact (Fine.tup (.cons (fine_str (by decide +kernel) (by decide +kernel)) (.cons (F _ (by simp)) .nil (v := 0) (Nat.le_refl _)) (Nat.le_refl _))).more (by omega) (by show _ ≤ 3 * wide n + 60; omega)
    | bin ho =>
      have o := ops_ok _ ho
      exact (Fine.tup (.cons (fine_str (by decide +kernel) (by decide +kernel)) (.cons (fine_str o.1 o.2) (.cons (F _ (by simp)) (.cons (F _ (by simp)) .nil (v := 0) (Nat.le_refl _)) (Nat.le_refl _)) (Nat.le_refl _)) (Nat.le_refl _))).more (by omega) (by show _ ≤ 3 * wide n + 60; omega)
    | call ho =>
      have o := table_ok _ ho
      have l := table_le _ ho
      have m : ks.length * (wide n + 1) ≤ 3 * (wide n + 1) := Nat.mul_le_mul_right _ l
      exact (Fine.tup (.cons (fine_str (by decide +kernel) (by decide +kernel)) (.cons (fine_str o.1 o.2) (.cons (Fine.tup (fines_all F)) .nil (v := 0) (Nat.le_refl _)) (Nat.le_refl _)) (Nat.le_refl _))).more (by omega) (by show _ ≤ 3 * wide n + 60; omega)
theorem Fine.okP {k w : Nat} {x : PV} (h : Fine k w x) (hk : k ≤ 60) : okP x = true := by
  unfold Sm.okP
  rw [Bool.and_eq_true, decide_eq_true_eq]
  exact ⟨h.1, Nat.le_trans h.2.2.2.1 hk⟩
theorem Fine.shows {k w : Nat} {x : PV} (h : Fine k w x) (hk : k ≤ 60) (hw : w ≤ 1048576) : shows (dOf x) = true := by
  unfold Sm.shows
  rw [h.2.1, PyData.hasDict_of_canLay _ (lay_plain h.1)]
  simp only [Bool.true_and, Bool.not_false, Bool.and_eq_true, decide_eq_true_eq]
  exact ⟨Nat.le_trans h.2.2.2.1 hk, PyData.shown_fits (B := 13) (by decide) (by decide) h.2.2.1 (Nat.le_trans h.2.2.2.2 (by simpa using hw))⟩
theorem Fines.shows {k w : Nat} {xs : List PV} (h : Fines k w xs) (hk : k ≤ 59) (hw : w ≤ 1048576) : shows (.list (dOfs xs)) = true := by
  have nd : PyData.hasDict (.list (dOfs xs)) = false := PyData.hasDict_of_canLay _ (by rw [PyData.canLay0]; exact lays_plain h.1)
  unfold Sm.shows
  rw [nd, show PyData.showable (.list (dOfs xs)) = true by rw [PyData.showable]; exact h.2.1]
  simp only [Bool.true_and, Bool.not_false, Bool.and_eq_true, decide_eq_true_eq]
  exact ⟨by rw [PyData.depth]; have := h.2.2.2.1; omega, PyData.shown_fits (B := 13) (by decide) (by decide) (by rw [PyData.leavesShort]; exact h.2.2.1) (by rw [PyData.weight]; exact Nat.le_trans h.2.2.2.2 (by simpa using hw))⟩
section
variable {st : Store} {k w : Nat}
theorem repr_x {x : PV} (h : Fine k w x) (hk : k ≤ 60) (hw : w ≤ 1048576) : reprF [x] st = .ok (.str (dOf x).shown) st := by
  have t : toD st x = some (dOf x) := toDw_plain h.1
  simp only [reprF, t, h.shows hk hw, if_true]
theorem repr_l {n : Nat} {xs : List PV} (e : getL st n = some xs) (h : Fines k w xs) (hk : k ≤ 59) (hw : w ≤ 1048576) : reprF [.ref n] st = .ok (.str (PyData.list (dOfs xs)).shown) st := by
  have t : toD st (.ref n) = some (.list (dOfs xs)) := by
    unfold toD
    rw [toDw, refD, e]
    show (toDsw _ xs).map PyData.list = _
    rw [toDsw_plain h.1]
    rfl
  simp only [reprF, t, h.shows hk hw, if_true]
end
end Lx

namespace Sm
open PySem PySem.Spec PyProof.Rows L2
theorem ex_ne {a b : Addr} {o : HO} {H : Hp} (h : b ≠ a) : upd H a o b = H b := by
  unfold upd
  rw [if_neg h]
/-! ### a base's __init__, called by its name -/
structure BaseC (K : PySem.W.Frag) (mg : Str → Option Value) (y : Str) (B : Addr) : Prop where
  g : mg y = some (.ref B)
  gt : PySem.W.specialIn K (.ref B) "__getattribute__" = some (some (.builtin "type.__getattribute__"))
  rd : PySem.W.readsIn K B (.type "type") = true
  vV : PySem.W.findCls K (.ref B) (.type "type") "__init__" = some (.val (.builtin "ValueError.__init__"))
section
variable {X : Cx}
theorem pe_baseinit {e : Expr} {es : List Expr} {ta : TA} {y : Str} {B : Addr} {p1 p2 pos : Pos} {pl : Sem Bool} (T : BaseC X.K X.mg y B) (hg : Gl X y) (ha : PA X (e :: es) ta)
    (hdb : (y == Str.ofString "__debug__") = false := by decide)
    (hev : eval (.Call (.Attribute (.Name y p1) (Str.ofString "__init__") p2) (e :: es) [] pos) X.env = (do
      let ov ← eval (.Name y p1) X.env
      standAt p2.atName
      let __x ← holding [ov] (getMethod ov (Str.ofString "__init__") pl)
      match __x with
        | (f, first) => callWith pos f first (backTo pos (starEach (e :: es) X.env)) (backToKw pos (keywordEach [] X.env))) := by rfl)
    (he : starEach (e :: es) X.env = (false, eval e X.env) :: starEach es X.env := by rfl) (hpl : ((backTo pos (starEach es X.env)).any fun x => x.1) = false := by rfl) :
    PE X (.Call (.Attribute (.Name y p1) (Str.ofString "__init__") p2) (e :: es) [] pos) (tVeI X.K ta) := by
  refine ⟨fun pins s σ H Q I h => ?_⟩
  refine PySem.W.methodCall_KW (pl := pl) (ld_glob I hg T.g ?_ hdb) hev
  refine PySem.W.method_cls I.kIn T.gt (PySem.W.cls_value I.kIn T.rd T.vV rfl ?_)
  refine callWith_method1 (thn (ha.run pos pins _ σ H _ (I.tok _) h) fun us s1 hh => ?_) he hpl
  obtain ⟨vs, H1, I1, r1, a, C, ws, rfl, hl, O, ea, q⟩ := hh
  cases r1 with
  | cons ra rw' =>
    rename_i u0 ur
    obtain rfl : u0 = Value.ref a := ra
    have hlen : ur.length ≤ sizeLine := by rw [← rw'.length, sizeLine_eq]; omega
    exact oinit_ok O I1 ea hlen fun s' J => ⟨.non, H1, J, rfl, q⟩
end
/-! ### what __init__(self, f) keeps -/
def spI (C : Addr) (f : Str) : Sp := fun vs H Q _ => ∃ a v, vs = [.ref a, v] ∧ H a = some (exo a C none) ∧ ∀ dx, H dx = none → dx ≠ a → Q .non (upd (upd H dx (exd dx [(f, v)])) a (exo a C (some dx)))
/-- what the written part says of an error's class, at C, its __init__ at fI -/
structure ErrC (K : PySem.W.Frag) (mg : Str → Option Value) (x : Str) (C fI : Addr) (f : Str) : Prop where
  gC : mg x = some (.ref C)
  ox : OexC K C
  xf : XfC K C
  noN : PySem.W.findIn K (.ref C) f = some none
  iC : PySem.W.findIn K (.ref C) "__init__" = some (some (.ref fI))
  tI : PySem.W.typeIn K (.ref fI) = some (.type "function")
section
variable {X : Cx} {C : Wc}
def mRaise (c : Nat) (f : Str) (m : ME) : MS := fun σ st => (m σ st).fl σ fun x s1 => .exc c [(f, x)] σ s1
theorem xd_eq {H : Hp} {a d : Addr} {o1 o2 : HO} {y : HO} {f : Str} {v : V} (hn : d ≠ a) (ha : H a = none) : upd (del (upd (upd (upd H a o1) d o2) a y) a) d (.xd [(f, v)]) = upd H d (.xd [(f, v)]) := by
  funext b
  by_cases h1 : b = d
  · subst h1; rw [upd_same, upd_same]
  · rw [ex_ne h1, ex_ne h1]
    by_cases h2 : b = a
    · subst h2; unfold del; rw [if_pos rfl, ha]
    · unfold del; rw [if_neg h2, ex_ne h2, ex_ne h1, ex_ne h2]
theorem s_raise {x : Str} {Ca fI : Addr} {c : Nat} {f : Str} {k : Nat} {fd : FuncData} {ps : List Str} {a : Expr} {m : ME} {p pos pos2 : Pos} (hc : X.calm = true) (tk : Takes X C.W) (hcl : C.G.cl c = Ca) (T : ErrC X.K X.mg x Ca fI f)
    (F : FnOk X.prog X.w X.K X.mg X.base CX0 k fI fd ps (spI Ca f)) (hr : Room (k + 1) X.A) (hb : Binds X.K fd ps []) (ha : PE X a (tE C m)) (hg : Gl X x := by rfl)
    (hdb : (x == Str.ofString "__debug__") = false := by decide) (he : starEach (a :: []) X.env = (false, eval a X.env) :: starEach [] X.env := by rfl) (hpl : ((backTo pos (starEach [] X.env)).any fun x => x.1) = false := by rfl) :
    PS X (.Raise (some (.Call (.Name x p) [a] [] pos)) none pos2) (tS C (mRaise c f m)) :=
  (ps_raise hc tk (pmk_oex T.ox T.iC T.tI F hr hb .nil pass0 hg T.gC (pa_cons ha pa_nil he) hdb he hpl)).weak fun D σ H ⟨ρ, st, σh, S, R, p⟩ =>
    ⟨ρ, st, σh, S, R, (PostS.fl R p).imp fun ρ1 H1 y s1 _ u1 S1 ⟨s1', S1', p1⟩ v hv => by
      refine ⟨by simp, fun a ha0 => ⟨a, v, rfl, upd_same, fun dx hdx hne => ?_⟩⟩
      have hdx0 : H1 dx = none := by rw [ex_ne hne] at hdx; exact hdx
      refine ⟨rfl, dx, [(f, v)], upd_same, by rw [ex_ne hne, upd_same], hdx0, ?_⟩
      rw [xd_eq hne ha0, ← hcl]
      exact p1 ρ1 _ σ dx [v] (up_new hdx0) (S1'.new hdx0) (R.up (u1.trans (up_new hdx0))) (VRs.cons_iff.mpr ⟨v, [], rfl, hv.up (up_new hdx0), VRs.nil_iff.mpr rfl⟩) upd_same⟩
end
end Sm

namespace SmX
open PySem PySem.Spec PyProof.Rows L2 Sm
/-! ### an error that is held after its handler -/
section
variable {X : Cx} {pins : List (Addr × Obj)} {σ : L2.St} {H : Hp} {s : Shared} {a : Addr} {oe : Obj}
theorem upd_ne {a b : Addr} {o : HO} (h : b ≠ a) : upd H a o b = H b := by
  unfold upd
  rw [if_neg h]
theorem upd_eq {a : Addr} {o : HO} : upd H a o a = some o := by
  unfold upd
  rw [if_pos rfl]
theorem hold {Cc d : Addr} (I : L2.Inv X pins σ H s) (e : s.heap.get? a = some oe) (hcl : oe.cls = .ref Cc) (hdd : oe.dict = some d) {vs : Array Value} (hd : oe.data = .fields vs) (ha : H a = none) (h0 : X.s_0.heap.get? a = none) (hL : a ≠ X.env.locals) (hp : ∀ p ∈ X.pn ++ pins, p.1 ≠ a) : L2.Inv X pins σ (upd H a (errO a Cc d)) s := by
  have ne : ∀ {b : Addr} {o : HO}, H b = some o → b ≠ a := fun hb z => by rw [z, ha] at hb; cases hb
  refine { ok := I.ok, os := I.os, bare := I.bare, base := ?_, loc := I.loc, cell := I.cell, free := ?_, freeC := ?_, pin := ?_, hok := ?_, len := I.len }
  · refine { keep := I.base.keep, slot := I.base.slot, free := ?_, there := I.base.there, tups := ?_, frzs := ?_, tbls := ?_ }
    · intro b o hb h1 h2
      have nb : b ≠ a := fun z => by rw [z, h0] at hb; cases hb
      rw [upd_ne nb]
      exact I.base.free b o hb h1 h2
    · intro b xs hb
      have := I.base.tups b xs hb
      rw [upd_ne (ne this)]
      exact this
    · intro b o u hb
      have := I.base.frzs b o u hb
      rw [upd_ne (ne this)]
      exact this
    · intro b ps hb
      obtain ⟨more, this⟩ := I.base.tbls b ps hb
      exact ⟨more, by rw [upd_ne (ne this)]; exact this⟩
  · rw [upd_ne (Ne.symm hL)]; exact I.free
  · intro x c hc
    have nc : c ≠ a := fun z => by
      obtain ⟨v, hv⟩ := I.cell x c hc
      rw [z] at hv
      obtain ⟨o, ho, hdat⟩ := hv
      rw [e] at ho
      cases ho
      rw [hd] at hdat
      cases hdat
    rw [upd_ne nc]
    exact I.freeC x c hc
  · intro p hm
    obtain ⟨q1, q2, q3⟩ := I.pin p hm
    exact ⟨q1, by rw [upd_ne (hp p hm)]; exact q2, q3⟩
  · intro b o hb
    by_cases z : b = a
    · subst z
      rw [upd_eq] at hb
      cases hb
      exact errO_ok e hcl hdd hd
    · rw [upd_ne z] at hb
      refine (I.hok b o hb).stay (fun _ _ _ q => q) (fun c hc => ?_) (fun c xs hc => ?_)
      · rw [upd_ne (ne hc)]; exact hc
      · rw [upd_ne (ne hc)]; exact hc
end
def wHeld (K : PySem.W.Frag) (c : Value) (i : Nat) (ts : Addr → Value → Option Addr → TS) (D : Ends) : WX := fun cls d σ H =>
  PySem.W.exmOne K cls c = some true ∧ ∃ Cc dd, cls = .ref Cc ∧ d = some dd ∧ ∀ a, H a = none → ∀ oe, Zc cls d oe → (∃ vs, oe.data = .fields vs) →
    ts a cls d { nx := fun σ' H' => H' a = none → D.nx (σ'.set i none) (upd H' a (errO a Cc dd)), rt := D.rt } (σ.set i (some (V.ref a))) H
theorem ps_try_held {X : Cx} {x n : Str} {c : Value} {i : Nat} {body suite : List Stmt} {b₀ : Stmt} {np pos pos' : Pos} {tb : WX → TS} {ts : Addr → Value → Option Addr → TS}
    (hs : X.stack = X.env :: X.outer) (hf : X.env.frame = some X.env.locals) (hex : X.ex = []) (hN : X.N.Nodup) (hi : X.N[i]? = some n) (hln : X.env.kindOf n = some .local) (hc : Names X x c)
    (hb : ∀ (W : WX) (pn : List (Addr × Obj)) (xe : Value → Shared → Prop), Takes (X.tr pn xe) W → PassesOwn (model X.prog X.w) X.A X.env xe → PSs (X.tr pn xe) body (tb W))
    (hsu : ∀ (a : Addr) (oe : Obj) (cls : Value) (d : Option Addr) (pn : List (Addr × Obj)), Zc cls d oe → (∃ vs, oe.data = .fields vs) → PSs (X.suite a ((a, oe) :: pn)) (b₀ :: suite) (ts a cls d)) :
    PS X (.Try body [.ExceptHandler (some (.Name x np)) (some n) (b₀ :: suite) pos'] [] [] pos) (fun D σ H => tb (wHeld X.K c i ts D) D σ H) := by
  constructor
  intro pins s σ H D I h
  have ok := I.ok
  have hfr : X.A.frames = some (X.env :: X.outer) := by rw [ok.frames, hs]
  refine wpAny_Try_except (wpAny_mono ((hb (wHeld X.K c i ts D) (X.pn ++ pins) _ ?tk PassesOwn.looking).run [] s σ H D (I.toTry _) h) ?fin fun e s1 he => he)
  case fin =>
    intro f s1 hsp
    cases f with
    | next =>
      obtain ⟨σ', H', J', q⟩ := hsp
      exact wpAny_execs_nil ⟨σ', H', Inv.ofTry J' ok, q⟩
    | brk =>
      obtain ⟨σ', H', J', q⟩ := hsp
      exact ⟨σ', H', Inv.ofTry J' ok, q⟩
    | cont =>
      obtain ⟨σ', H', J', q⟩ := hsp
      exact ⟨σ', H', Inv.ofTry J' ok, q⟩
    | ret u =>
      obtain ⟨v, σ', H', J', r, q⟩ := hsp
      exact ⟨v, σ', H', Inv.ofTry J' ok, r, q⟩
  case tk =>
    rintro u s' ⟨a, B, sI, pins', σ', H', cls, d, rfl, J', nb, up, sky, na, os, ag, hb1, Cc, dd, ec, ed, hyes⟩
    have J := Inv.ofTry J' ok
    have sky' : Sky B (X.env :: X.outer) a (Zc cls d) X.env.locals s'.heap := hs ▸ sky
    refine Sky.land Zc.steady hfr hf sky' fun h3 fl3 up3 => ?_
    have J3 : L2.Inv X pins σ' H' { heap := h3, gens := s'.gens, drawn := s'.drawn, toks := s'.toks, os := s'.os } := Inv.landed J nb fl3.1 (Heap.UpToSlots.trans up up3) os ag
    obtain ⟨oe3, vs3, he3, hz3, hd3⟩ := HandSPX.FlyingZ.there fl3
    have nfr : a ∉ List.filterMap (fun x => x.frame) (X.env :: X.outer) := fun hm => by
      obtain ⟨_, o', e', hnf⟩ := Heap.FunFrames.mem fl3.2.2.1 hm
      rw [he3] at e'
      cases e'
      exact hnf vs3 hd3
    have nL : a ≠ X.env.locals := fun z => nfr (List.mem_filterMap.mpr ⟨X.env, List.mem_cons_self, by rw [hf, z]⟩)
    have nF : a ∉ X.fs := fun hm => by
      obtain ⟨e, he, q⟩ := List.mem_filterMap.mp hm
      exact nfr (List.mem_filterMap.mpr ⟨e, List.mem_cons_of_mem _ he, q⟩)
    have nI : sI.heap.get? a = none := by
      cases z : sI.heap.get? a with
      | none => rfl
      | some o =>
        have := nb a o z (fun hm => nfr (by have hm' : a ∈ frs X.stack := hm; rw [hs] at hm'; exact hm'))
        rw [fl3.2.1] at this
        cases this
    have n0 : X.s_0.heap.get? a = none := by
      cases z : X.s_0.heap.get? a with
      | none => rfl
      | some o =>
        obtain ⟨o', e⟩ := J.base.there a o z (by rw [hex]; exact fun h => nomatch h)
        rw [nI] at e
        cases e
    have nP : ∀ p ∈ X.pn ++ pins, p.1 ≠ a := fun p hp z => by
      have := (J.pin p hp).1
      rw [z, nI] at this
      cases this
    have S3 := Inv.suite J3 he3 hd3 na nL nF
    have LT : PySem.W.Looks (model X.prog X.w) h3 (typeOf (.ref a)) cls := fun A Q E s k q => wpAny_typeOf_ref (k a oe3 he3) (by rw [hz3.1]; exact q)
    have LM := PySem.W.exm_one J3.kIn LT hb1
    refine wpAny_handleBy_cons (codeAny_handlers_test ?_) (fun q => nomatch q)
    have body : ∀ {Q : Value → Shared → Prop} {E : Value → Shared → Prop}, Q c { heap := h3, gens := s'.gens, drawn := s'.drawn, toks := s'.toks, os := s'.os } → wpAny (model X.prog X.w) (X.A.mark (some (.ref a))) (eval (.Name x np) X.env) Q E { heap := h3, gens := s'.gens, drawn := s'.drawn, toks := s'.toks, os := s'.os } := fun q => by
      obtain ⟨hg, hdbg, hm | ⟨hm, hv, hnn⟩⟩ := hc
      · exact ld_glob S3 hg hm q hdbg
      · exact ld_blt S3 hg hm hv q hnn hdbg
    refine body (PySem.W.Looks.here LM ?_)
    refine codeAny_handlers_suite_as (HandSPX.lands_againZ fl3 fun h4 fl4 up4 => ?_)
    have J4 : L2.Inv X pins σ' H' { heap := h4, gens := s'.gens, drawn := s'.drawn, toks := s'.toks, os := s'.os } := Inv.landed J nb fl4.1 (Heap.UpToSlots.trans (Heap.UpToSlots.trans up up3) up4) os ag
    obtain ⟨oe4, vs4, he4, hz4, hd4⟩ := HandSPX.FlyingZ.there fl4
    have S4 := Inv.suite J4 he4 hd4 na nL nF
    refine store_ok (X := X.suite a ((a, oe4) :: (X.pn ++ pins))) (v := V.ref a) S4 hN hi (.inl hln) rfl (fun s5 S5 => ?_) (.inr hln)
    refine wpAny_mono ((hsu a oe4 cls d (X.pn ++ pins) hz4 ⟨vs4, hd4⟩).run [] s5 (σ'.set i (some (.ref a))) H' _ S5 (hyes a na oe4 hz4 ⟨vs4, hd4⟩)) ?_ (fun _ _ z => z.elim)
    intro f s6 hsp
    have held : ∀ {σ6 : L2.St} {H6 : Hp}, L2.Inv (X.suite a ((a, oe4) :: (X.pn ++ pins))) [] σ6 H6 s6 → H6 a = none ∧ L2.Inv X pins σ6 (upd H6 a (errO a Cc dd)) s6 := fun S6 => by
      have p := S6.pin (a, oe4) (by simp)
      exact ⟨p.2.1, hold (Inv.unsuite S6 ok) p.1 (hz4.1.trans ec) (hz4.2.trans ed) hd4 p.2.1 n0 nL nP⟩
    cases f with
    | next =>
      obtain ⟨σ6, H6, S6, q6⟩ := hsp
      obtain ⟨h1, h2⟩ := held S6
      exact gone_ok h2 hN hi hln fun s7 J7 => ⟨_, _, J7, q6 h1⟩
    | brk =>
      obtain ⟨σ6, H6, S6, q6⟩ := hsp
      exact q6.elim
    | cont =>
      obtain ⟨σ6, H6, S6, q6⟩ := hsp
      exact q6.elim
    | ret u =>
      obtain ⟨v6, σ6, H6, S6, r6, q6⟩ := hsp
      exact gone_ok (Inv.unsuite S6 ok) hN hi hln fun s7 J7 => ⟨v6, _, H6, J7, r6, q6⟩
end SmX

namespace Sm
open PySem PySem.Spec PyProof.Rows L2
/-! ### defs that errors leave -/
def spE (G : Gc) (n : Nat) (g : MC) : Sp := fun vs H Q E => ∃ ρ st xs, xs.length = n ∧ SR G ρ H st ∧ VRs G.K ρ H xs vs ∧ match g xs st with
  | .ok r st' => ∀ ρ' H' v, Up G.K ρ H ρ' H' → SR G ρ' H' st' → VR G.K ρ' H' r v → Q v H'
  | .exc c fs st' => ∀ ρ' H' d ws, Up G.K ρ H ρ' H' → SR G ρ' H' st' → VRs G.K ρ' H' (fs.map (·.2)) ws → H' d = some (.xd ((fs.map (·.1)).zip ws)) → E (.ref (G.cl c)) (some d) H'
  | .no => False
section
variable {X : Cx} {C : Wc}
theorem run_gE {k : Nat} {f : Addr} {fd : FuncData} {ps : List Str} {sp : Sp} {CX : CXT} {E : XK} {pins : List (Addr × Obj)} {σ : L2.St} {H : Hp} {s : Shared} {Q : VK} {us : List Value} {vs : List V}
    (F : FnG X.prog X.w X.K X.mg X.base CX k f fd ps sp) (hG : X.A.guards = some []) (hr : Room k X.A) (hb : Binds X.K fd ps []) (hx : PassesAt CX X σ E) (I : Inv X pins σ H s) (r : Vals vs us) (h : sp vs H Q E) : wpAny (model X.prog X.w) X.A (call (.ref f) us) (EP X pins σ Q) X.xe s := by
  have many : (us ++ []).length = ps.length := by rw [List.append_nil]; exact (F.many _ _ _ _ h) ▸ r.length.symm
  have done := F.go X.A X.stack s H ⟨us, []⟩ (us ++ []) vs Q E hG hr I.env0 (hb s us I.kIn many) (by rw [List.append_nil]; exact r) h
  refine wpAny_call (codeAny_mono done ?_)
  intro res s' hq
  rcases res with er | fl
  · exact hx pins H s er s' I hq
  · rcases fl with _ | _ | _ | u
    all_goals first | exact I.after hq | exact False.elim hq
def mFnE (n : Nat) (g : MC) (a : MA) : ME := fun σ st => (a σ st).bind fun xs st => if xs.length = n then g xs st else .no
@[simp] theorem mFnE_ap {n : Nat} {g : MC} {a : MA} {σ : Slots} {st : Store} : mFnE n g a σ st = (a σ st).bind fun xs st => if xs.length = n then g xs st else .no := rfl
@[simp] theorem mRaise_ap {c : Nat} {f : Str} {m : ME} {σ : Slots} {st : Store} : mRaise c f m σ st = (m σ st).fl σ fun x s1 => .exc c [(f, x)] σ s1 := rfl
theorem callE_run {n : Nat} {g : MC} {a : MA} {σ : L2.St} {H : Hp} {Q : VK} (h : tE C (mFnE n g a) σ H Q) : tA C a σ H fun vs H1 => spE C.G n g vs H1 Q (fun cls d H' => C.W cls d σ H') := by
  obtain ⟨ρ, st, σh, S, R, p⟩ := h
  refine ⟨ρ, st, σh, S, R, (Post.bind p).imp fun ρ1 H1 xs s1 _ u1 S1 ⟨s1', S1', p1⟩ vs hv => ?_⟩
  by_cases hn : xs.length = n
  · rw [if_pos hn] at p1
    refine ⟨ρ1, s1', xs, hn, S1', hv, ?_⟩
    cases e : g xs s1' with
    | ok r s2 => rw [e] at p1; exact fun ρ' H' v u S' r' => p1 ρ' H' u S' v r'
    | exc c fs s2 => rw [e] at p1; exact p1
    | no => rw [e] at p1; exact p1
  · rw [if_neg hn] at p1; exact p1.elim
theorem e_callE {x : Str} {f : Addr} {k n : Nat} {fd : FuncData} {ps : List Str} {g : MC} {e : Expr} {es : List Expr} {m : MA} {p pos : Pos} (F : FnG X.prog X.w X.K X.mg X.base (L2.CX X.prog X.w) k f fd ps (spE C.G n g)) (tk : Takes X C.W) (hG : X.A.guards = some []) (hr : Room k X.A) (hm : X.mg x = some (.ref f)) (hk : PySem.W.keepIn X.K (.ref f) = true) (hb : Binds X.K fd ps [])
    (ha : PA X (e :: es) (tA C m)) (hg : Gl X x := by rfl) (hdb : (x == ("__debug__" : Str)) = false := by decide) (he : starEach (e :: es) X.env = (false, eval e X.env) :: starEach es X.env := by rfl) (hpl : (backTo pos (starEach es X.env)).any (·.1) = false := by rfl) :
    PE X (.Call (.Name x p) (e :: es) [] pos) (tE C (mFnE n g m)) := by
  refine ⟨fun pins s σ H Q I h => ?_⟩
  refine wpAny_Call_Name_kw (ld_glob I hg hm ?_ hdb)
  have args := ha.run pos pins s σ H _ I (callE_run h)
  refine PySem.W.callWith_K (h₀ := X.base) I.ok.mod.kin hk (thn args ?_) he hpl
  rintro us s1 ⟨vs, H1, J, rv, q⟩
  exact ⟨J.kIn, run_gE F hG hr hb (passAt tk σ) J rv q⟩
end
section
variable {P : Program} {w : World} {G : Gc} {mg : Str → Option Value} {base : Heap}
abbrev WE1 (G : Gc) (E : XK) : Wc := ⟨G, fun cls d _ H => E cls d H⟩
theorem fn_okE {x qual : Str} {st : Stmt} {f : Addr} {fd : FuncData} {N ps : List Str} {k : Nat} {m : MS} (F : Fun G.K x qual st f fd) (S : FnScope N ps (defScope st))
    (hb : ∀ (cdv : Value) (A : Around) (outer : List Env) (s : Shared) (H : Hp) (E : XK), (A.deeper (envOfC qual (defScope st) s.heap.objs.size f cdv)).guards = some [] → Room k (A.deeper (envOfC qual (defScope st) s.heap.objs.size f cdv)) →
      Takes (cxOf (L2.CX P w) P w G.K mg base N qual (defScope st) f cdv A outer s H E) (WE1 G E).W →
      PSs (cxOf (L2.CX P w) P w G.K mg base N qual (defScope st) f cdv A outer s H E) (defBody st) (tS (WE1 G E) m)) : FnG P w G.K mg base (L2.CX P w) (k + 1) f fd ps (spE G ps.length (gOf N m)) := by
  obtain ⟨oc, od, kV, doc, pm, an, cdv, ct, osl, rfl, lk, hcd⟩ := F.ex
  have len : ∀ vs H Q E, spE G ps.length (gOf N m) vs H Q E → vs.length = ps.length := by
    rintro vs H Q E ⟨ρ, st, xs, hl, _, hv, _⟩
    rw [hv.length, hl]
  refine ⟨len, ?_⟩
  intro A outer s H args us vs Q E hG hr e0 hbd r hsp
  have many := len _ _ _ _ hsp
  have old : ∀ b o, base.get? b = some o → s.heap.get? b = some o := fun b o z => (e0.bs b o z).1
  have KX : G.K.In s.heap := e0.mod.kin.keeps old
  refine codeAny_call_function hr.depth (KX _ _ lk) rfl S.co S.gen rfl (PySem.W.codeRec_of KX hcd) (hbd _ _ _ _ ?_)
  refine wpAny_newFunctionEnv_cells S.kind ?_ ?_
  · rintro ⟨n, v⟩ hy
    rcases S.par n (List.of_mem_zip hy).1 with z | z
    · exact Or.inl z
    · exact Or.inr ⟨z, PySem.W.cellsFrom_some _ _ _ (Or.inl z)⟩
  · rintro env rfl s1 xc
    refine ⟨(e0.mod.nolimit.keeps old).keeps xc.toInCall.keep, codeAny_func ?_⟩
    obtain ⟨ρ, st0, xs, hl, S0, hv, hsp⟩ := hsp
    have body := hb cdv A outer s H E (by exact hG) (hr.deeper _) (takes_of rfl rfl rfl rfl)
    have I := inv_start (CX := L2.CX P w) (E := E) S hr.hd e0 many r xc
    have go : tS (WE1 G E) m { nx := fun _ H' => Q .non H', rt := Q } (L2.start N vs) H := by
      refine ⟨ρ, st0, startS N xs, S0, SlR.start hv, ?_⟩
      unfold gOf at hsp
      cases em : m (startS N xs) st0 with
      | rt y s1 => rw [em] at hsp; exact fun ρ' H' v u S' r' => hsp ρ' H' v u S' r'
      | nx σ s1 => rw [em] at hsp; exact fun ρ' H' τ u S' R' => hsp ρ' H' _ u S' (VR.non_iff.mpr rfl)
      | exc c fs σ s1 => rw [em] at hsp; exact fun ρ' H' τ d ws u S' _ r' hd => hsp ρ' H' d ws u S' r' hd
      | bk _ _ => rw [em] at hsp; exact hsp.elim
      | ct _ _ => rw [em] at hsp; exact hsp.elim
      | no => rw [em] at hsp; exact hsp.elim
    have all := body.run [] s1 (L2.start N vs) H _ I go
    refine wpAny_mono all ?_ fun _ _ z => z
    rintro fl s' hs
    have fin : ∀ {σ' : L2.St} {H' : Hp} {v : V} {u : Value}, Inv (cxOf (L2.CX P w) P w G.K mg base N qual (defScope st) f cdv A outer s H E) [] σ' H' s' → RelV v u → Q v H' → CE outer P w H s Q u s' :=
      fun J rv q => ⟨_, _, J.os, J.bare, J.base, J.hok, rv, q⟩
    rcases fl with _ | _ | _ | u
    all_goals first
      | (obtain ⟨v, σ', H', J, rv, q⟩ := hs; exact fin J rv q)
      | (obtain ⟨σ', H', J, q⟩ := hs; first | exact fin (v := .non) (u := .none) J rfl q | exact False.elim q)
end
end Sm

namespace Sm
open PySem PySem.Spec PyProof.Rows L2
theorem SlR.del {K : PySem.W.Frag} {ρ : List Addr} {H : Hp} {σh : Slots} {σ : L2.St} (j : Nat) (h : SlR K ρ H σh σ) : SlR K ρ H (σh.set j none) (σ.set j none) := ⟨by rw [List.length_set, List.length_set]; exact h.1, fun i x e => by
  by_cases hj : i = j
  · subst hj
    have hl : i < σh.length := by have := (List.getElem?_eq_some_iff.mp e).1; rw [List.length_set] at this; exact this
    rw [List.getElem?_set_self hl] at e
    cases e
  · rw [List.getElem?_set_ne (Ne.symm hj)] at e
    obtain ⟨v, e1, e2⟩ := h.2 i x e
    exact ⟨v, by rw [List.getElem?_set_ne (Ne.symm hj)]; exact e1, e2⟩⟩
/-- try: b, except X as e (slot j): y = e (slot i); the classes that X takes -/
def mTry (b : MS) (ok : List Nat) (j i : Nat) : MS := fun σ st => match b σ st with
  | .exc c fs σ' st' => if c ∈ ok ∧ j < σ'.length then .nx (((σ'.set j (some (.ref st'.length))).set i (some (.ref st'.length))).set j none) (st' ++ [.err c fs]) else .no
  | r => r
section
variable {X : Cx} {C : Wc}
theorem s_try {x n y : Str} {c : Value} {i j : Nat} {body : List Stmt} {np q1 q2 q3 pos pos' : Pos} {mb : MS} {ok : List Nat} (hK : X.K = C.K)
    (hs : X.stack = X.env :: X.outer) (hf : X.env.frame = some X.env.locals) (hex : X.ex = []) (hN : X.N.Nodup) (hj : X.N[j]? = some n) (hi : X.N[i]? = some y) (hln : X.env.kindOf n = some .local) (hvn : Vis X.env.scope n) (hly : Loc X.env.scope y) (hc : Names X x c)
    (hok : ∀ k ∈ ok, PySem.W.exmOne X.K (.ref (C.G.cl k)) c = some true)
    (hb : ∀ (W : WX) (pn : List (Addr × Obj)) (xe : Value → Shared → Prop), Takes (X.tr pn xe) W → PSs (X.tr pn xe) body (tS ⟨C.G, W⟩ mb))
    (hd1 : (n == ("__debug__" : Str)) = false := by decide) (hd2 : (n == ("__classdict__" : Str)) = false := by decide)
    (hsw : swapsWith (.Name n q2) (some (.Name y q1)) q3.line X.env = pure false := by rfl) (hfn : X.fn y = true ∨ List.lookup y X.env.scope.names = some NameKind.local := by exact .inl rfl) :
    PS X (.Try body [.ExceptHandler (some (.Name x np)) (some n) [.Assign [.Name y q1] (.Name n q2) q3] pos'] [] [] pos) (tS C (mTry mb ok j i)) := by
  refine (SmX.ps_try_held (ts := fun _ _ _ => tAsg (tVar j) (gName i)) hs hf hex hN hj hln hc (fun W pn xe tk _ => hb W pn xe tk) (fun a oe cls d pn hz hd => pss_one (ps_set (i := i) hN hi hly (pe_var (i := j) hj hvn hd1 hd2) hsw hfn))).weak fun D σ H ⟨ρ, st, σh, S, R, p⟩ => ?_
  refine ⟨ρ, st, σh, S, R, ?_⟩
  unfold mTry at p
  cases e : mb σh st with
  | exc k fs σ' st' =>
    rw [e] at p
    dsimp only at p
    by_cases hk : k ∈ ok ∧ j < σ'.length
    · rw [if_pos hk] at p
      intro ρ' H' τ d vs u S' R' r' hd
      refine ⟨hok k hk.1, C.G.cl k, d, rfl, rfl, fun a ha oe hz hf => ?_⟩
      have hda : d ≠ a := fun z => by rw [z, ha] at hd; cases hd
      refine ⟨.ref a, List.getElem?_set_self (by rw [← R'.1]; exact hk.2), fun ha' => ?_⟩
      have R2 := ((R'.up (up_app (b := a) (o := errO a (C.G.cl k) d) ha)).set j (VR.mk_ref S')).set i (VR.mk_ref S')
      exact p (ρ' ++ [a]) _ _ (u.trans (up_app ha)) (S'.pushC (c := .err k fs) ha ⟨d, vs, upd_same, by rw [ex_ne hda]; exact hd, r'.up (up_app ha)⟩) (R2.del j)
    · rw [if_neg hk] at p; exact p.elim
  | _ => rw [e] at p; exact p
end
end Sm

namespace Sm
open PySem PySem.Spec PyProof.Rows L2
/-! ### a held error: its class, its field -/
structure ErrI (K : PySem.W.Frag) (C : Addr) : Prop where
  cs : (PySem.W.clsIn K C).isSome = true
  xf : XfC K C
  ha : PySem.W.findIn K (.ref C) "__class__" = some (some (.builtin "object.__class__"))
  hn : PySem.W.specialIn K (.builtin "object.__class__") "__get__" = some (some (.builtin "getset_descriptor.__get__"))
  ht : PySem.W.takesIn K (.builtin "object.__class__") = some true
  hm : PySem.W.mroIn K C (.type "object") = some true
section
variable {X : Cx} {C : Wc}
theorem held_inst {pins : List (Addr × Obj)} {σ : L2.St} {H : Hp} {s : Shared} {a Ca d : Addr} {fs : List (Str × V)} (I : L2.Inv X pins σ H s) (h1 : H a = some (errO a Ca d)) (h2 : H d = some (.xd fs)) :
    ∃ (oe od : Obj) (mA : Str → Option Value), PySem.W.InstAt s.heap a oe Ca (some od) ∧ (∀ name : Str, PySem.W.lookIn name od = some (mA name)) ∧ ∀ f : Str, RelO (List.lookup f fs) (mA f) := by
  have ok1 := I.hok a _ h1
  unfold ObjOk errO at ok1
  obtain ⟨⟨oe, vs, e, c1, c2, c3⟩, _⟩ := ok1
  have hx : ObjOk X.prog X.w H s.heap d (.xd fs) := I.hok d _ h2
  obtain ⟨mA, hns, hr⟩ := hx
  obtain ⟨od, ho, hl⟩ := lookIn_ns hns
  exact ⟨oe, od, mA, ⟨e, c1, by unfold PySem.W.notCls; rw [c3] <;> rfl, by rw [c2]; exact ho⟩, hl, hr⟩
def rIsH (K : PySem.W.Frag) : List V → Hp → VK → Prop := fun xs H Q => ∃ (a Ca d : Addr) (fs : List (Str × V)) (cV : V) (cv : Value) (b : Bool), xs = [.ref a, cV] ∧ H a = some (errO a Ca d) ∧ H d = some (.xd fs) ∧ (∀ u, L2.RelV cV u → u = cv) ∧ ErrI K Ca ∧ PySem.W.kitOne K (.ref Ca) cv = some b ∧ Q (.bl b) H
theorem call_isH : CallR X (.builtin "isinstance") (rIsH X.K) := by
  intro pins s σ H xs us Q I r ⟨a, Ca, d, fs, cV, cv, b, ex, h1, h2, hcv, T, e, q⟩
  subst ex
  cases r with
  | cons r1 r2 =>
    cases r2 with
    | cons r2 r3 =>
      cases r3
      rename_i u1 u2
      obtain rfl : u1 = Value.ref a := r1
      have := hcv _ r2
      subst this
      obtain ⟨oe, od, mA, J, _, _⟩ := held_inst I h1 h2
      exact PySem.W.kia_one (PySem.W.kitx_exc T.cs T.xf.ga T.xf.gg T.xf.exC T.ha T.hn T.ht T.hm) I.kIn J e (fun z => nomatch z) fun tk => ⟨.bl b, H, I.kept fun _ _ z => z, rfl, q⟩
def mIsE (bs : List (Nat × Bool)) (a : ME) : ME := fun σ st => (a σ st).bind fun x s1 => match x with
  | .ref n => match s1[n]? with
    | some (.err c _) => match bs.lookup c with
      | some b => .ok (.bl b) s1
      | none => .no
    | _ => .no
  | _ => .no
theorem look_mem : ∀ {bs : List (Nat × Bool)} {c : Nat} {b : Bool}, bs.lookup c = some b → (c, b) ∈ bs
  | [], _, _, h => by cases h
  | q :: r, c, b, eb => by
    rw [List.lookup_cons] at eb
    by_cases hq : (c == q.1) = true
    · rw [hq] at eb
      cases eb
      have : c = q.1 := by simpa using hq
      subst this
      exact List.mem_cons_self
    · simp only [Bool.not_eq_true] at hq
      rw [hq] at eb
      exact List.mem_cons_of_mem _ (look_mem eb)
theorem isE_run {bs : List (Nat × Bool)} {m : ME} {cV : V} {cv : Value} {σ : L2.St} {H : Hp} {Q : VK} (hK : X.K = C.K) (hcv : ∀ u, L2.RelV cV u → u = cv) (hT : ∀ p ∈ bs, ErrI X.K (C.G.cl p.1) ∧ PySem.W.kitOne X.K (.ref (C.G.cl p.1)) cv = some p.2) (h : tE C (mIsE bs m) σ H Q) :
    tE C m σ H fun x H1 => rIsH X.K [x, cV] H1 Q := by
  obtain ⟨ρ, st, σh, S, R, p⟩ := h
  refine ⟨ρ, st, σh, S, R, (Post.bind p).imp fun ρ1 H1 x s1 _ u1 S1 ⟨s1', S1', p1⟩ v hv => ?_⟩
  cases x with
  | ref n =>
    dsimp only at p1
    cases e : s1'[n]? with
    | none => rw [e] at p1; exact p1.elim
    | some cell =>
      rw [e] at p1
      cases cell with
      | err c fs =>
        dsimp only at p1
        cases eb : bs.lookup c with
        | none => rw [eb] at p1; exact p1.elim
        | some b =>
          rw [eb] at p1
          rw [VR.ref_iff] at hv
          obtain ⟨a, rfl, ha⟩ := hv
          obtain ⟨d, vs, g1, g2, g3⟩ := S1'.cel n _ a e ha
          have hm : (c, b) ∈ bs := look_mem eb
          obtain ⟨T, k⟩ := hT _ hm
          exact ⟨a, C.G.cl c, d, _, cV, cv, b, rfl, g1, g2, hcv, T, k, p1 ρ1 H1 Up.refl S1' _ (VR.bl_iff.mpr rfl)⟩
      | _ => exact p1.elim
  | _ => exact p1.elim
/-- isinstance(e, X), X an own class -/
theorem e_isE {bs : List (Nat × Bool)} {e : Expr} {m : ME} {x : Str} {B : Addr} {p p2 pos : Pos} (hK : X.K = C.K) (hT : ∀ q ∈ bs, ErrI X.K (C.G.cl q.1) ∧ PySem.W.kitOne X.K (.ref (C.G.cl q.1)) (.ref B) = some q.2) (hm : X.mg "isinstance" = none) (hx : X.mg x = some (.ref B)) (h : PE X e (tE C m)) (hg : Gl X "isinstance" := by rfl) (hgx : Gl X x := by rfl) (hdb : (x == ("__debug__" : Str)) = false := by decide)
    (he : starEach [e, .Name x p2] X.env = [(false, eval e X.env), (false, eval (.Name x p2) X.env)] := by rfl) (he2 : starEach [.Name x p2] X.env = [(false, eval (.Name x p2) X.env)] := by rfl) (hpl : (backTo pos (starEach [.Name x p2] X.env)).any (·.1) = false := by rfl) :
    PE X (.Call (.Name "isinstance" p) [e, .Name x p2] [] pos) (tE C (mIsE bs m)) :=
  (pe_callB call_isH hg hm (by decide +kernel) (pa_cons h (pa_cons (pe_glob (v := .ref B) hgx hx rfl hdb) pa_nil (by rw [he2]; rfl)) (by rw [he, he2])) (by decide) (by decide) (by rw [he, he2]) hpl).weak fun σ H Q q =>
    isE_run hK (fun u (r : u = Value.ref B) => r) hT q
/-- isinstance(e, X), X a built-in class -/
theorem e_isEB {bs : List (Nat × Bool)} {e : Expr} {m : ME} {x : Str} {T : String} {p p2 pos : Pos} (hK : X.K = C.K) (hT : ∀ q ∈ bs, ErrI X.K (C.G.cl q.1) ∧ PySem.W.kitOne X.K (.ref (C.G.cl q.1)) (.type T) = some q.2) (hm : X.mg "isinstance" = none) (hx : X.mg x = none) (hv : bootBuiltins x = some (.type T)) (h : PE X e (tE C m)) (hg : Gl X "isinstance" := by rfl) (hgx : Gl X x := by rfl) (hn : x ≠ "__name__" := by decide) (hdb : (x == ("__debug__" : Str)) = false := by decide)
    (he : starEach [e, .Name x p2] X.env = [(false, eval e X.env), (false, eval (.Name x p2) X.env)] := by rfl) (he2 : starEach [.Name x p2] X.env = [(false, eval (.Name x p2) X.env)] := by rfl) (hpl : (backTo pos (starEach [.Name x p2] X.env)).any (·.1) = false := by rfl) :
    PE X (.Call (.Name "isinstance" p) [e, .Name x p2] [] pos) (tE C (mIsE bs m)) :=
  (pe_callB call_isH hg hm (by decide +kernel) (pa_cons h (pa_cons (pe_bltn (v := .ty T) hgx hx hv rfl hn hdb) pa_nil (by rw [he2]; rfl)) (by rw [he, he2])) (by decide) (by decide) (by rw [he, he2]) hpl).weak fun σ H Q q =>
    isE_run hK (fun u (r : u = Value.type T) => r) hT q
/-- e.f -/
def mAttr (cs : List Nat) (f : Str) (a : ME) : ME := fun σ st => (a σ st).bind fun x s1 => match x with
  | .ref n => match s1[n]? with
    | some (.err c fs) => if c ∈ cs then (match fs.lookup f with
      | some y => .ok y s1
      | none => .no) else .no
    | _ => .no
  | _ => .no
theorem zip_look {K : PySem.W.Frag} {ρ : List Addr} {H : Hp} {f : Str} {y : PV} : ∀ {fs : List (Str × PV)} {vs : List V}, VRs K ρ H (fs.map (·.2)) vs → fs.lookup f = some y → ∃ v, List.lookup f ((fs.map (·.1)).zip vs) = some v ∧ VR K ρ H y v
  | [], _, _, h => by cases h
  | (g, z) :: fs, vs, r, h => by
    rw [List.map_cons, VRs.cons_iff] at r
    obtain ⟨v, ws, rfl, r1, r2⟩ := r
    rw [List.lookup_cons] at h
    rw [List.map_cons, List.zip_cons_cons, List.lookup_cons]
    by_cases hq : (f == g) = true
    · rw [hq] at h ⊢
      cases h
      exact ⟨v, rfl, r1⟩
    · simp only [Bool.not_eq_true] at hq
      rw [hq] at h ⊢
      exact zip_look r2 h
theorem e_attr {cs : List Nat} {f : Str} {e : Expr} {m : ME} {pos : Pos} (hT : ∀ c ∈ cs, XfC X.K (C.G.cl c) ∧ PySem.W.findIn X.K (.ref (C.G.cl c)) f = some none) (h : PE X e (tE C m)) (hb : attributeBase e f X.env (eval e X.env) = eval e X.env := by rfl) :
    PE X (.Attribute e f pos) (tE C (mAttr cs f m)) := by
  refine ⟨fun pins s σ H Q I ⟨ρ, st, σh, S, R, p⟩ => ?_⟩
  refine attr_of hb (thn (h.run pins s σ H (fun x H1 => ∃ a Ca d fs v, x = .ref a ∧ H1 a = some (errO a Ca d) ∧ H1 d = some (.xd fs) ∧ XfC X.K Ca ∧ PySem.W.findIn X.K (.ref Ca) f = some none ∧ List.lookup f fs = some v ∧ Q v H1) I ⟨ρ, st, σh, S, R, (Post.bind p).imp fun ρ1 H1 x s1 _ u1 S1 ⟨s1', S1', p1⟩ v hv => ?_⟩) fun u s1 hh => ?_)
  · cases x with
    | ref n =>
      dsimp only at p1
      cases e : s1'[n]? with
      | none => rw [e] at p1; exact p1.elim
      | some cell =>
        rw [e] at p1
        cases cell with
        | err c fs =>
          dsimp only at p1
          by_cases hc : c ∈ cs
          · rw [if_pos hc] at p1
            cases ey : fs.lookup f with
            | none => rw [ey] at p1; exact p1.elim
            | some y =>
              rw [ey] at p1
              rw [VR.ref_iff] at hv
              obtain ⟨a, rfl, ha⟩ := hv
              obtain ⟨d, vs, g1, g2, g3⟩ := S1'.cel n _ a e ha
              obtain ⟨v, l, rv⟩ := zip_look g3 ey
              exact ⟨a, C.G.cl c, d, _, v, rfl, g1, g2, (hT c hc).1, (hT c hc).2, l, p1 ρ1 H1 Up.refl S1' _ rv⟩
          · rw [if_neg hc] at p1; exact p1.elim
        | _ => exact p1.elim
    | _ => exact p1.elim
  · obtain ⟨x, H1, I1, rx, a, Ca, d, fs, v, rfl, h1, h2, T, hno, l, q⟩ := hh
    obtain rfl : u = Value.ref a := rx
    obtain ⟨oe, od, mA, J, hl, hr⟩ := held_inst I1 h1 h2
    obtain ⟨u, hu, ru⟩ := RelO.some_of (v := v) (o := mA f) (by rw [← l]; exact hr f)
    exact HandSPX.exc_get I1.kIn J T.ga T.gg T.exC (PySem.W.findObj_own T.hdC hno rfl (by rw [hl, hu])) (handed_of ru) ⟨v, H1, I1.tok _, ru, q⟩
@[simp] theorem mIsE_ap {bs : List (Nat × Bool)} {a : ME} {σ : Slots} {st : Store} : mIsE bs a σ st = (a σ st).bind fun x s1 => match x with
  | .ref n => match s1[n]? with
    | some (.err c _) => match bs.lookup c with
      | some b => .ok (.bl b) s1
      | none => .no
    | _ => .no
  | _ => .no := rfl
@[simp] theorem mAttr_ap {cs : List Nat} {f : Str} {a : ME} {σ : Slots} {st : Store} : mAttr cs f a σ st = (a σ st).bind fun x s1 => match x with
  | .ref n => match s1[n]? with
    | some (.err c fs) => if c ∈ cs then (match fs.lookup f with
      | some y => .ok y s1
      | none => .no) else .no
    | _ => .no
  | _ => .no := rfl
end
end Sm

namespace Sm
open PySem PySem.Spec PyProof.Rows L2
/-! ### texts: split, partition, times; a written tuple's index; d.get(k) -/
theorem vrs_strs {K : PySem.W.Frag} {ρ : List Addr} {H : Hp} : ∀ {ys : List Str}, VRs K ρ H (ys.map PV.str) (ys.map V.str)
  | [] => VRs.nil_iff.mpr rfl
  | y :: ys => VRs.cons_iff.mpr ⟨_, _, rfl, VR.str_iff.mpr rfl, vrs_strs⟩
def splitF : PV → List PV → Store → Res PV := fun x xs st => match x, xs with
  | .str a, [.str b] => if (b.length == 0) = false ∧ a.length + 2 ≤ sizeLine then newL ((Txt.split a b).map .str) st else .no
  | _, _ => .no
def partF : PV → List PV → Store → Res PV := fun x xs st => match x, xs with
  | .str a, [.str b] => if (b.length == 0) = false ∧ a.length ≤ sizeLine then .ok (.tup [.str (Txt.partition a b).1, .str (Txt.partition a b).2.1, .str (Txt.partition a b).2.2]) st else .no
  | _, _ => .no
section
variable {X : Cx} {C : Wc} {G : Gc}
theorem m_split : MtR X "str.split" (rBM G splitF) := by
  intro pins s σ H v vs u us Q I rx rv ⟨ρ, st, x, xs, S, hx, hxs, r, st', e, k⟩
  unfold splitF at e
  split at e
  · split at e
    · rename_i hc
      rw [VR.str_iff] at hx
      obtain ⟨w, rfl, hw⟩ := hxs.one
      rw [VR.str_iff] at hw
      subst hx hw
      exact mt_split pins s σ H _ _ u us Q I rx rv ⟨_, _, rfl, rfl, hc.1, hc.2, (S.newL vrs_strs e k).2⟩
    · cases e
  · cases e
theorem m_part : MtR X "str.partition" (rBM G partF) := by
  intro pins s σ H v vs u us Q I rx rv ⟨ρ, st, x, xs, S, hx, hxs, r, st', e, k⟩
  unfold partF at e
  split at e
  · split at e
    · rename_i hc
      cases e
      rw [VR.str_iff] at hx
      obtain ⟨w, rfl, hw⟩ := hxs.one
      rw [VR.str_iff] at hw
      subst hx hw
      refine mt_partition pins s σ H _ _ u us Q I rx rv ⟨_, _, rfl, rfl, hc.1, hc.2, fun p hp => k ρ _ _ (up_new hp) (S.new hp) (VR.mk_tup hp ?_)⟩
      exact VRs.cons_iff.mpr ⟨_, _, rfl, VR.str_iff.mpr rfl, VRs.cons_iff.mpr ⟨_, _, rfl, VR.str_iff.mpr rfl, VRs.cons_iff.mpr ⟨_, _, rfl, VR.str_iff.mpr rfl, VRs.nil_iff.mpr rfl⟩⟩⟩
    · cases e
  · cases e
/-- text times number, more than one -/
def mulT : M2 := fun x y st => match x, y with
  | .str a, .int n => if 1 < n ∧ n < 2 ^ 63 ∧ a.length ≠ 0 ∧ ¬ ((a.length : Int) > (2 ^ 63 - 1) / n) ∧ a.length * n.toNat ≤ sizeLine ∧ Str.length ⟨List.foldl (fun x1 x2 => x1 ++ x2) #[] (List.replicate n.toNat a.cps)⟩ ≤ sizeLine then .ok (.str ⟨List.foldl (fun x1 x2 => x1 ++ x2) #[] (List.replicate n.toNat a.cps)⟩) st else .no
  | _, _ => .no
theorem calm_mulT : Calm2 mulT := fun x y st c fs st' e => by unfold mulT at e; split at e <;> (try split at e) <;> cases e
theorem op_mulT : OpR X (binaryOp .Mult) (rS G mulT) := by
  intro pins s σ H x y v u Q I rx ry ⟨ρ, st, xh, yh, S, hx, hy, r, st', e, k⟩
  unfold mulT at e
  split at e
  · rename_i a n
    split at e
    · rename_i hc
      obtain ⟨h1, h2, h3, h4, h5, h6⟩ := hc
      cases e
      rw [VR.str_iff] at hx
      rw [VR.int_iff] at hy
      subst hx hy
      obtain ⟨t, rfl⟩ := rx
      obtain ⟨t2, rfl⟩ := ry
      have n1 : ¬ n < 1 := by omega
      have n2 : (n == 1 || a.length == 0) = false := by
        rw [Bool.or_eq_false_iff]
        exact ⟨by rw [beq_eq_false_iff_ne]; omega, by rw [beq_eq_false_iff_ne]; exact h3⟩
      refine PySem.P.mul_str ?_ (fun _ _ => h4) (fun _ _ => ?_) ?_
      · rw [Bool.or_eq_false_iff]
        exact ⟨decide_eq_false (by omega), decide_eq_false (by omega)⟩
      · exact decide_eq_false (by omega)
      · rw [if_neg n1, n2]
        rw [if_neg Bool.false_ne_true]
        rw [PySem.Made.post]
        exact ⟨h6, ⟨.str _, H, I.tok _, ⟨_, rfl⟩, k ρ H _ Up.refl S (VR.str_iff.mpr rfl)⟩⟩
    · cases e
  · cases e
/-- d.get(k) -/
def mGet1 (a b : ME) : ME := fun σ st => (a σ st).bind fun x s1 => match x with
  | .ref n => match getK s1 n with
    | some _ => (b σ s1).bind fun y s2 => match dgetF x y .non s2 with
      | .ok r s4 => .ok r s4
      | _ => .no
    | none => .no
  | _ => .no
theorem e_dget1 {o e : Expr} {m mk : ME} {apos cpos : Pos} (hK : X.K = C.K) (hu : X.A.units + 1 < cLine) (ho : PE X o (tE C m)) (he : PE X e (tE C mk)) (mm : L2.M1 X o "get" apos e cpos) : PE X (.Call (.Attribute o "get" apos) [e] [] cpos) (tE C (mGet1 m mk)) :=
  (pe_dget1 hu ho he mm).weak fun σ H Q ⟨ρ, st, σh, S, R, p⟩ => ⟨ρ, st, σh, S, R, (Post.bind p).imp fun ρ1 H1 x s1 _ u1 S1 ⟨s1', S1', p1⟩ v hv => by
    cases x with
    | ref n =>
      dsimp only at p1
      cases hg : getK s1' n with
      | none => rw [hg] at p1; exact p1.elim
      | some kvs =>
        rw [hg] at p1
        rw [VR.ref_iff] at hv
        obtain ⟨a, rfl, ha⟩ := hv
        obtain ⟨b, vs, h1, h2, h3⟩ := S1'.getK (getK_some hg)
        rw [ha] at h1; cases h1
        refine ⟨a, rfl, .inl ⟨_, .inl h2⟩, ρ1, s1', σh, S1', R.up u1, (Post.bind p1).imp fun ρ2 H2 y s2 _ u2 S2 ⟨s3', S3', p3⟩ w hw3 => ?_⟩
        have ha3 := u2.r _ _ ha
        unfold dgetF at p3
        cases hk : keyP y with
        | none => rw [hk] at p3; exact p3.elim
        | some kk =>
          rw [hk] at p3
          dsimp only at p3
          cases hg3 : getK s3' n with
          | none => rw [hg3] at p3; exact p3.elim
          | some kvs3 =>
            rw [hg3] at p3
            dsimp only at p3
            obtain ⟨b3, vs3, g1, g2, g3⟩ := S3'.getK (getK_some hg3)
            rw [ha3] at g1; cases g1
            have hkey := keyP_ok hw3 hk
            subst hkey
            cases hv : valP kvs3 kk with
            | none =>
              rw [hv] at p3
              exact ⟨none, (zip_val g3).2 hv ▸ DGet.k g2, p3 ρ2 H2 Up.refl S3' _ (VR.non_iff.mpr rfl)⟩
            | some zz =>
              rw [hv] at p3
              obtain ⟨v', e1, r1⟩ := (zip_val g3).1 zz hv
              exact ⟨some v', e1 ▸ DGet.k g2, p3 ρ2 H2 Up.refl S3' _ r1⟩
    | _ => exact p1.elim⟩
/-- a written tuple of texts: its index -/
def KTn (K : PySem.W.Frag) (mg : Str → Option Value) (x : Str) (vs : List V) : Prop := ∃ (a : Addr) (us : Array Value) (n : Nat) (sl : Array (Option Value)), mg x = some (.ref a) ∧ K.lookup a = some ⟨.type "tuple", none, .seq us n, sl⟩ ∧ us.size ≤ sizeLine ∧ Vals vs us.toList
def mKidx (ys : List Str) (b : ME) : ME := fun σ st => (b σ st).bind fun y s1 => match y with
  | .str z => match ys.findIdx? (fun x => decide (x = z)) with
    | some j => .ok (.int j) s1
    | none => .no
  | _ => .no
theorem e_kidx {x : Str} {ys : List Str} {e : Expr} {mk : ME} {p apos cpos : Pos} (T : KTn X.K X.mg x (ys.map V.str)) (he : PE X e (tE C mk)) (hg : Gl X x := by rfl) (hdb : (x == ("__debug__" : Str)) = false := by decide)
    (hbase : attributeBase (.Name x p) "index" X.env (eval (.Name x p) X.env) = eval (.Name x p) X.env := by rfl)
    (hfew : ((backTo cpos (starEach [e] X.env)).all (fun x => !x.1) && (backToKw cpos (keywordEach [] X.env)).all (fun x => x.1.isSome)
      && decide (([e] : List Expr).length + ([] : List Keyword).length + (if ([] : List Keyword).isEmpty then 0 else 1) < 30)) = true := by rfl)
    (hline : (apos.endLine == cpos.line) = true := by rfl) (hs : starEach [e] X.env = (false, eval e X.env) :: starEach [] X.env := by rfl) (hplain : (backTo cpos (starEach [] X.env)).any (·.1) = false := by rfl) :
    PE X (.Call (.Attribute (.Name x p) "index" apos) [e] [] cpos) (tE C (mKidx ys mk)) := by
  obtain ⟨a, us, n, sl, hm, hl, hz, hv⟩ := T
  refine (pe_bm PySem.F.plainAttrs_tuple PySem.F.slot_tuple_index PySem.F.type_tuple_index mt_tup_index (pe_glob (v := .ref a) hg hm rfl hdb) (pa_cons he pa_nil hs) hbase hfew hline hs hplain).weak fun σ H Q ⟨ρ, st, σh, S, R, p⟩ => ?_
  refine ⟨.inr (.inl ⟨rfl, _, hl, rfl, rfl⟩), ρ, st, σh, S, R, (Post.bind p).imp fun ρ1 H1 y s1 _ u1 S1 ⟨s1', S1', p1⟩ w hw => ?_⟩
  cases y with
  | str z =>
    dsimp only at p1
    cases ej : ys.findIdx? (fun x => decide (x = z)) with
    | none => rw [ej] at p1; exact p1.elim
    | some j =>
      rw [ej] at p1
      rw [VR.str_iff] at hw
      subst hw
      obtain ⟨hj, h1, h2⟩ := List.findIdx?_eq_some_iff_getElem.mp ej
      refine ⟨a, ys, z, j, rfl, rfl, .inr ⟨_, us, n, hl, rfl, rfl, hz, hv⟩, ?_, fun m hm' q => ?_, p1 ρ1 H1 Up.refl S1' _ (VR.int_iff.mpr rfl)⟩
      · rw [List.getElem?_eq_getElem hj]
        simpa using h1
      · have := h2 m hm'
        rw [List.getElem?_eq_getElem (Nat.lt_trans hm' hj)] at q
        cases q
        simp at this
  | _ => exact p1.elim
end
section
variable {σ : Slots} {st : Store} {a b : ME} {ys : List Str}
@[simp] theorem mKidx_ap : mKidx ys b σ st = (b σ st).bind fun y s1 => match y with
  | .str z => match ys.findIdx? (fun x => decide (x = z)) with
    | some j => .ok (.int j) s1
    | none => .no
  | _ => .no := rfl
@[simp] theorem mGet1_ap : mGet1 a b σ st = (a σ st).bind fun x s1 => match x with
  | .ref n => match getK s1 n with
    | some _ => (b σ s1).bind fun y s2 => match dgetF x y .non s2 with
      | .ok r s4 => .ok r s4
      | _ => .no
    | none => .no
  | _ => .no := rfl
end
end Sm

namespace Sm
open PySem PySem.Spec PyProof.Rows L2
/-- the classes' addresses, by the names that the module has for them -/
def clsAt (K : PySem.W.Frag) (names : List Str) (n : Nat) : Addr := match PySem.W.nsIn K mainGlobals (names.getD n "") with
  | some (some (.ref a)) => a
  | _ => 0
theorem clsAt_of {K : PySem.W.Frag} {names : List Str} {n : Nat} {a : Addr} (h : PySem.W.nsIn K mainGlobals (names.getD n "") = some (some (.ref a))) : clsAt K names n = a := by unfold clsAt; rw [h]
theorem walkGc {l : PySem.W.OpenLaw} {n k : Nat} {q : Program} {loose : List Str} {XP : (Str → Option Value) → Heap → Prop} {YP : World → Heap → Prop} {d : DefRec} {K : Params → PySem.W.Frag} {fa : Params → Nat → Addr} {clo : Params → Nat → Addr → List V → List (Addr × Obj) → Prop} {g : MC} {x : Str} (names : List Str)
    (most : l.most = some n) (few : n ≤ sizeLine) (nodef : d.params.defaults = []) (hr : Room k callerA)
    (own : ∀ (w : World) (h : Heap), YP w h → (K w.params).In h)
    (F : ∀ (w : World) (mg : Str → Option Value) (f : Addr) (h : Heap), (K w.params).In h → h.Ns mainGlobals mg → mg d.name = some (.ref f) → ∃ fd : FuncData,
      (∀ (s : Shared) (u : Value), BindsTo s fd ⟨[u], []⟩ [(x, u)]) ∧ ∀ base : Heap, (K w.params).In base → base.Ns mainGlobals mg → FnG l.prog w (K w.params) mg base CX0 k f fd [x] (spS ⟨K w.params, clsAt (K w.params) names, l.prog, w, fa w.params, clo w.params⟩ 1 g))
    (good : ∀ zs : List Int, zs.length ≤ n → (∀ z ∈ zs, Builtin.Int.intBits z ≤ 1048576) → Meets g zs) :
    PySem.W.WalkO q loose XP YP l.row.toRowW d [] (fun f vs => PySem.call f vs) :=
  walkG (cl := fun p => clsAt (K p) names) (fa := fa) (clo := clo) most few nodef hr own F good
/-- an error of the class at S is what «except B» names -/
theorem exm_of {K : PySem.W.Frag} {S B : Addr} (h1 : PySem.W.subIn K (.ref B) (.type "BaseException") = some true) (h2 : PySem.W.isClsIn K B = true) (h3 : PySem.W.typeIn K (.ref B) = some (.type "type")) (h4 : PySem.W.subIn K (.ref S) (.ref B) = some true) :
    PySem.W.exmOne K (.ref S) (.ref B) = some true := by
  have e1 : (PySem.W.subIn K (.ref B) (.type "BaseException") == some true) = true := by rw [h1] <;> rfl
  have e2 : ((PySem.W.clsIn K B).isSome && PySem.W.typeIn K (.ref B) == some (.type "type")) = true := by
    have h2' : (PySem.W.clsIn K B).isSome = true := h2
    rw [h2', h3] <;> rfl
  show (if (PySem.W.subIn K (.ref B) (.type "BaseException") == some true) = true then (if ((PySem.W.clsIn K B).isSome && PySem.W.typeIn K (.ref B) == some (.type "type")) = true then PySem.W.subIn K (.ref S) (.ref B) else none) else none) = some true
  rw [if_pos e1, if_pos e2]
  exact h4
section
variable {X : Cx} {C : Wc}
theorem t_din {a b : Expr} {ma mb : ME} {pos : Pos} (hu : X.A.units + 1 < cLine) (ha : PE X a (tE C ma)) (hb : PE X b (tE C mb)) (hm : lastMarks [.In] [b] = false := by rfl) : PT X (.Compare a [.In] [b] pos) (tT C (mTest (mOp (dinF false) ma mb))) :=
  (pt_cmp (pc_din hu ha hb) hm).weak fun _ _ _ h => test_run (fun _ _ _ q => din_run (neg := false) q) h
theorem t_dnotin {a b : Expr} {ma mb : ME} {pos : Pos} (hu : X.A.units + 1 < cLine) (ha : PE X a (tE C ma)) (hb : PE X b (tE C mb)) (hm : lastMarks [.NotIn] [b] = false := by rfl) : PT X (.Compare a [.NotIn] [b] pos) (tT C (mTest (mOp (dinF true) ma mb))) :=
  (pt_cmp (pc_dnotin hu ha hb) hm).weak fun _ _ _ h => test_run (fun _ _ _ q => din_run (neg := true) q) h
end
end Sm

namespace K01
open PySem PySem.Spec PyProof.Rows L2 Sm
/-! ### the text -/
def topS (i : Nat) : Stmt := PySem.Challenge.pw_spillsheet_k01_names_of_cells_and_areas.main.body.getD i (.Pass ⟨0, 0, 0, 0⟩)
abbrev s_f_is_integer_between : Stmt := topS 5
abbrev N_f_is_integer_between : List Str := ["value", "least", "most"]
abbrev p_f_is_integer_between : List Str := ["value", "least", "most"]
theorem sc_f_is_integer_between : FnScope N_f_is_integer_between p_f_is_integer_between (defScope s_f_is_integer_between) := ⟨rfl, rfl, rfl, by decide +kernel, rfl, by decide +kernel, by decide +kernel⟩
def m_f_is_integer_between : MS := (mRet (mAndV (mIsi .int (mVar 0)) (mAndV (mNotV (mIsi .bl (mVar 0))) (mChain leF leF (mVar 1) (mVar 0) (mVar 2)))))
def g_f_is_integer_between : MC := gOf N_f_is_integer_between m_f_is_integer_between
abbrev s_f_is_index : Stmt := topS 11
abbrev N_f_is_index : List Str := ["value"]
abbrev p_f_is_index : List Str := ["value"]
theorem sc_f_is_index : FnScope N_f_is_index p_f_is_index (defScope s_f_is_index) := ⟨rfl, rfl, rfl, by decide +kernel, rfl, by decide +kernel, by decide +kernel⟩
def m_f_is_index : MS := (mRet (mFn 3 g_f_is_integer_between (mCons (mVar 0) (mCons (mC (.int 0)) (mCons (mOp subF (mC (.int (12))) (mC (.int 1))) mNil)))))
def g_f_is_index : MC := gOf N_f_is_index m_f_is_index
abbrev s_f_is_area : Stmt := topS 12
abbrev N_f_is_area : List Str := ["value", "part", "top", "left", "bottom", "right"]
abbrev p_f_is_area : List Str := ["value"]
theorem sc_f_is_area : FnScope N_f_is_area p_f_is_area (defScope s_f_is_area) := ⟨rfl, rfl, rfl, by decide +kernel, rfl, by decide +kernel, by decide +kernel⟩
def m_f_is_area : MS := (mSeq (mIfS (mOrT (mNotT (mTru (mIsi .tup (mVar 0)))) (mOrT (mTest (mOp (eqF true) (mCall lenF (mCons (mVar 0) mNil)) (mC (.int 4)))) (mNotT (mTru (mCall allF (mCons (mLc (mItT (mVar 0)) (gNm 1) mYes (mFn 1 g_f_is_index (mCons (mVar 1) mNil)) [1]) mNil)))))) (mRet (mC (.bl false))) mNext)
    (mSeq (mAsg (mVar 0) (gTp 4 (gCons (gNm 2) (gCons (gNm 3) (gCons (gNm 4) (gCons (gNm 5) gNil))))))
    (mRet (mAndV (mOp leF (mVar 2) (mVar 4)) (mOp leF (mVar 3) (mVar 5))))))
def g_f_is_area : MC := gOf N_f_is_area m_f_is_area
abbrev s_f_cell_name : Stmt := topS 13
abbrev N_f_cell_name : List Str := ["cell", "row", "column"]
abbrev p_f_cell_name : List Str := ["cell"]
theorem sc_f_cell_name : FnScope N_f_cell_name p_f_cell_name (defScope s_f_cell_name) := ⟨rfl, rfl, rfl, by decide +kernel, rfl, by decide +kernel, by decide +kernel⟩
def m_f_cell_name : MS := (mSeq (mAsg (mVar 0) (gTp 2 (gCons (gNm 1) (gCons (gNm 2) gNil))))
    (mRet (mOp addF (mOp ixF (mC (.str (Str.ofString "ABCDEFGHIJKLMNOPQRSTUVWXYZ"))) (mVar 2)) (mCall strIF (mCons (mOp addF (mVar 1) (mC (.int 1))) mNil)))))
def g_f_cell_name : MC := gOf N_f_cell_name m_f_cell_name
abbrev s_f_cell_or_none : Stmt := topS 17
abbrev N_f_cell_or_none : List Str := ["text"]
abbrev p_f_cell_or_none : List Str := ["text"]
theorem sc_f_cell_or_none : FnScope N_f_cell_or_none p_f_cell_or_none (defScope s_f_cell_or_none) := ⟨rfl, rfl, rfl, by decide +kernel, rfl, by decide +kernel, by decide +kernel⟩
def m_f_cell_or_none : MS := (mSeq (mIfS (mOrT (mNotT (mTru (mIsi .str (mVar 0)))) (mOrT (mTest (mOp (inF true) (mSl (mVar 0) none (some (mC (.int 1)))) (mC (.tup [.str (Str.ofString "A"), .str (Str.ofString "B"), .str (Str.ofString "C"), .str (Str.ofString "D"), .str (Str.ofString "E"), .str (Str.ofString "F"), .str (Str.ofString "G"), .str (Str.ofString "H"), .str (Str.ofString "I"), .str (Str.ofString "J"), .str (Str.ofString "K"), .str (Str.ofString "L")])))) (mTest (mOp (inF true) (mSl (mVar 0) (some (mC (.int 1))) none) (mC (.tup [.str (Str.ofString "1"), .str (Str.ofString "2"), .str (Str.ofString "3"), .str (Str.ofString "4"), .str (Str.ofString "5"), .str (Str.ofString "6"), .str (Str.ofString "7"), .str (Str.ofString "8"), .str (Str.ofString "9"), .str (Str.ofString "10"), .str (Str.ofString "11"), .str (Str.ofString "12")])))))) (mRet (mC .non)) mNext)
    (mRet (mTup (mCons (mKidx [Str.ofString "1", Str.ofString "2", Str.ofString "3", Str.ofString "4", Str.ofString "5", Str.ofString "6", Str.ofString "7", Str.ofString "8", Str.ofString "9", Str.ofString "10", Str.ofString "11", Str.ofString "12"] (mSl (mVar 0) (some (mC (.int 1))) none)) (mCons (mKidx [Str.ofString "A", Str.ofString "B", Str.ofString "C", Str.ofString "D", Str.ofString "E", Str.ofString "F", Str.ofString "G", Str.ofString "H", Str.ofString "I", Str.ofString "J", Str.ofString "K", Str.ofString "L"] (mSl (mVar 0) none (some (mC (.int 1))))) mNil)))))
def g_f_cell_or_none : MC := gOf N_f_cell_or_none m_f_cell_or_none
abbrev s_f_parse_cell : Stmt := topS 14
abbrev N_f_parse_cell : List Str := ["text", "cell"]
abbrev p_f_parse_cell : List Str := ["text"]
theorem sc_f_parse_cell : FnScope N_f_parse_cell p_f_parse_cell (defScope s_f_parse_cell) := ⟨rfl, rfl, rfl, by decide +kernel, rfl, by decide +kernel, by decide +kernel⟩
def m_f_parse_cell : MS := (mSeq (mAsg (mFn 1 g_f_cell_or_none (mCons (mVar 0) mNil)) (gNm 1))
    (mSeq (mIfS (mTest (mOp (isNF false) (mVar 1) (mC .non))) (mRaise 0 (Str.ofString "text") (mVar 0)) mNext)
    (mRet (mVar 1))))
def g_f_parse_cell : MC := gOf N_f_parse_cell m_f_parse_cell
abbrev s_f_area_name : Stmt := topS 15
abbrev N_f_area_name : List Str := ["area", "top", "left", "bottom", "right"]
abbrev p_f_area_name : List Str := ["area"]
theorem sc_f_area_name : FnScope N_f_area_name p_f_area_name (defScope s_f_area_name) := ⟨rfl, rfl, rfl, by decide +kernel, rfl, by decide +kernel, by decide +kernel⟩
def m_f_area_name : MS := (mSeq (mAsg (mVar 0) (gTp 4 (gCons (gNm 1) (gCons (gNm 2) (gCons (gNm 3) (gCons (gNm 4) gNil))))))
    (mRet (mOp addF (mOp addF (mFn 1 g_f_cell_name (mCons (mTup (mCons (mVar 1) (mCons (mVar 2) mNil))) mNil)) (mC (.str (Str.ofString ":")))) (mFn 1 g_f_cell_name (mCons (mTup (mCons (mVar 3) (mCons (mVar 4) mNil))) mNil)))))
def g_f_area_name : MC := gOf N_f_area_name m_f_area_name
abbrev s_f_area_or_none : Stmt := topS 18
abbrev N_f_area_or_none : List Str := ["text", "first", "_", "second", "start", "end", "area"]
abbrev p_f_area_or_none : List Str := ["text"]
theorem sc_f_area_or_none : FnScope N_f_area_or_none p_f_area_or_none (defScope s_f_area_or_none) := ⟨rfl, rfl, rfl, by decide +kernel, rfl, by decide +kernel, by decide +kernel⟩
def m_f_area_or_none : MS := (mSeq (mIfS (mNotT (mTru (mIsi .str (mVar 0)))) (mRet (mC .non)) mNext)
    (mSeq (mAsg (mBM .str partF (mVar 0) (mCons (mC (.str (Str.ofString ":"))) mNil)) (gTp 3 (gCons (gNm 1) (gCons (gNm 2) (gCons (gNm 3) gNil)))))
    (mSeq (mAsg (mFn 1 g_f_cell_or_none (mCons (mVar 1) mNil)) (gNm 4))
    (mSeq (mAsg (mFn 1 g_f_cell_or_none (mCons (mVar 3) mNil)) (gNm 5))
    (mSeq (mIfS (mOrT (mTest (mOp (isNF false) (mVar 4) (mC .non))) (mTest (mOp (isNF false) (mVar 5) (mC .non)))) (mRet (mC .non)) mNext)
    (mSeq (mAsg (mOp addF (mVar 4) (mVar 5)) (gNm 6))
    (mSeq (mIfS (mNotT (mTru (mFn 1 g_f_is_area (mCons (mVar 6) mNil)))) (mRet (mC .non)) mNext)
    (mRet (mVar 6)))))))))
def g_f_area_or_none : MC := gOf N_f_area_or_none m_f_area_or_none
abbrev s_f_parse_area : Stmt := topS 16
abbrev N_f_parse_area : List Str := ["text", "area"]
abbrev p_f_parse_area : List Str := ["text"]
theorem sc_f_parse_area : FnScope N_f_parse_area p_f_parse_area (defScope s_f_parse_area) := ⟨rfl, rfl, rfl, by decide +kernel, rfl, by decide +kernel, by decide +kernel⟩
def m_f_parse_area : MS := (mSeq (mAsg (mFn 1 g_f_area_or_none (mCons (mVar 0) mNil)) (gNm 1))
    (mSeq (mIfS (mTest (mOp (isNF false) (mVar 1) (mC .non))) (mRaise 0 (Str.ofString "text") (mVar 0)) mNext)
    (mRet (mVar 1))))
def g_f_parse_area : MC := gOf N_f_parse_area m_f_parse_area
abbrev s_f_law_stream : Stmt := topS 20
abbrev N_f_law_stream : List Str := ["script", "start", "seed", "number", "digits"]
abbrev p_f_law_stream : List Str := ["script", "start"]
theorem sc_f_law_stream : FnScope N_f_law_stream p_f_law_stream (defScope s_f_law_stream) := ⟨rfl, rfl, rfl, by decide +kernel, rfl, by decide +kernel, by decide +kernel⟩
abbrev s_f_law_draw : Stmt := topS 21
abbrev N_f_law_draw : List Str := ["stream", "size", "found"]
abbrev p_f_law_draw : List Str := ["stream", "size"]
theorem sc_f_law_draw : FnScope N_f_law_draw p_f_law_draw (defScope s_f_law_draw) := ⟨rfl, rfl, rfl, by decide +kernel, rfl, by decide +kernel, by decide +kernel⟩
abbrev s_f_law_choose : Stmt := topS 22
abbrev N_f_law_choose : List Str := ["stream", "items"]
abbrev p_f_law_choose : List Str := ["stream", "items"]
theorem sc_f_law_choose : FnScope N_f_law_choose p_f_law_choose (defScope s_f_law_choose) := ⟨rfl, rfl, rfl, by decide +kernel, rfl, by decide +kernel, by decide +kernel⟩
abbrev s_f_law_name : Stmt := topS 23
abbrev N_f_law_name : List Str := ["cell"]
abbrev p_f_law_name : List Str := ["cell"]
theorem sc_f_law_name : FnScope N_f_law_name p_f_law_name (defScope s_f_law_name) := ⟨rfl, rfl, rfl, by decide +kernel, rfl, by decide +kernel, by decide +kernel⟩
def m_f_law_name : MS := (mRet (mOp addF (mOp ixF (mC (.str (Str.ofString "ABCDEFGHIJKL"))) (mOp ixF (mVar 0) (mC (.int 1)))) (mCall strIF (mCons (mOp addF (mOp ixF (mVar 0) (mC (.int 0))) (mC (.int 1))) mNil))))
def g_f_law_name : MC := gOf N_f_law_name m_f_law_name
abbrev s_f_law_all_names : Stmt := topS 24
abbrev N_f_law_all_names : List Str := ["found", "row", "column"]
abbrev p_f_law_all_names : List Str := []
theorem sc_f_law_all_names : FnScope N_f_law_all_names p_f_law_all_names (defScope s_f_law_all_names) := ⟨rfl, rfl, rfl, by decide +kernel, rfl, by decide +kernel, by decide +kernel⟩
def L1_f_law_all_names : MS := (mDput (mVar 0) (mFn 1 g_f_law_name (mCons (mTup (mCons (mVar 1) (mCons (mVar 2) mNil))) mNil)) (mTup (mCons (mVar 1) (mCons (mVar 2) mNil))))
def L2_f_law_all_names : MS := (mFor (mItR1 (mCons (mC (.int 12)) mNil)) (gNm 2) L1_f_law_all_names)
def m_f_law_all_names : MS := (mSeq (mAsg mDnew (gNm 0))
    (mSeq (mFor (mItR1 (mCons (mC (.int 12)) mNil)) (gNm 1) L2_f_law_all_names)
    (mRet (mVar 0))))
def g_f_law_all_names : MC := gOf N_f_law_all_names m_f_law_all_names
abbrev s_f_law_area_due : Stmt := topS 25
abbrev N_f_law_area_due : List Str := ["value", "names", "parts", "first", "last"]
abbrev p_f_law_area_due : List Str := ["value", "names"]
theorem sc_f_law_area_due : FnScope N_f_law_area_due p_f_law_area_due (defScope s_f_law_area_due) := ⟨rfl, rfl, rfl, by decide +kernel, rfl, by decide +kernel, by decide +kernel⟩
def m_f_law_area_due : MS := (mSeq (mIfS (mNotT (mTru (mIsi .str (mVar 0)))) (mRet (mC .non)) mNext)
    (mSeq (mAsg (mBM .str splitF (mVar 0) (mCons (mC (.str (Str.ofString ":"))) mNil)) (gNm 2))
    (mSeq (mIfS (mOrT (mTest (mOp (eqF true) (mCall lenF (mCons (mVar 2) mNil)) (mC (.int 2)))) (mOrT (mTest (mOp (dinF true) (mOp ixF (mVar 2) (mC (.int 0))) (mVar 1))) (mTest (mOp (dinF true) (mOp ixF (mVar 2) (mC (.int 1))) (mVar 1))))) (mRet (mC .non)) mNext)
    (mSeq (mPar 3 4 (mCons (mOp dixF (mVar 1) (mOp ixF (mVar 2) (mC (.int 0)))) (mCons (mOp dixF (mVar 1) (mOp ixF (mVar 2) (mC (.int 1)))) mNil)))
    (mSeq (mIfS (mOrT (mTest (mOp gtF (mOp ixF (mVar 3) (mC (.int 0))) (mOp ixF (mVar 4) (mC (.int 0))))) (mTest (mOp gtF (mOp ixF (mVar 3) (mC (.int 1))) (mOp ixF (mVar 4) (mC (.int 1)))))) (mRet (mC .non)) mNext)
    (mRet (mOp addF (mVar 3) (mVar 4))))))))
def g_f_law_area_due : MC := gOf N_f_law_area_due m_f_law_area_due
abbrev s_f_law_result : Stmt := topS 26
abbrev N_f_law_result : List Str := ["kind", "value", "caught", "found", "e"]
abbrev p_f_law_result : List Str := ["kind", "value"]
theorem sc_f_law_result : FnScope N_f_law_result p_f_law_result (defScope s_f_law_result) := ⟨rfl, rfl, rfl, by decide +kernel, rfl, by decide +kernel, by decide +kernel⟩
def m_f_law_result : MS := (mSeq (mAsg (mC .non) (gNm 2))
    (mSeq (mAsg (mC .non) (gNm 3))
    (mSeq (mTry (mIfS (mTest (mOp (eqF false) (mVar 0) (mC (.str (Str.ofString "cell"))))) (mAsg (mFnE 1 g_f_parse_cell (mCons (mVar 1) mNil)) (gNm 3)) (mAsg (mFnE 1 g_f_parse_area (mCons (mVar 1) mNil)) (gNm 3))) [0] 4 2)
    (mSeq (mIfS (mTest (mOp (isNF false) (mVar 2) (mC .non))) (mRet (mTup (mCons (mC (.str (Str.ofString "found"))) (mCons (mVar 3) mNil)))) mNext)
    (mSeq (mIfS (mOrT (mNotT (mTru (mIsE [(0, true)] (mVar 2)))) (mOrT (mNotT (mTru (mIsE [(0, true)] (mVar 2)))) (mTru (mIsE [(0, false)] (mVar 2))))) (mRet (mTup (mCons (mC (.str (Str.ofString "wrong error"))) (mCons (mC .non) mNil)))) mNext)
    (mRet (mTup (mCons (mC (.str (Str.ofString "error"))) (mCons (mAttr [0] (Str.ofString "text") (mVar 2)) mNil)))))))))
def g_f_law_result : MC := gOf N_f_law_result m_f_law_result
abbrev s_f_law_parsed_right : Stmt := topS 27
abbrev N_f_law_parsed_right : List Str := ["value", "names", "kept", "due", "kind", "expected", "wanted"]
abbrev p_f_law_parsed_right : List Str := ["value", "names"]
theorem sc_f_law_parsed_right : FnScope N_f_law_parsed_right p_f_law_parsed_right (defScope s_f_law_parsed_right) := ⟨rfl, rfl, rfl, by decide +kernel, rfl, by decide +kernel, by decide +kernel⟩
def L1_f_law_parsed_right : MS := (mSeq (mAsg (mTup (mCons (mC (.str (Str.ofString "found"))) (mCons (mVar 5) mNil))) (gNm 6))
    (mSeq (mIfS (mTest (mOp (isNF false) (mVar 5) (mC .non))) (mAsg (mTup (mCons (mC (.str (Str.ofString "error"))) (mCons (mVar 0) mNil))) (gNm 6)) mNext)
    (mIfS (mTest (mOp (eqF true) (mCall reprX (mCons (mFn 2 g_f_law_result (mCons (mVar 4) (mCons (mVar 0) mNil))) mNil)) (mCall reprX (mCons (mVar 6) mNil)))) (mRet (mC (.bl false))) mNext)))
def m_f_law_parsed_right : MS := (mSeq (mAsg (mCall reprX (mCons (mVar 0) mNil)) (gNm 2))
    (mSeq (mAsg (mC .non) (gNm 3))
    (mSeq (mIfS (mTru (mIsi .str (mVar 0))) (mAsg (mGet1 (mVar 1) (mVar 0)) (gNm 3)) mNext)
    (mSeq (mFor (mItL (mLst (mCons (mTup (mCons (mC (.str (Str.ofString "cell"))) (mCons (mVar 3) mNil))) (mCons (mTup (mCons (mC (.str (Str.ofString "area"))) (mCons (mFn 2 g_f_law_area_due (mCons (mVar 0) (mCons (mVar 1) mNil))) mNil))) mNil)))) (gTp 2 (gCons (gNm 4) (gCons (gNm 5) gNil))) L1_f_law_parsed_right)
    (mRet (mOp (eqF false) (mCall reprX (mCons (mVar 0) mNil)) (mVar 2)))))))
def g_f_law_parsed_right : MC := gOf N_f_law_parsed_right m_f_law_parsed_right
abbrev s_f_law_bent : Stmt := topS 28
abbrev N_f_law_bent : List Str := ["stream", "text", "at", "sign", "way"]
abbrev p_f_law_bent : List Str := ["stream", "text"]
theorem sc_f_law_bent : FnScope N_f_law_bent p_f_law_bent (defScope s_f_law_bent) := ⟨rfl, rfl, rfl, by decide +kernel, rfl, by decide +kernel, by decide +kernel⟩
def m_f_law_bent : MS := (mSeq (mAsg (mFn 2 Lw.g_f_law_draw (mCons (mVar 0) (mCons (mOp addF (mCall lenF (mCons (mVar 1) mNil)) (mC (.int 1))) mNil))) (gNm 2))
    (mSeq (mAsg (mFn 2 Lw.g_f_law_choose (mCons (mVar 0) (mCons (mLst (mCons (mC (.str (Str.ofString "A"))) (mCons (mC (.str (Str.ofString "L"))) (mCons (mC (.str (Str.ofString "M"))) (mCons (mC (.str (Str.ofString "a"))) (mCons (mC (.str (Str.ofString "Z"))) (mCons (mC (.str (Str.ofString "0"))) (mCons (mC (.str (Str.ofString "1"))) (mCons (mC (.str (Str.ofString "2"))) (mCons (mC (.str (Str.ofString "3"))) (mCons (mC (.str (Str.ofString "9"))) (mCons (mC (.str (Str.ofString ":"))) (mCons (mC (.str (Str.ofString " "))) (mCons (mC (.str (Str.ofString "#"))) (mCons (mC (.str (Str.ofString "-"))) (mCons (mC (.str (Str.ofString "_"))) (mCons (mC (.str (Str.ofString "$"))) (mCons (mC (.str (Str.ofString "+"))) mNil)))))))))))))))))) mNil))) (gNm 3))
    (mSeq (mAsg (mFn 2 Lw.g_f_law_draw (mCons (mVar 0) (mCons (mC (.int 4)) mNil))) (gNm 4))
    (mSeq (mIfS (mTest (mOp (eqF false) (mVar 4) (mC (.int 0)))) (mRet (mOp addF (mOp addF (mSl (mVar 1) none (some (mVar 2))) (mVar 3)) (mSl (mVar 1) (some (mVar 2)) none))) mNext)
    (mSeq (mIfS (mTest (mOp (eqF false) (mVar 4) (mC (.int 1)))) (mRet (mOp addF (mSl (mVar 1) none (some (mVar 2))) (mSl (mVar 1) (some (mOp addF (mVar 2) (mC (.int 1)))) none))) mNext)
    (mSeq (mIfS (mTest (mOp (eqF false) (mVar 4) (mC (.int 2)))) (mRet (mOp addF (mOp addF (mSl (mVar 1) none (some (mVar 2))) (mVar 3)) (mSl (mVar 1) (some (mOp addF (mVar 2) (mC (.int 1)))) none))) mNext)
    (mRet (mOp addF (mSl (mVar 1) none (some (mOp addF (mVar 2) (mC (.int 1))))) (mSl (mVar 1) (some (mVar 2)) none)))))))))
def g_f_law_bent : MC := gOf N_f_law_bent m_f_law_bent
abbrev s_f_law : Stmt := topS 29
abbrev N_f_law : List Str := ["script", "names", "start", "stream", "turn", "top", "left", "area", "name", "texts", "text", "long_ones", "value"]
abbrev p_f_law : List Str := ["script"]
theorem sc_f_law : FnScope N_f_law p_f_law (defScope s_f_law) := ⟨rfl, rfl, rfl, by decide +kernel, rfl, by decide +kernel, by decide +kernel⟩
def L1_f_law : MS := (mSeq (mPar 5 6 (mCons (mFn 2 Lw.g_f_law_choose (mCons (mVar 3) (mCons (mLst (mCons (mC (.int 0)) (mCons (mC (.int 11)) (mCons (mFn 2 Lw.g_f_law_draw (mCons (mVar 3) (mCons (mC (.int 12)) mNil))) mNil)))) mNil))) (mCons (mFn 2 Lw.g_f_law_draw (mCons (mVar 3) (mCons (mC (.int 12)) mNil))) mNil)))
    (mSeq (mAsg (mTup (mCons (mVar 5) (mCons (mVar 6) (mCons (mOp addF (mVar 5) (mFn 2 Lw.g_f_law_draw (mCons (mVar 3) (mCons (mOp subF (mC (.int 12)) (mVar 5)) mNil)))) (mCons (mOp addF (mVar 6) (mFn 2 Lw.g_f_law_draw (mCons (mVar 3) (mCons (mOp subF (mC (.int 12)) (mVar 6)) mNil)))) mNil))))) (gNm 7))
    (mSeq (mAsg (mOp addF (mOp addF (mFn 1 g_f_law_name (mCons (mSl (mVar 7) none (some (mC (.int 2)))) mNil)) (mC (.str (Str.ofString ":")))) (mFn 1 g_f_law_name (mCons (mSl (mVar 7) (some (mC (.int 2))) none) mNil))) (gNm 8))
    (mSeq (mIfS (mOrT (mTest (mOp (eqF true) (mFn 1 g_f_cell_name (mCons (mTup (mCons (mVar 5) (mCons (mVar 6) mNil))) mNil)) (mFn 1 g_f_law_name (mCons (mTup (mCons (mVar 5) (mCons (mVar 6) mNil))) mNil)))) (mTest (mOp (eqF true) (mFn 1 g_f_area_name (mCons (mVar 7) mNil)) (mVar 8)))) (mRet (mC (.bl false))) mNext)
    (mSeq (mAsg (mLst (mCons (mVar 8) (mCons (mFn 1 g_f_law_name (mCons (mTup (mCons (mVar 5) (mCons (mVar 6) mNil))) mNil)) (mCons (mFn 2 g_f_law_bent (mCons (mVar 3) (mCons (mVar 8) mNil))) (mCons (mFn 2 g_f_law_bent (mCons (mVar 3) (mCons (mFn 1 g_f_law_name (mCons (mTup (mCons (mVar 5) (mCons (mVar 6) mNil))) mNil)) mNil))) mNil))))) (gNm 9))
    (mSeq (mAsg (mOp addF (mVar 9) (mLst (mCons (mFn 2 g_f_law_bent (mCons (mVar 3) (mCons (mOp ixF (mVar 9) (mC (.int 2))) mNil))) (mCons (mOp addF (mOp addF (mFn 1 g_f_law_name (mCons (mSl (mVar 7) (some (mC (.int 2))) none) mNil)) (mC (.str (Str.ofString ":")))) (mFn 1 g_f_law_name (mCons (mSl (mVar 7) none (some (mC (.int 2)))) mNil))) (mCons (mC (.str (Str.ofString "A01"))) (mCons (mC (.str (Str.ofString "AA1"))) mNil)))))) (gNm 9))
    (mIfS (mTest (mOp (eqF true) (mLc (mItL (mVar 9)) (gNm 10) (mNotT (mTru (mFn 2 g_f_law_parsed_right (mCons (mVar 10) (mCons (mVar 1) mNil))))) (mVar 10) [10]) (mLst mNil))) (mRet (mC (.bl false))) mNext)))))))
def L2_f_law : MS := (mSeq (mAsg (mFn 2 Lw.g_f_law_stream (mCons (mVar 0) (mCons (mVar 2) mNil))) (gNm 3))
    (mFor (mItR1 (mCons (mC (.int 6)) mNil)) (gNm 4) L1_f_law))
def L3_f_law : MS := (mIfS (mNotT (mTru (mFn 2 g_f_law_parsed_right (mCons (mVar 12) (mCons (mVar 1) mNil))))) (mRet (mC (.bl false))) mNext)
def L4_f_law : MS := (mIfS (mNotT (mTru (mFn 2 g_f_law_parsed_right (mCons (mVar 12) (mCons (mVar 1) mNil))))) (mRet (mC (.bl false))) mNext)
def m_f_law : MS := (mSeq (mAsg (mFn 0 g_f_law_all_names mNil) (gNm 1))
    (mSeq (mFor (mItR1 (mCons (mCall maxF (mCons (mC (.int 2)) (mCons (mCall minF (mCons (mC (.int 6)) (mCons (mCall lenF (mCons (mVar 0) mNil)) mNil))) mNil))) mNil)) (gNm 2) L2_f_law)
    (mSeq (mAsg (mLst (mCons (mOp addF (mC (.str (Str.ofString "A"))) (mOp mulT (mC (.str (Str.ofString "1"))) (mC (.int 5000)))) (mCons (mOp addF (mC (.str (Str.ofString "A1:B"))) (mOp mulT (mC (.str (Str.ofString "2"))) (mC (.int 5000)))) (mCons (mOp mulT (mC (.str (Str.ofString "A"))) (mC (.int 5000))) mNil)))) (gNm 11))
    (mSeq (mFor (mItL (mOp addF (mLst (mCons (mC (.str (Str.ofString "A1\n"))) (mCons (mC (.str (Str.ofString "A1:B2\n"))) (mCons (mC (.str (Str.ofString "\nA1"))) (mCons (mC (.str (Str.ofString "A1:\nB2"))) (mCons (mC (.str (Str.ofString "A1\n:B2"))) (mCons (mC (.str (Str.ofString "A+1"))) (mCons (mC (.str (Str.ofString "A+1:B2"))) mNil)))))))) (mVar 11))) (gNm 12) L3_f_law)
    (mSeq (mFor (mItL (mLst (mCons (mC .non) (mCons (mC (.int 5)) (mCons (mC (.bl true)) (mCons (mC (.str (Str.ofString ""))) (mCons (mC (.str (Str.ofString ":"))) (mCons (mC (.str (Str.ofString "A"))) (mCons (mC (.str (Str.ofString "1"))) (mCons (mC (.str (Str.ofString "A0"))) (mCons (mC (.str (Str.ofString "A13"))) (mCons (mC (.str (Str.ofString "M1"))) (mCons (mTup (mCons (mC (.int 0)) (mCons (mC (.int 0)) mNil))) (mCons (mLst (mCons (mC (.str (Str.ofString "A1"))) mNil)) (mCons (mTup (mCons (mC (.int 0)) (mCons (mC (.int 0)) (mCons (mC (.int 1)) (mCons (mC (.int 1)) mNil))))) (mCons (mDict (((mC (.str (Str.ofString "A1"))), (mC (.int 1))) :: [])) mNil)))))))))))))))) (gNm 12) L4_f_law)
    (mRet (mC (.bl true))))))))
def g_f_law : MC := gOf N_f_law m_f_law
/-! ### what the top has written -/
abbrev kv_COLUMN_NAMES : List V := [.str (Str.ofString "A"), .str (Str.ofString "B"), .str (Str.ofString "C"), .str (Str.ofString "D"), .str (Str.ofString "E"), .str (Str.ofString "F"), .str (Str.ofString "G"), .str (Str.ofString "H"), .str (Str.ofString "I"), .str (Str.ofString "J"), .str (Str.ofString "K"), .str (Str.ofString "L")]
theorem kvs_COLUMN_NAMES {K : PySem.W.Frag} : ∀ ρ H, VRs K ρ H [.str (Str.ofString "A"), .str (Str.ofString "B"), .str (Str.ofString "C"), .str (Str.ofString "D"), .str (Str.ofString "E"), .str (Str.ofString "F"), .str (Str.ofString "G"), .str (Str.ofString "H"), .str (Str.ofString "I"), .str (Str.ofString "J"), .str (Str.ofString "K"), .str (Str.ofString "L")] kv_COLUMN_NAMES := fun ρ H => VRs.cons_iff.mpr ⟨_, _, rfl, VR.str_iff.mpr rfl, VRs.cons_iff.mpr ⟨_, _, rfl, VR.str_iff.mpr rfl, VRs.cons_iff.mpr ⟨_, _, rfl, VR.str_iff.mpr rfl, VRs.cons_iff.mpr ⟨_, _, rfl, VR.str_iff.mpr rfl, VRs.cons_iff.mpr ⟨_, _, rfl, VR.str_iff.mpr rfl, VRs.cons_iff.mpr ⟨_, _, rfl, VR.str_iff.mpr rfl, VRs.cons_iff.mpr ⟨_, _, rfl, VR.str_iff.mpr rfl, VRs.cons_iff.mpr ⟨_, _, rfl, VR.str_iff.mpr rfl, VRs.cons_iff.mpr ⟨_, _, rfl, VR.str_iff.mpr rfl, VRs.cons_iff.mpr ⟨_, _, rfl, VR.str_iff.mpr rfl, VRs.cons_iff.mpr ⟨_, _, rfl, VR.str_iff.mpr rfl, VRs.cons_iff.mpr ⟨_, _, rfl, VR.str_iff.mpr rfl, VRs.nil_iff.mpr rfl⟩⟩⟩⟩⟩⟩⟩⟩⟩⟩⟩⟩
abbrev kv_ROW_NAMES : List V := [.str (Str.ofString "1"), .str (Str.ofString "2"), .str (Str.ofString "3"), .str (Str.ofString "4"), .str (Str.ofString "5"), .str (Str.ofString "6"), .str (Str.ofString "7"), .str (Str.ofString "8"), .str (Str.ofString "9"), .str (Str.ofString "10"), .str (Str.ofString "11"), .str (Str.ofString "12")]
theorem kvs_ROW_NAMES {K : PySem.W.Frag} : ∀ ρ H, VRs K ρ H [.str (Str.ofString "1"), .str (Str.ofString "2"), .str (Str.ofString "3"), .str (Str.ofString "4"), .str (Str.ofString "5"), .str (Str.ofString "6"), .str (Str.ofString "7"), .str (Str.ofString "8"), .str (Str.ofString "9"), .str (Str.ofString "10"), .str (Str.ofString "11"), .str (Str.ofString "12")] kv_ROW_NAMES := fun ρ H => VRs.cons_iff.mpr ⟨_, _, rfl, VR.str_iff.mpr rfl, VRs.cons_iff.mpr ⟨_, _, rfl, VR.str_iff.mpr rfl, VRs.cons_iff.mpr ⟨_, _, rfl, VR.str_iff.mpr rfl, VRs.cons_iff.mpr ⟨_, _, rfl, VR.str_iff.mpr rfl, VRs.cons_iff.mpr ⟨_, _, rfl, VR.str_iff.mpr rfl, VRs.cons_iff.mpr ⟨_, _, rfl, VR.str_iff.mpr rfl, VRs.cons_iff.mpr ⟨_, _, rfl, VR.str_iff.mpr rfl, VRs.cons_iff.mpr ⟨_, _, rfl, VR.str_iff.mpr rfl, VRs.cons_iff.mpr ⟨_, _, rfl, VR.str_iff.mpr rfl, VRs.cons_iff.mpr ⟨_, _, rfl, VR.str_iff.mpr rfl, VRs.cons_iff.mpr ⟨_, _, rfl, VR.str_iff.mpr rfl, VRs.cons_iff.mpr ⟨_, _, rfl, VR.str_iff.mpr rfl, VRs.nil_iff.mpr rfl⟩⟩⟩⟩⟩⟩⟩⟩⟩⟩⟩⟩
def clsBody : Stmt → List Stmt
  | .ClassDef _ _ _ b _ _ _ _ _ _ _ => b
  | _ => []
abbrev si_BadAddress : Stmt := (clsBody (topS 2)).getD 0 (.Pass ⟨0, 0, 0, 0⟩)
theorem sci_BadAddress : FnScope ["self", "text"] ["self", "text"] (defScope si_BadAddress) := ⟨rfl, rfl, rfl, by decide +kernel, rfl, by decide +kernel, by decide +kernel⟩
structure Txt (K : PySem.W.Frag) (mg : Str → Option Value) (a : Nat → Addr) (fd : Nat → FuncData) (ec ei : Nat → Addr) (eb : Addr) (fi : Nat → FuncData) : Prop where
  g_f_is_integer_between : mg "is_integer_between" = some (.ref (a 0))
  F_f_is_integer_between : Fun K "is_integer_between" "is_integer_between" s_f_is_integer_between (a 0) (fd 0)
  b_f_is_integer_between : Binds K (fd 0) p_f_is_integer_between []
  g_f_is_index : mg "is_index" = some (.ref (a 1))
  F_f_is_index : Fun K "is_index" "is_index" s_f_is_index (a 1) (fd 1)
  b_f_is_index : Binds K (fd 1) p_f_is_index []
  g_f_is_area : mg "is_area" = some (.ref (a 2))
  F_f_is_area : Fun K "is_area" "is_area" s_f_is_area (a 2) (fd 2)
  b_f_is_area : Binds K (fd 2) p_f_is_area []
  g_f_cell_name : mg "cell_name" = some (.ref (a 3))
  F_f_cell_name : Fun K "cell_name" "cell_name" s_f_cell_name (a 3) (fd 3)
  b_f_cell_name : Binds K (fd 3) p_f_cell_name []
  g_f_cell_or_none : mg "cell_or_none" = some (.ref (a 4))
  F_f_cell_or_none : Fun K "cell_or_none" "cell_or_none" s_f_cell_or_none (a 4) (fd 4)
  b_f_cell_or_none : Binds K (fd 4) p_f_cell_or_none []
  g_f_parse_cell : mg "parse_cell" = some (.ref (a 5))
  F_f_parse_cell : Fun K "parse_cell" "parse_cell" s_f_parse_cell (a 5) (fd 5)
  b_f_parse_cell : Binds K (fd 5) p_f_parse_cell []
  g_f_area_name : mg "area_name" = some (.ref (a 6))
  F_f_area_name : Fun K "area_name" "area_name" s_f_area_name (a 6) (fd 6)
  b_f_area_name : Binds K (fd 6) p_f_area_name []
  g_f_area_or_none : mg "area_or_none" = some (.ref (a 7))
  F_f_area_or_none : Fun K "area_or_none" "area_or_none" s_f_area_or_none (a 7) (fd 7)
  b_f_area_or_none : Binds K (fd 7) p_f_area_or_none []
  g_f_parse_area : mg "parse_area" = some (.ref (a 8))
  F_f_parse_area : Fun K "parse_area" "parse_area" s_f_parse_area (a 8) (fd 8)
  b_f_parse_area : Binds K (fd 8) p_f_parse_area []
  g_f_law_stream : mg "_law_stream" = some (.ref (a 9))
  F_f_law_stream : Fun K "_law_stream" "_law_stream" s_f_law_stream (a 9) (fd 9)
  b_f_law_stream : Binds K (fd 9) p_f_law_stream []
  g_f_law_draw : mg "_law_draw" = some (.ref (a 10))
  F_f_law_draw : Fun K "_law_draw" "_law_draw" s_f_law_draw (a 10) (fd 10)
  b_f_law_draw : Binds K (fd 10) p_f_law_draw []
  g_f_law_choose : mg "_law_choose" = some (.ref (a 11))
  F_f_law_choose : Fun K "_law_choose" "_law_choose" s_f_law_choose (a 11) (fd 11)
  b_f_law_choose : Binds K (fd 11) p_f_law_choose []
  g_f_law_name : mg "_law_name" = some (.ref (a 12))
  F_f_law_name : Fun K "_law_name" "_law_name" s_f_law_name (a 12) (fd 12)
  b_f_law_name : Binds K (fd 12) p_f_law_name []
  g_f_law_all_names : mg "_law_all_names" = some (.ref (a 13))
  F_f_law_all_names : Fun K "_law_all_names" "_law_all_names" s_f_law_all_names (a 13) (fd 13)
  b_f_law_all_names : Binds K (fd 13) p_f_law_all_names []
  g_f_law_area_due : mg "_law_area_due" = some (.ref (a 14))
  F_f_law_area_due : Fun K "_law_area_due" "_law_area_due" s_f_law_area_due (a 14) (fd 14)
  b_f_law_area_due : Binds K (fd 14) p_f_law_area_due []
  g_f_law_result : mg "_law_result" = some (.ref (a 15))
  F_f_law_result : Fun K "_law_result" "_law_result" s_f_law_result (a 15) (fd 15)
  b_f_law_result : Binds K (fd 15) p_f_law_result []
  g_f_law_parsed_right : mg "_law_parsed_right" = some (.ref (a 16))
  F_f_law_parsed_right : Fun K "_law_parsed_right" "_law_parsed_right" s_f_law_parsed_right (a 16) (fd 16)
  b_f_law_parsed_right : Binds K (fd 16) p_f_law_parsed_right []
  g_f_law_bent : mg "_law_bent" = some (.ref (a 17))
  F_f_law_bent : Fun K "_law_bent" "_law_bent" s_f_law_bent (a 17) (fd 17)
  b_f_law_bent : Binds K (fd 17) p_f_law_bent []
  g_f_law : mg "law" = some (.ref (a 18))
  F_f_law : Fun K "law" "law" s_f_law (a 18) (fd 18)
  b_f_law : Binds K (fd 18) p_f_law []
  e_BadAddress : ErrC K mg "BadAddress" (ec 0) (ei 0) (Str.ofString "text")
  Fi_BadAddress : Fun K "__init__" "BadAddress.__init__" si_BadAddress (ei 0) (fi 0)
  bi_BadAddress : Binds K (fi 0) ["self", "text"] []
  bs : BaseC K mg "SheetError" eb
  xm : ∀ k ∈ [0], PySem.W.exmOne K (.ref (ec k)) (.ref eb) = some true
  is_BadAddress : ∀ q ∈ ([(0, true)] : List (Nat × Bool)), ErrI K (ec q.1) ∧ PySem.W.kitOne K (.ref (ec q.1)) (.ref (ec 0)) = some q.2
  cg_BadAddress : mg "BadAddress" = some (.ref (ec 0))
  is_BadFormula : ∀ q ∈ ([(0, false)] : List (Nat × Bool)), ErrI K (ec q.1) ∧ PySem.W.kitOne K (.ref (ec q.1)) (.ref (ec 1)) = some q.2
  cg_BadFormula : mg "BadFormula" = some (.ref (ec 1))
  is_ValueError : ∀ q ∈ ([(0, true)] : List (Nat × Bool)), ErrI K (ec q.1) ∧ PySem.W.kitOne K (.ref (ec q.1)) (.type "ValueError") = some q.2
  at_text : ∀ c ∈ ([0] : List Nat), XfC K (ec c) ∧ PySem.W.findIn K (.ref (ec c)) (Str.ofString "text") = some none
  kn_COLUMN_NAMES : KTn K mg "COLUMN_NAMES" ([Str.ofString "A", Str.ofString "B", Str.ofString "C", Str.ofString "D", Str.ofString "E", Str.ofString "F", Str.ofString "G", Str.ofString "H", Str.ofString "I", Str.ofString "J", Str.ofString "K", Str.ofString "L"].map V.str)
  kn_ROW_NAMES : KTn K mg "ROW_NAMES" ([Str.ofString "1", Str.ofString "2", Str.ofString "3", Str.ofString "4", Str.ofString "5", Str.ofString "6", Str.ofString "7", Str.ofString "8", Str.ofString "9", Str.ofString "10", Str.ofString "11", Str.ofString "12"].map V.str)
  z_ValueError : mg "ValueError" = none
  z_all : mg "all" = none
  z_bool : mg "bool" = none
  z_int : mg "int" = none
  z_isinstance : mg "isinstance" = none
  z_len : mg "len" = none
  z_max : mg "max" = none
  z_min : mg "min" = none
  z_range : mg "range" = none
  z_repr : mg "repr" = none
  z_str : mg "str" = none
  z_tuple : mg "tuple" = none
  kc_GRID_SIZE : ∃ t, mg "GRID_SIZE" = some (.int (12) t)
  kc_LETTERS : ∃ t, mg "LETTERS" = some (.str (Str.ofString "ABCDEFGHIJKLMNOPQRSTUVWXYZ") t)
  kc_COLUMN_NAMES : KT K mg "COLUMN_NAMES" kv_COLUMN_NAMES
  kc_ROW_NAMES : KT K mg "ROW_NAMES" kv_ROW_NAMES
section
variable {P : Program} {w : World} {K : PySem.W.Frag} {mg : Str → Option Value} {base : Heap} {a : Nat → Addr} {fd : Nat → FuncData} {ec ei : Nat → Addr} {eb : Addr} {fi : Nat → FuncData}
theorem ok_init_BadAddress (T : Txt K mg a fd ec ei eb fi) : FnOk P w K mg base CX0 1 (ei 0) (fi 0) ["self", "text"] (spI (ec 0) (Str.ofString "text")) := by
  refine T.Fi_BadAddress.ok sci_BadAddress (fun vs H Q E ⟨_, _, z, _⟩ => by rw [z]; rfl) fun cdv A outer s H vs Q E hr hsp => ?_
  obtain ⟨ad, v, rfl, h1, h2⟩ := hsp
  refine ⟨_, pss_cons (ps_expr (pe_baseinit T.bs rfl (pa_cons (pe_var (i := 0) rfl (Or.inl rfl)) (pa_cons pe_str pa_nil)))) (pss_one (ps_ost (pe_var (i := 0) rfl (Or.inl rfl)) (pe_var (i := 1) rfl (Or.inl rfl)))), ?_⟩
  exact ⟨_, rfl, _, _, _, rfl, by decide, T.e_BadAddress.ox, h1, _, rfl, _, rfl, ad, _, rfl, T.e_BadAddress.ox, T.e_BadAddress.noN, Or.inl ⟨h1, fun dx hd hn => h2 dx hd hn⟩⟩
theorem ok_f_is_integer_between (T : Txt K mg a fd ec ei eb fi) : FnG P w K mg base CX0 1 (a 0) (fd 0) p_f_is_integer_between (spS ⟨K, ec, P, w, fun _ => 0, fun _ _ _ _ => False⟩ 3 g_f_is_integer_between) := by
  refine fn_ok (G := ⟨K, ec, P, w, fun _ => 0, fun _ _ _ _ => False⟩) (m := m_f_is_integer_between) T.F_f_is_integer_between sc_f_is_integer_between fun cdv A outer s H E hG hr => ?_
  unfold m_f_is_integer_between
  exact (ss_one (s_ret (e_and (e_isi .int rfl T.z_isinstance T.z_int (by decide +kernel) (e_var 0)) (e_and (e_not (e_isi .bl rfl T.z_isinstance T.z_bool (by decide +kernel) (e_var 0))) (e_one (e_chain calm_ord calm_ord op_leS op_leS (e_var 1) (e_var 0) (e_var 2)))))))
theorem ok_f_is_index (T : Txt K mg a fd ec ei eb fi) : FnG P w K mg base CX0 2 (a 1) (fd 1) p_f_is_index (spS ⟨K, ec, P, w, fun _ => 0, fun _ _ _ _ => False⟩ 1 g_f_is_index) := by
  have C_f_is_integer_between : FnG P w K mg base CX0 1 (a 0) (fd 0) p_f_is_integer_between (spS ⟨K, ec, P, w, fun _ => 0, fun _ _ _ _ => False⟩ 3 g_f_is_integer_between) := ok_f_is_integer_between T
  refine fn_ok (G := ⟨K, ec, P, w, fun _ => 0, fun _ _ _ _ => False⟩) (m := m_f_is_index) T.F_f_is_index sc_f_is_index fun cdv A outer s H E hG hr => ?_
  unfold m_f_is_index
  exact (ss_one (s_ret (e_call C_f_is_integer_between hG (hr.mono (by decide)) T.g_f_is_integer_between T.F_f_is_integer_between.kp T.b_f_is_integer_between (a_cons (e_var 0) (a_cons e_int (a_cons (e_op calm_sub op_subS (e_ki T.kc_GRID_SIZE) e_int) a_nil))))))
theorem ok_f_is_area (T : Txt K mg a fd ec ei eb fi) : FnG P w K mg base CX0 3 (a 2) (fd 2) p_f_is_area (spS ⟨K, ec, P, w, fun _ => 0, fun _ _ _ _ => False⟩ 1 g_f_is_area) := by
  have C_f_is_index : FnG P w K mg base CX0 2 (a 1) (fd 1) p_f_is_index (spS ⟨K, ec, P, w, fun _ => 0, fun _ _ _ _ => False⟩ 1 g_f_is_index) := ok_f_is_index T
  refine fn_ok (G := ⟨K, ec, P, w, fun _ => 0, fun _ _ _ _ => False⟩) (m := m_f_is_area) T.F_f_is_area sc_f_is_area fun cdv A outer s H E hG hr => ?_
  unfold m_f_is_area
  exact (ss_cons (s_if (t_w (w_or (t_not (t_tru rfl (e_isi .tup rfl T.z_isinstance T.z_tuple (by decide +kernel) (e_var 0)))) (w_or (t_cmp calm_eq (op_neS rfl hr.units) (e_cb (c_len rfl) T.z_len (by decide +kernel) (a_cons (e_var 0) a_nil)) e_int (nomark _)) (w_or1 (t_not (t_tru rfl (e_cb (c_all rfl rfl) T.z_all (by decide +kernel) (a_cons (e_lc (own := [("part", 1)]) (fun _ _ _ h => tYes_of h) rfl sc_f_is_area.nd (i_tup rfl (e_var 0)) (blkOk_by (own := [("part", 1)]) (N := N_f_is_area) (sc := defScope s_f_is_area) (by decide +kernel)) (fun _ _ _ _ _ => (g_name (vs := [1]) sc_f_is_area.nd rfl (by decide))) (fun _ _ _ _ _ => pts_nil) (fun _ _ _ _ _ => (e_call C_f_is_index hG (hr.mono (by decide)) T.g_f_is_index T.F_f_is_index.kp T.b_f_is_index (a_cons (e_var 1) a_nil)))) a_nil)))))))) (ss_one (s_ret e_bl)) ss_nil)
      (ss_cons (s_asg (e_var 0) (g_tup rfl rfl (gs_cons (g_name (vs := [2, 3, 4, 5]) sc_f_is_area.nd rfl (by decide)) (gs_cons (g_name (vs := [2, 3, 4, 5]) sc_f_is_area.nd rfl (by decide)) (gs_cons (g_name (vs := [2, 3, 4, 5]) sc_f_is_area.nd rfl (by decide)) (gs_cons (g_name (vs := [2, 3, 4, 5]) sc_f_is_area.nd rfl (by decide)) gs_nil))))))
      (ss_one (s_ret (e_and (e_cmp calm_ord op_leS (e_var 2) (e_var 4) (nomark _)) (e_one (e_cmp calm_ord op_leS (e_var 3) (e_var 5) (nomark _))))))))
theorem ok_f_cell_name (T : Txt K mg a fd ec ei eb fi) : FnG P w K mg base CX0 1 (a 3) (fd 3) p_f_cell_name (spS ⟨K, ec, P, w, fun _ => 0, fun _ _ _ _ => False⟩ 1 g_f_cell_name) := by
  refine fn_ok (G := ⟨K, ec, P, w, fun _ => 0, fun _ _ _ _ => False⟩) (m := m_f_cell_name) T.F_f_cell_name sc_f_cell_name fun cdv A outer s H E hG hr => ?_
  unfold m_f_cell_name
  exact (ss_cons (s_asg (e_var 0) (g_tup rfl rfl (gs_cons (g_name (vs := [1, 2]) sc_f_cell_name.nd rfl (by decide)) (gs_cons (g_name (vs := [1, 2]) sc_f_cell_name.nd rfl (by decide)) gs_nil))))
      (ss_one (s_ret (e_op calm_add (op_addS rfl) (e_ix rfl (e_ks T.kc_LETTERS) (e_var 2)) (e_ct c_strI T.z_str (by decide +kernel) (a_cons (e_op calm_add (op_addS rfl) (e_var 1) e_int) a_nil))))))
theorem ok_f_cell_or_none (T : Txt K mg a fd ec ei eb fi) : FnG P w K mg base CX0 1 (a 4) (fd 4) p_f_cell_or_none (spS ⟨K, ec, P, w, fun _ => 0, fun _ _ _ _ => False⟩ 1 g_f_cell_or_none) := by
  refine fn_ok (G := ⟨K, ec, P, w, fun _ => 0, fun _ _ _ _ => False⟩) (m := m_f_cell_or_none) T.F_f_cell_or_none sc_f_cell_or_none fun cdv A outer s H E hG hr => ?_
  unfold m_f_cell_or_none
  exact (ss_cons (s_if (t_w (w_or (t_not (t_tru rfl (e_isi .str rfl T.z_isinstance T.z_str (by decide +kernel) (e_var 0)))) (w_or (t_cmp calm_in (op_notInS rfl (room65 hr)) (e_slice rfl (e_var 0) o_none (o_some e_int)) (e_kt rfl T.kc_COLUMN_NAMES kvs_COLUMN_NAMES) rfl) (w_or1 (t_cmp calm_in (op_notInS rfl (room65 hr)) (e_slice rfl (e_var 0) (o_some e_int) o_none) (e_kt rfl T.kc_ROW_NAMES kvs_ROW_NAMES) rfl))))) (ss_one (s_ret e_non)) ss_nil)
      (ss_one (s_ret (e_tup (a_cons (e_kidx (ys := [Str.ofString "1", Str.ofString "2", Str.ofString "3", Str.ofString "4", Str.ofString "5", Str.ofString "6", Str.ofString "7", Str.ofString "8", Str.ofString "9", Str.ofString "10", Str.ofString "11", Str.ofString "12"]) T.kn_ROW_NAMES (e_slice rfl (e_var 0) (o_some e_int) o_none)) (a_cons (e_kidx (ys := [Str.ofString "A", Str.ofString "B", Str.ofString "C", Str.ofString "D", Str.ofString "E", Str.ofString "F", Str.ofString "G", Str.ofString "H", Str.ofString "I", Str.ofString "J", Str.ofString "K", Str.ofString "L"]) T.kn_COLUMN_NAMES (e_slice rfl (e_var 0) o_none (o_some e_int))) a_nil))))))
theorem ok_f_parse_cell (T : Txt K mg a fd ec ei eb fi) : FnG P w K mg base (L2.CX P w) 3 (a 5) (fd 5) p_f_parse_cell (spE ⟨K, ec, P, w, fun _ => 0, fun _ _ _ _ => False⟩ 1 g_f_parse_cell) := by
  have C_f_cell_or_none : FnG P w K mg base CX0 1 (a 4) (fd 4) p_f_cell_or_none (spS ⟨K, ec, P, w, fun _ => 0, fun _ _ _ _ => False⟩ 1 g_f_cell_or_none) := ok_f_cell_or_none T
  refine fn_okE (G := ⟨K, ec, P, w, fun _ => 0, fun _ _ _ _ => False⟩) (m := m_f_parse_cell) T.F_f_parse_cell sc_f_parse_cell fun cdv A outer s H E hG hr tk => ?_
  unfold m_f_parse_cell
  exact (ss_cons (s_asg (e_call C_f_cell_or_none hG (hr.mono (by decide)) T.g_f_cell_or_none T.F_f_cell_or_none.kp T.b_f_cell_or_none (a_cons (e_var 0) a_nil)) (g_name (vs := [1]) sc_f_parse_cell.nd rfl (by decide)))
      (ss_cons (s_if (t_cmp calm_isN op_isNS (e_var 1) e_non (nomark _)) (ss_one (s_raise (c := 0) rfl tk rfl T.e_BadAddress (ok_init_BadAddress T) (hr.mono (by decide)) T.bi_BadAddress (e_var 0))) ss_nil)
      (ss_one (s_ret (e_var 1)))))
theorem ok_f_area_name (T : Txt K mg a fd ec ei eb fi) : FnG P w K mg base CX0 2 (a 6) (fd 6) p_f_area_name (spS ⟨K, ec, P, w, fun _ => 0, fun _ _ _ _ => False⟩ 1 g_f_area_name) := by
  have C_f_cell_name : FnG P w K mg base CX0 1 (a 3) (fd 3) p_f_cell_name (spS ⟨K, ec, P, w, fun _ => 0, fun _ _ _ _ => False⟩ 1 g_f_cell_name) := ok_f_cell_name T
  refine fn_ok (G := ⟨K, ec, P, w, fun _ => 0, fun _ _ _ _ => False⟩) (m := m_f_area_name) T.F_f_area_name sc_f_area_name fun cdv A outer s H E hG hr => ?_
  unfold m_f_area_name
  exact (ss_cons (s_asg (e_var 0) (g_tup rfl rfl (gs_cons (g_name (vs := [1, 2, 3, 4]) sc_f_area_name.nd rfl (by decide)) (gs_cons (g_name (vs := [1, 2, 3, 4]) sc_f_area_name.nd rfl (by decide)) (gs_cons (g_name (vs := [1, 2, 3, 4]) sc_f_area_name.nd rfl (by decide)) (gs_cons (g_name (vs := [1, 2, 3, 4]) sc_f_area_name.nd rfl (by decide)) gs_nil))))))
      (ss_one (s_ret (e_op calm_add (op_addS rfl) (e_op calm_add (op_addS rfl) (e_call C_f_cell_name hG (hr.mono (by decide)) T.g_f_cell_name T.F_f_cell_name.kp T.b_f_cell_name (a_cons (e_tup (a_cons (e_var 1) (a_cons (e_var 2) a_nil))) a_nil)) e_str) (e_call C_f_cell_name hG (hr.mono (by decide)) T.g_f_cell_name T.F_f_cell_name.kp T.b_f_cell_name (a_cons (e_tup (a_cons (e_var 3) (a_cons (e_var 4) a_nil))) a_nil))))))
theorem ok_f_area_or_none (T : Txt K mg a fd ec ei eb fi) : FnG P w K mg base CX0 4 (a 7) (fd 7) p_f_area_or_none (spS ⟨K, ec, P, w, fun _ => 0, fun _ _ _ _ => False⟩ 1 g_f_area_or_none) := by
  have C_f_cell_or_none : FnG P w K mg base CX0 1 (a 4) (fd 4) p_f_cell_or_none (spS ⟨K, ec, P, w, fun _ => 0, fun _ _ _ _ => False⟩ 1 g_f_cell_or_none) := ok_f_cell_or_none T
  have C_f_is_area : FnG P w K mg base CX0 3 (a 2) (fd 2) p_f_is_area (spS ⟨K, ec, P, w, fun _ => 0, fun _ _ _ _ => False⟩ 1 g_f_is_area) := ok_f_is_area T
  refine fn_ok (G := ⟨K, ec, P, w, fun _ => 0, fun _ _ _ _ => False⟩) (m := m_f_area_or_none) T.F_f_area_or_none sc_f_area_or_none fun cdv A outer s H E hG hr => ?_
  unfold m_f_area_or_none
  exact (ss_cons (s_if (t_not (t_tru rfl (e_isi .str rfl T.z_isinstance T.z_str (by decide +kernel) (e_var 0)))) (ss_one (s_ret e_non)) ss_nil)
      (ss_cons (s_asg (e_bm (T := .str) rfl (.inr rfl) PySem.F.plainAttrs_str PySem.F.slot_str_partition PySem.F.type_str_partition m_part (e_var 0) (a_cons e_str a_nil)) (g_tup rfl rfl (gs_cons (g_name (vs := [1, 2, 3]) sc_f_area_or_none.nd rfl (by decide)) (gs_cons (g_name (vs := [1, 2, 3]) sc_f_area_or_none.nd rfl (by decide)) (gs_cons (g_name (vs := [1, 2, 3]) sc_f_area_or_none.nd rfl (by decide)) gs_nil)))))
      (ss_cons (s_asg (e_call C_f_cell_or_none hG (hr.mono (by decide)) T.g_f_cell_or_none T.F_f_cell_or_none.kp T.b_f_cell_or_none (a_cons (e_var 1) a_nil)) (g_name (vs := [4]) sc_f_area_or_none.nd rfl (by decide)))
      (ss_cons (s_asg (e_call C_f_cell_or_none hG (hr.mono (by decide)) T.g_f_cell_or_none T.F_f_cell_or_none.kp T.b_f_cell_or_none (a_cons (e_var 3) a_nil)) (g_name (vs := [5]) sc_f_area_or_none.nd rfl (by decide)))
      (ss_cons (s_if (t_w (w_or (t_cmp calm_isN op_isNS (e_var 4) e_non (nomark _)) (w_or1 (t_cmp calm_isN op_isNS (e_var 5) e_non (nomark _))))) (ss_one (s_ret e_non)) ss_nil)
      (ss_cons (s_asg (e_op calm_add (op_addS rfl) (e_var 4) (e_var 5)) (g_name (vs := [6]) sc_f_area_or_none.nd rfl (by decide)))
      (ss_cons (s_if (t_not (t_tru rfl (e_call C_f_is_area hG (hr.mono (by decide)) T.g_f_is_area T.F_f_is_area.kp T.b_f_is_area (a_cons (e_var 6) a_nil)))) (ss_one (s_ret e_non)) ss_nil)
      (ss_one (s_ret (e_var 6))))))))))
theorem ok_f_parse_area (T : Txt K mg a fd ec ei eb fi) : FnG P w K mg base (L2.CX P w) 5 (a 8) (fd 8) p_f_parse_area (spE ⟨K, ec, P, w, fun _ => 0, fun _ _ _ _ => False⟩ 1 g_f_parse_area) := by
  have C_f_area_or_none : FnG P w K mg base CX0 4 (a 7) (fd 7) p_f_area_or_none (spS ⟨K, ec, P, w, fun _ => 0, fun _ _ _ _ => False⟩ 1 g_f_area_or_none) := ok_f_area_or_none T
  refine fn_okE (G := ⟨K, ec, P, w, fun _ => 0, fun _ _ _ _ => False⟩) (m := m_f_parse_area) T.F_f_parse_area sc_f_parse_area fun cdv A outer s H E hG hr tk => ?_
  unfold m_f_parse_area
  exact (ss_cons (s_asg (e_call C_f_area_or_none hG (hr.mono (by decide)) T.g_f_area_or_none T.F_f_area_or_none.kp T.b_f_area_or_none (a_cons (e_var 0) a_nil)) (g_name (vs := [1]) sc_f_parse_area.nd rfl (by decide)))
      (ss_cons (s_if (t_cmp calm_isN op_isNS (e_var 1) e_non (nomark _)) (ss_one (s_raise (c := 0) rfl tk rfl T.e_BadAddress (ok_init_BadAddress T) (hr.mono (by decide)) T.bi_BadAddress (e_var 0))) ss_nil)
      (ss_one (s_ret (e_var 1)))))
theorem ok_f_law_stream (T : Txt K mg a fd ec ei eb fi) : FnG P w K mg base CX0 1 (a 9) (fd 9) p_f_law_stream (spS ⟨K, ec, P, w, fun _ => 0, fun _ _ _ _ => False⟩ 2 Lw.g_f_law_stream) := by
  refine fn_ok (G := ⟨K, ec, P, w, fun _ => 0, fun _ _ _ _ => False⟩) (m := Lw.m_f_law_stream) T.F_f_law_stream sc_f_law_stream fun cdv A outer s H E hG hr => ?_
  unfold Lw.m_f_law_stream Lw.L1_f_law_stream
  exact (ss_cons (s_asg (e_op calm_add (op_addS rfl) e_int (e_var 1)) (g_name (vs := [2]) sc_f_law_stream.nd rfl (by decide)))
      (ss_cons (s_for PassesOwn.never rfl (i_list rfl (e_var 0)) (g_name (vs := [3]) sc_f_law_stream.nd rfl (by decide)) (ss_one (s_asg (e_op calm_add (op_addS rfl) (e_op calm_mod op_modS (e_op calm_pow op_powS (e_op calm_add (op_addS rfl) (e_op calm_mul op_mulS (e_var 2) e_int) (e_var 3)) e_int) e_int) e_int) (g_name (vs := [2]) sc_f_law_stream.nd rfl (by decide)))))
      (ss_cons (s_asg e_int (g_name (vs := [4]) sc_f_law_stream.nd rfl (by decide)))
      (ss_cons (s_if (t_w (w_and (t_cmp calm_ord op_ltS (e_var 1) (e_cb (c_len rfl) T.z_len (by decide +kernel) (a_cons (e_var 0) a_nil)) (nomark _)) (w_and1 (t_cmp calm_ord op_geS (e_ix rfl (e_var 0) (e_var 1)) (e_op calm_pow op_powS e_int e_int) (nomark _))))) (ss_one (s_asg (e_op calm_sub op_subS (e_ix rfl (e_var 0) (e_var 1)) (e_op calm_pow op_powS e_int e_int)) (g_name (vs := [4]) sc_f_law_stream.nd rfl (by decide)))) ss_nil)
      (ss_one (s_ret (e_lst (a_cons (e_var 4) (a_cons (e_var 2) a_nil)))))))))
theorem ok_f_law_draw (T : Txt K mg a fd ec ei eb fi) : FnG P w K mg base CX0 1 (a 10) (fd 10) p_f_law_draw (spS ⟨K, ec, P, w, fun _ => 0, fun _ _ _ _ => False⟩ 2 Lw.g_f_law_draw) := by
  refine fn_ok (G := ⟨K, ec, P, w, fun _ => 0, fun _ _ _ _ => False⟩) (m := Lw.m_f_law_draw) T.F_f_law_draw sc_f_law_draw fun cdv A outer s H E hG hr => ?_
  unfold Lw.m_f_law_draw
  exact (ss_cons (s_if (t_cmp calm_ord op_geS (e_ix rfl (e_var 0) e_int) (e_var 1) (nomark _)) (ss_cons (s_asg (e_op calm_mod op_modS (e_ix rfl (e_var 0) e_int) (e_var 1)) (g_name (vs := [2]) sc_f_law_draw.nd rfl (by decide)))
      (ss_cons (s_asg (e_op calm_fdiv op_fdivS (e_ix rfl (e_var 0) e_int) (e_var 1)) (g_ix (vs := []) (e_var 0) e_int))
      (ss_one (s_ret (e_var 2))))) ss_nil)
      (ss_cons (s_asg (e_op calm_mod op_modS (e_op calm_add (op_addS rfl) (e_op calm_mul op_mulS (e_ix rfl (e_var 0) e_int) e_int) e_int) e_int) (g_ix (vs := []) (e_var 0) e_int))
      (ss_one (s_ret (e_op calm_mod op_modS (e_op calm_fdiv op_fdivS (e_op calm_mod op_modS (e_op calm_pow op_powS (e_op calm_mod op_modS (e_op calm_pow op_powS (e_ix rfl (e_var 0) e_int) e_int) e_int) e_int) e_int) e_int) (e_var 1))))))
theorem ok_f_law_choose (T : Txt K mg a fd ec ei eb fi) : FnG P w K mg base CX0 2 (a 11) (fd 11) p_f_law_choose (spS ⟨K, ec, P, w, fun _ => 0, fun _ _ _ _ => False⟩ 2 Lw.g_f_law_choose) := by
  have C_f_law_draw : FnG P w K mg base CX0 1 (a 10) (fd 10) p_f_law_draw (spS ⟨K, ec, P, w, fun _ => 0, fun _ _ _ _ => False⟩ 2 Lw.g_f_law_draw) := ok_f_law_draw T
  refine fn_ok (G := ⟨K, ec, P, w, fun _ => 0, fun _ _ _ _ => False⟩) (m := Lw.m_f_law_choose) T.F_f_law_choose sc_f_law_choose fun cdv A outer s H E hG hr => ?_
  unfold Lw.m_f_law_choose
  exact (ss_one (s_ret (e_ix rfl (e_var 1) (e_call C_f_law_draw hG (hr.mono (by decide)) T.g_f_law_draw T.F_f_law_draw.kp T.b_f_law_draw (a_cons (e_var 0) (a_cons (e_cb (c_len rfl) T.z_len (by decide +kernel) (a_cons (e_var 1) a_nil)) a_nil))))))
theorem ok_f_law_name (T : Txt K mg a fd ec ei eb fi) : FnG P w K mg base CX0 1 (a 12) (fd 12) p_f_law_name (spS ⟨K, ec, P, w, fun _ => 0, fun _ _ _ _ => False⟩ 1 g_f_law_name) := by
  refine fn_ok (G := ⟨K, ec, P, w, fun _ => 0, fun _ _ _ _ => False⟩) (m := m_f_law_name) T.F_f_law_name sc_f_law_name fun cdv A outer s H E hG hr => ?_
  unfold m_f_law_name
  exact (ss_one (s_ret (e_op calm_add (op_addS rfl) (e_ix rfl e_str (e_ix rfl (e_var 0) e_int)) (e_ct c_strI T.z_str (by decide +kernel) (a_cons (e_op calm_add (op_addS rfl) (e_ix rfl (e_var 0) e_int) e_int) a_nil)))))
theorem ok_f_law_all_names (T : Txt K mg a fd ec ei eb fi) : FnG P w K mg base CX0 2 (a 13) (fd 13) p_f_law_all_names (spS ⟨K, ec, P, w, fun _ => 0, fun _ _ _ _ => False⟩ 0 g_f_law_all_names) := by
  have C_f_law_name : FnG P w K mg base CX0 1 (a 12) (fd 12) p_f_law_name (spS ⟨K, ec, P, w, fun _ => 0, fun _ _ _ _ => False⟩ 1 g_f_law_name) := ok_f_law_name T
  refine fn_ok (G := ⟨K, ec, P, w, fun _ => 0, fun _ _ _ _ => False⟩) (m := m_f_law_all_names) T.F_f_law_all_names sc_f_law_all_names fun cdv A outer s H E hG hr => ?_
  unfold m_f_law_all_names L2_f_law_all_names L1_f_law_all_names
  exact (ss_cons (s_asg e_dnew (g_name (vs := [0]) sc_f_law_all_names.nd rfl (by decide)))
      (ss_cons (s_for PassesOwn.never rfl (i_range1 T.z_range (a_cons e_int a_nil)) (g_name (vs := [1]) sc_f_law_all_names.nd rfl (by decide)) (ss_one (s_for PassesOwn.never rfl (i_range1 T.z_range (a_cons e_int a_nil)) (g_name (vs := [2]) sc_f_law_all_names.nd rfl (by decide)) (ss_one (s_dput (hu1 hr) (e_var 0) (e_call C_f_law_name hG (hr.mono (by decide)) T.g_f_law_name T.F_f_law_name.kp T.b_f_law_name (a_cons (e_tup (a_cons (e_var 1) (a_cons (e_var 2) a_nil))) a_nil)) (e_tup (a_cons (e_var 1) (a_cons (e_var 2) a_nil))))))))
      (ss_one (s_ret (e_var 0)))))
theorem ok_f_law_area_due (T : Txt K mg a fd ec ei eb fi) : FnG P w K mg base CX0 1 (a 14) (fd 14) p_f_law_area_due (spS ⟨K, ec, P, w, fun _ => 0, fun _ _ _ _ => False⟩ 2 g_f_law_area_due) := by
  refine fn_ok (G := ⟨K, ec, P, w, fun _ => 0, fun _ _ _ _ => False⟩) (m := m_f_law_area_due) T.F_f_law_area_due sc_f_law_area_due fun cdv A outer s H E hG hr => ?_
  unfold m_f_law_area_due
  exact (ss_cons (s_if (t_not (t_tru rfl (e_isi .str rfl T.z_isinstance T.z_str (by decide +kernel) (e_var 0)))) (ss_one (s_ret e_non)) ss_nil)
      (ss_cons (s_asg (e_bm (T := .str) rfl (.inr rfl) PySem.F.plainAttrs_str PySem.F.slot_str_split PySem.F.type_str_split m_split (e_var 0) (a_cons e_str a_nil)) (g_name (vs := [2]) sc_f_law_area_due.nd rfl (by decide)))
      (ss_cons (s_if (t_w (w_or (t_cmp calm_eq (op_neS rfl hr.units) (e_cb (c_len rfl) T.z_len (by decide +kernel) (a_cons (e_var 2) a_nil)) e_int (nomark _)) (w_or (t_dnotin (hu1 hr) (e_ix rfl (e_var 2) e_int) (e_var 1)) (w_or1 (t_dnotin (hu1 hr) (e_ix rfl (e_var 2) e_int) (e_var 1)))))) (ss_one (s_ret e_non)) ss_nil)
      (ss_cons (s_par (i := 3) (j := 4) rfl sc_f_law_area_due.nd rfl rfl (by decide) rfl rfl (a_cons (e_dix rfl (hu1 hr) (e_var 1) (e_ix rfl (e_var 2) e_int)) (a_cons (e_dix rfl (hu1 hr) (e_var 1) (e_ix rfl (e_var 2) e_int)) a_nil)) rfl)
      (ss_cons (s_if (t_w (w_or (t_cmp calm_ord op_gtS (e_ix rfl (e_var 3) e_int) (e_ix rfl (e_var 4) e_int) (nomark _)) (w_or1 (t_cmp calm_ord op_gtS (e_ix rfl (e_var 3) e_int) (e_ix rfl (e_var 4) e_int) (nomark _))))) (ss_one (s_ret e_non)) ss_nil)
      (ss_one (s_ret (e_op calm_add (op_addS rfl) (e_var 3) (e_var 4)))))))))
theorem ok_f_law_result (T : Txt K mg a fd ec ei eb fi) : FnG P w K mg base CX0 6 (a 15) (fd 15) p_f_law_result (spS ⟨K, ec, P, w, fun _ => 0, fun _ _ _ _ => False⟩ 2 g_f_law_result) := by
  have C_f_parse_cell : FnG P w K mg base (L2.CX P w) 3 (a 5) (fd 5) p_f_parse_cell (spE ⟨K, ec, P, w, fun _ => 0, fun _ _ _ _ => False⟩ 1 g_f_parse_cell) := ok_f_parse_cell T
  have C_f_parse_area : FnG P w K mg base (L2.CX P w) 5 (a 8) (fd 8) p_f_parse_area (spE ⟨K, ec, P, w, fun _ => 0, fun _ _ _ _ => False⟩ 1 g_f_parse_area) := ok_f_parse_area T
  refine fn_ok (G := ⟨K, ec, P, w, fun _ => 0, fun _ _ _ _ => False⟩) (m := m_f_law_result) T.F_f_law_result sc_f_law_result fun cdv A outer s H E hG hr => ?_
  unfold m_f_law_result
  exact (ss_cons (s_asg e_non (g_name (vs := [2]) sc_f_law_result.nd rfl (by decide)))
      (ss_cons (s_asg e_non (g_name (vs := [3]) sc_f_law_result.nd rfl (by decide)))
      (ss_cons (s_try (c := .ref eb) (ok := [0]) (j := 4) (i := 2) rfl rfl rfl rfl sc_f_law_result.nd rfl rfl rfl (Or.inl rfl) (Or.inl rfl) ⟨rfl, by decide, Or.inl T.bs.g⟩ T.xm (fun W pn xe tk => (ss_one (s_if (t_cmp calm_eq (op_eqS rfl hr.units) (e_var 0) e_str (nomark _)) (ss_one (s_asg (e_callE C_f_parse_cell tk hG (hr.mono (by decide)) T.g_f_parse_cell T.F_f_parse_cell.kp T.b_f_parse_cell (a_cons (e_var 1) a_nil)) (g_name (vs := [3]) sc_f_law_result.nd rfl (by decide)))) (ss_one (s_asg (e_callE C_f_parse_area tk hG (hr.mono (by decide)) T.g_f_parse_area T.F_f_parse_area.kp T.b_f_parse_area (a_cons (e_var 1) a_nil)) (g_name (vs := [3]) sc_f_law_result.nd rfl (by decide))))))))
      (ss_cons (s_if (t_cmp calm_isN op_isNS (e_var 2) e_non (nomark _)) (ss_one (s_ret (e_tup (a_cons e_str (a_cons (e_var 3) a_nil))))) ss_nil)
      (ss_cons (s_if (t_w (w_or (t_not (t_tru rfl (e_isE (bs := [(0, true)]) rfl T.is_BadAddress T.z_isinstance T.cg_BadAddress (e_var 2)))) (w_or (t_not (t_tru rfl (e_isEB (bs := [(0, true)]) (T := "ValueError") rfl T.is_ValueError T.z_isinstance T.z_ValueError (by decide +kernel) (e_var 2)))) (w_or1 (t_tru rfl (e_isE (bs := [(0, false)]) rfl T.is_BadFormula T.z_isinstance T.cg_BadFormula (e_var 2))))))) (ss_one (s_ret (e_tup (a_cons e_str (a_cons e_non a_nil))))) ss_nil)
      (ss_one (s_ret (e_tup (a_cons e_str (a_cons (e_attr (cs := [0]) T.at_text (e_var 2)) a_nil))))))))))
theorem ok_f_law_parsed_right (T : Txt K mg a fd ec ei eb fi) : FnG P w K mg base CX0 7 (a 16) (fd 16) p_f_law_parsed_right (spS ⟨K, ec, P, w, fun _ => 0, fun _ _ _ _ => False⟩ 2 g_f_law_parsed_right) := by
  have C_f_law_area_due : FnG P w K mg base CX0 1 (a 14) (fd 14) p_f_law_area_due (spS ⟨K, ec, P, w, fun _ => 0, fun _ _ _ _ => False⟩ 2 g_f_law_area_due) := ok_f_law_area_due T
  have C_f_law_result : FnG P w K mg base CX0 6 (a 15) (fd 15) p_f_law_result (spS ⟨K, ec, P, w, fun _ => 0, fun _ _ _ _ => False⟩ 2 g_f_law_result) := ok_f_law_result T
  refine fn_ok (G := ⟨K, ec, P, w, fun _ => 0, fun _ _ _ _ => False⟩) (m := m_f_law_parsed_right) T.F_f_law_parsed_right sc_f_law_parsed_right fun cdv A outer s H E hG hr => ?_
  unfold m_f_law_parsed_right L1_f_law_parsed_right
  exact (ss_cons (s_asg (e_cb (c_reprX rfl hG (room65 hr)) T.z_repr (by decide +kernel) (a_cons (e_var 0) a_nil)) (g_name (vs := [2]) sc_f_law_parsed_right.nd rfl (by decide)))
      (ss_cons (s_asg e_non (g_name (vs := [3]) sc_f_law_parsed_right.nd rfl (by decide)))
      (ss_cons (s_if (t_tru rfl (e_isi .str rfl T.z_isinstance T.z_str (by decide +kernel) (e_var 0))) (ss_one (s_asg (e_dget1 rfl (hu1 hr) (e_var 1) (e_var 0) ⟨rfl, rfl, rfl, rfl⟩) (g_name (vs := [3]) sc_f_law_parsed_right.nd rfl (by decide)))) ss_nil)
      (ss_cons (s_for PassesOwn.never rfl (i_list rfl (e_lst (a_cons (e_tup (a_cons e_str (a_cons (e_var 3) a_nil))) (a_cons (e_tup (a_cons e_str (a_cons (e_call C_f_law_area_due hG (hr.mono (by decide)) T.g_f_law_area_due T.F_f_law_area_due.kp T.b_f_law_area_due (a_cons (e_var 0) (a_cons (e_var 1) a_nil))) a_nil))) a_nil)))) (g_tup rfl rfl (gs_cons (g_name (vs := [4, 5]) sc_f_law_parsed_right.nd rfl (by decide)) (gs_cons (g_name (vs := [4, 5]) sc_f_law_parsed_right.nd rfl (by decide)) gs_nil))) (ss_cons (s_asg (e_tup (a_cons e_str (a_cons (e_var 5) a_nil))) (g_name (vs := [6]) sc_f_law_parsed_right.nd rfl (by decide)))
      (ss_cons (s_if (t_cmp calm_isN op_isNS (e_var 5) e_non (nomark _)) (ss_one (s_asg (e_tup (a_cons e_str (a_cons (e_var 0) a_nil))) (g_name (vs := [6]) sc_f_law_parsed_right.nd rfl (by decide)))) ss_nil)
      (ss_one (s_if (t_cmp calm_eq (op_neS rfl hr.units) (e_cb (c_reprX rfl hG (room65 hr)) T.z_repr (by decide +kernel) (a_cons (e_call C_f_law_result hG (hr.mono (by decide)) T.g_f_law_result T.F_f_law_result.kp T.b_f_law_result (a_cons (e_var 4) (a_cons (e_var 0) a_nil))) a_nil)) (e_cb (c_reprX rfl hG (room65 hr)) T.z_repr (by decide +kernel) (a_cons (e_var 6) a_nil)) (nomark _)) (ss_one (s_ret e_bl)) ss_nil)))))
      (ss_one (s_ret (e_cmp calm_eq (op_eqS rfl hr.units) (e_cb (c_reprX rfl hG (room65 hr)) T.z_repr (by decide +kernel) (a_cons (e_var 0) a_nil)) (e_var 2) (nomark _))))))))
theorem ok_f_law_bent (T : Txt K mg a fd ec ei eb fi) : FnG P w K mg base CX0 3 (a 17) (fd 17) p_f_law_bent (spS ⟨K, ec, P, w, fun _ => 0, fun _ _ _ _ => False⟩ 2 g_f_law_bent) := by
  have C_f_law_draw : FnG P w K mg base CX0 1 (a 10) (fd 10) p_f_law_draw (spS ⟨K, ec, P, w, fun _ => 0, fun _ _ _ _ => False⟩ 2 Lw.g_f_law_draw) := ok_f_law_draw T
  have C_f_law_choose : FnG P w K mg base CX0 2 (a 11) (fd 11) p_f_law_choose (spS ⟨K, ec, P, w, fun _ => 0, fun _ _ _ _ => False⟩ 2 Lw.g_f_law_choose) := ok_f_law_choose T
  refine fn_ok (G := ⟨K, ec, P, w, fun _ => 0, fun _ _ _ _ => False⟩) (m := m_f_law_bent) T.F_f_law_bent sc_f_law_bent fun cdv A outer s H E hG hr => ?_
  unfold m_f_law_bent
  exact (ss_cons (s_asg (e_call C_f_law_draw hG (hr.mono (by decide)) T.g_f_law_draw T.F_f_law_draw.kp T.b_f_law_draw (a_cons (e_var 0) (a_cons (e_op calm_add (op_addS rfl) (e_cb (c_len rfl) T.z_len (by decide +kernel) (a_cons (e_var 1) a_nil)) e_int) a_nil))) (g_name (vs := [2]) sc_f_law_bent.nd rfl (by decide)))
      (ss_cons (s_asg (e_call C_f_law_choose hG (hr.mono (by decide)) T.g_f_law_choose T.F_f_law_choose.kp T.b_f_law_choose (a_cons (e_var 0) (a_cons (e_lst (a_cons e_str (a_cons e_str (a_cons e_str (a_cons e_str (a_cons e_str (a_cons e_str (a_cons e_str (a_cons e_str (a_cons e_str (a_cons e_str (a_cons e_str (a_cons e_str (a_cons e_str (a_cons e_str (a_cons e_str (a_cons e_str (a_cons e_str a_nil)))))))))))))))))) a_nil))) (g_name (vs := [3]) sc_f_law_bent.nd rfl (by decide)))
      (ss_cons (s_asg (e_call C_f_law_draw hG (hr.mono (by decide)) T.g_f_law_draw T.F_f_law_draw.kp T.b_f_law_draw (a_cons (e_var 0) (a_cons e_int a_nil))) (g_name (vs := [4]) sc_f_law_bent.nd rfl (by decide)))
      (ss_cons (s_if (t_cmp calm_eq (op_eqS rfl hr.units) (e_var 4) e_int (nomark _)) (ss_one (s_ret (e_op calm_add (op_addS rfl) (e_op calm_add (op_addS rfl) (e_slice rfl (e_var 1) o_none (o_some (e_var 2))) (e_var 3)) (e_slice rfl (e_var 1) (o_some (e_var 2)) o_none)))) ss_nil)
      (ss_cons (s_if (t_cmp calm_eq (op_eqS rfl hr.units) (e_var 4) e_int (nomark _)) (ss_one (s_ret (e_op calm_add (op_addS rfl) (e_slice rfl (e_var 1) o_none (o_some (e_var 2))) (e_slice rfl (e_var 1) (o_some (e_op calm_add (op_addS rfl) (e_var 2) e_int)) o_none)))) ss_nil)
      (ss_cons (s_if (t_cmp calm_eq (op_eqS rfl hr.units) (e_var 4) e_int (nomark _)) (ss_one (s_ret (e_op calm_add (op_addS rfl) (e_op calm_add (op_addS rfl) (e_slice rfl (e_var 1) o_none (o_some (e_var 2))) (e_var 3)) (e_slice rfl (e_var 1) (o_some (e_op calm_add (op_addS rfl) (e_var 2) e_int)) o_none)))) ss_nil)
      (ss_one (s_ret (e_op calm_add (op_addS rfl) (e_slice rfl (e_var 1) o_none (o_some (e_op calm_add (op_addS rfl) (e_var 2) e_int))) (e_slice rfl (e_var 1) (o_some (e_var 2)) o_none))))))))))
theorem ok_f_law (T : Txt K mg a fd ec ei eb fi) : FnG P w K mg base CX0 8 (a 18) (fd 18) p_f_law (spS ⟨K, ec, P, w, fun _ => 0, fun _ _ _ _ => False⟩ 1 g_f_law) := by
  have C_f_law_all_names : FnG P w K mg base CX0 2 (a 13) (fd 13) p_f_law_all_names (spS ⟨K, ec, P, w, fun _ => 0, fun _ _ _ _ => False⟩ 0 g_f_law_all_names) := ok_f_law_all_names T
  have C_f_law_stream : FnG P w K mg base CX0 1 (a 9) (fd 9) p_f_law_stream (spS ⟨K, ec, P, w, fun _ => 0, fun _ _ _ _ => False⟩ 2 Lw.g_f_law_stream) := ok_f_law_stream T
  have C_f_law_parsed_right : FnG P w K mg base CX0 7 (a 16) (fd 16) p_f_law_parsed_right (spS ⟨K, ec, P, w, fun _ => 0, fun _ _ _ _ => False⟩ 2 g_f_law_parsed_right) := ok_f_law_parsed_right T
  have C_f_law_choose : FnG P w K mg base CX0 2 (a 11) (fd 11) p_f_law_choose (spS ⟨K, ec, P, w, fun _ => 0, fun _ _ _ _ => False⟩ 2 Lw.g_f_law_choose) := ok_f_law_choose T
  have C_f_law_draw : FnG P w K mg base CX0 1 (a 10) (fd 10) p_f_law_draw (spS ⟨K, ec, P, w, fun _ => 0, fun _ _ _ _ => False⟩ 2 Lw.g_f_law_draw) := ok_f_law_draw T
  have C_f_law_name : FnG P w K mg base CX0 1 (a 12) (fd 12) p_f_law_name (spS ⟨K, ec, P, w, fun _ => 0, fun _ _ _ _ => False⟩ 1 g_f_law_name) := ok_f_law_name T
  have C_f_law_bent : FnG P w K mg base CX0 3 (a 17) (fd 17) p_f_law_bent (spS ⟨K, ec, P, w, fun _ => 0, fun _ _ _ _ => False⟩ 2 g_f_law_bent) := ok_f_law_bent T
  have C_f_cell_name : FnG P w K mg base CX0 1 (a 3) (fd 3) p_f_cell_name (spS ⟨K, ec, P, w, fun _ => 0, fun _ _ _ _ => False⟩ 1 g_f_cell_name) := ok_f_cell_name T
  have C_f_area_name : FnG P w K mg base CX0 2 (a 6) (fd 6) p_f_area_name (spS ⟨K, ec, P, w, fun _ => 0, fun _ _ _ _ => False⟩ 1 g_f_area_name) := ok_f_area_name T
  refine fn_ok (G := ⟨K, ec, P, w, fun _ => 0, fun _ _ _ _ => False⟩) (m := m_f_law) T.F_f_law sc_f_law fun cdv A outer s H E hG hr => ?_
  unfold m_f_law L4_f_law L3_f_law L2_f_law L1_f_law
  exact (ss_cons (s_asg (e_call0 C_f_law_all_names hG (hr.mono (by decide)) T.g_f_law_all_names T.F_f_law_all_names.kp T.b_f_law_all_names) (g_name (vs := [1]) sc_f_law.nd rfl (by decide)))
      (ss_cons (s_for PassesOwn.never rfl (i_range1 T.z_range (a_cons (e_cb (c_max rfl) T.z_max (by decide +kernel) (a_cons e_int (a_cons (e_cb (c_min rfl) T.z_min (by decide +kernel) (a_cons e_int (a_cons (e_cb (c_len rfl) T.z_len (by decide +kernel) (a_cons (e_var 0) a_nil)) a_nil))) a_nil))) a_nil)) (g_name (vs := [2]) sc_f_law.nd rfl (by decide)) (ss_cons (s_asg (e_call C_f_law_stream hG (hr.mono (by decide)) T.g_f_law_stream T.F_f_law_stream.kp T.b_f_law_stream (a_cons (e_var 0) (a_cons (e_var 2) a_nil))) (g_name (vs := [3]) sc_f_law.nd rfl (by decide)))
      (ss_one (s_for PassesOwn.never rfl (i_range1 T.z_range (a_cons e_int a_nil)) (g_name (vs := [4]) sc_f_law.nd rfl (by decide)) (ss_cons (s_par (i := 5) (j := 6) rfl sc_f_law.nd rfl rfl (by decide) rfl rfl (a_cons (e_call C_f_law_choose hG (hr.mono (by decide)) T.g_f_law_choose T.F_f_law_choose.kp T.b_f_law_choose (a_cons (e_var 3) (a_cons (e_lst (a_cons e_int (a_cons e_int (a_cons (e_call C_f_law_draw hG (hr.mono (by decide)) T.g_f_law_draw T.F_f_law_draw.kp T.b_f_law_draw (a_cons (e_var 3) (a_cons e_int a_nil))) a_nil)))) a_nil))) (a_cons (e_call C_f_law_draw hG (hr.mono (by decide)) T.g_f_law_draw T.F_f_law_draw.kp T.b_f_law_draw (a_cons (e_var 3) (a_cons e_int a_nil))) a_nil)) rfl)
      (ss_cons (s_asg (e_tup (a_cons (e_var 5) (a_cons (e_var 6) (a_cons (e_op calm_add (op_addS rfl) (e_var 5) (e_call C_f_law_draw hG (hr.mono (by decide)) T.g_f_law_draw T.F_f_law_draw.kp T.b_f_law_draw (a_cons (e_var 3) (a_cons (e_op calm_sub op_subS e_int (e_var 5)) a_nil)))) (a_cons (e_op calm_add (op_addS rfl) (e_var 6) (e_call C_f_law_draw hG (hr.mono (by decide)) T.g_f_law_draw T.F_f_law_draw.kp T.b_f_law_draw (a_cons (e_var 3) (a_cons (e_op calm_sub op_subS e_int (e_var 6)) a_nil)))) a_nil))))) (g_name (vs := [7]) sc_f_law.nd rfl (by decide)))
      (ss_cons (s_asg (e_op calm_add (op_addS rfl) (e_op calm_add (op_addS rfl) (e_call C_f_law_name hG (hr.mono (by decide)) T.g_f_law_name T.F_f_law_name.kp T.b_f_law_name (a_cons (e_slice rfl (e_var 7) o_none (o_some e_int)) a_nil)) e_str) (e_call C_f_law_name hG (hr.mono (by decide)) T.g_f_law_name T.F_f_law_name.kp T.b_f_law_name (a_cons (e_slice rfl (e_var 7) (o_some e_int) o_none) a_nil))) (g_name (vs := [8]) sc_f_law.nd rfl (by decide)))
      (ss_cons (s_if (t_w (w_or (t_cmp calm_eq (op_neS rfl hr.units) (e_call C_f_cell_name hG (hr.mono (by decide)) T.g_f_cell_name T.F_f_cell_name.kp T.b_f_cell_name (a_cons (e_tup (a_cons (e_var 5) (a_cons (e_var 6) a_nil))) a_nil)) (e_call C_f_law_name hG (hr.mono (by decide)) T.g_f_law_name T.F_f_law_name.kp T.b_f_law_name (a_cons (e_tup (a_cons (e_var 5) (a_cons (e_var 6) a_nil))) a_nil)) (nomark _)) (w_or1 (t_cmp calm_eq (op_neS rfl hr.units) (e_call C_f_area_name hG (hr.mono (by decide)) T.g_f_area_name T.F_f_area_name.kp T.b_f_area_name (a_cons (e_var 7) a_nil)) (e_var 8) (nomark _))))) (ss_one (s_ret e_bl)) ss_nil)
      (ss_cons (s_asg (e_lst (a_cons (e_var 8) (a_cons (e_call C_f_law_name hG (hr.mono (by decide)) T.g_f_law_name T.F_f_law_name.kp T.b_f_law_name (a_cons (e_tup (a_cons (e_var 5) (a_cons (e_var 6) a_nil))) a_nil)) (a_cons (e_call C_f_law_bent hG (hr.mono (by decide)) T.g_f_law_bent T.F_f_law_bent.kp T.b_f_law_bent (a_cons (e_var 3) (a_cons (e_var 8) a_nil))) (a_cons (e_call C_f_law_bent hG (hr.mono (by decide)) T.g_f_law_bent T.F_f_law_bent.kp T.b_f_law_bent (a_cons (e_var 3) (a_cons (e_call C_f_law_name hG (hr.mono (by decide)) T.g_f_law_name T.F_f_law_name.kp T.b_f_law_name (a_cons (e_tup (a_cons (e_var 5) (a_cons (e_var 6) a_nil))) a_nil)) a_nil))) a_nil))))) (g_name (vs := [9]) sc_f_law.nd rfl (by decide)))
      (ss_cons (s_asg (e_op calm_add (op_addS rfl) (e_var 9) (e_lst (a_cons (e_call C_f_law_bent hG (hr.mono (by decide)) T.g_f_law_bent T.F_f_law_bent.kp T.b_f_law_bent (a_cons (e_var 3) (a_cons (e_ix rfl (e_var 9) e_int) a_nil))) (a_cons (e_op calm_add (op_addS rfl) (e_op calm_add (op_addS rfl) (e_call C_f_law_name hG (hr.mono (by decide)) T.g_f_law_name T.F_f_law_name.kp T.b_f_law_name (a_cons (e_slice rfl (e_var 7) (o_some e_int) o_none) a_nil)) e_str) (e_call C_f_law_name hG (hr.mono (by decide)) T.g_f_law_name T.F_f_law_name.kp T.b_f_law_name (a_cons (e_slice rfl (e_var 7) o_none (o_some e_int)) a_nil))) (a_cons e_str (a_cons e_str a_nil)))))) (g_name (vs := [9]) sc_f_law.nd rfl (by decide)))
      (ss_one (s_if (t_cmp calm_eq (op_neS rfl hr.units) (e_lc (own := [("text", 10)]) (fun _ _ _ h => h) rfl sc_f_law.nd (i_list rfl (e_var 9)) (blkOk_by (own := [("text", 10)]) (N := N_f_law) (sc := defScope s_f_law) (by decide +kernel)) (fun _ _ _ _ _ => (g_name (vs := [10]) sc_f_law.nd rfl (by decide))) (fun _ _ _ _ _ => (pts_one (t_not (t_tru rfl (e_call C_f_law_parsed_right hG (hr.mono (by decide)) T.g_f_law_parsed_right T.F_f_law_parsed_right.kp T.b_f_law_parsed_right (a_cons (e_var 10) (a_cons (e_var 1) a_nil))))))) (fun _ _ _ _ _ => (e_var 10))) (e_lst a_nil) (nomark _)) (ss_one (s_ret e_bl)) ss_nil))))))))))))
      (ss_cons (s_asg (e_lst (a_cons (e_op calm_add (op_addS rfl) e_str (e_op calm_mulT op_mulT e_str e_int)) (a_cons (e_op calm_add (op_addS rfl) e_str (e_op calm_mulT op_mulT e_str e_int)) (a_cons (e_op calm_mulT op_mulT e_str e_int) a_nil)))) (g_name (vs := [11]) sc_f_law.nd rfl (by decide)))
      (ss_cons (s_for PassesOwn.never rfl (i_list rfl (e_op calm_add (op_addS rfl) (e_lst (a_cons e_str (a_cons e_str (a_cons e_str (a_cons e_str (a_cons e_str (a_cons e_str (a_cons e_str a_nil)))))))) (e_var 11))) (g_name (vs := [12]) sc_f_law.nd rfl (by decide)) (ss_one (s_if (t_not (t_tru rfl (e_call C_f_law_parsed_right hG (hr.mono (by decide)) T.g_f_law_parsed_right T.F_f_law_parsed_right.kp T.b_f_law_parsed_right (a_cons (e_var 12) (a_cons (e_var 1) a_nil))))) (ss_one (s_ret e_bl)) ss_nil)))
      (ss_cons (s_for PassesOwn.never rfl (i_list rfl (e_lst (a_cons e_non (a_cons e_int (a_cons e_bl (a_cons e_str (a_cons e_str (a_cons e_str (a_cons e_str (a_cons e_str (a_cons e_str (a_cons e_str (a_cons (e_tup (a_cons e_int (a_cons e_int a_nil))) (a_cons (e_lst (a_cons e_str a_nil)) (a_cons (e_tup (a_cons e_int (a_cons e_int (a_cons e_int (a_cons e_int a_nil))))) (a_cons (e_dict (d_cons e_str e_int d_nil) rfl rfl (fun z => nomatch z) (by decide)) a_nil)))))))))))))))) (g_name (vs := [12]) sc_f_law.nd rfl (by decide)) (ss_one (s_if (t_not (t_tru rfl (e_call C_f_law_parsed_right hG (hr.mono (by decide)) T.g_f_law_parsed_right T.F_f_law_parsed_right.kp T.b_f_law_parsed_right (a_cons (e_var 12) (a_cons (e_var 1) a_nil))))) (ss_one (s_ret e_bl)) ss_nil)))
      (ss_one (s_ret e_bl)))))))
end
/-! ### the head -/
theorem all_mk {l : PySem.W.OpenLaw} {w : World} {K : PySem.W.Frag} {h : Heap} {mg : Str → Option Value} {fa : Addr} (X : K.In h) (G : h.Ns mainGlobals mg) (hfa : mg "law" = some (.ref fa))
    {f0 f1 f2 f3 f4 f5 f6 f7 f8 f9 f10 f11 f12 f13 f14 f15 f16 f17 f18 : Addr} {od0 an0 od1 an1 od2 an2 od3 an3 od4 an4 od5 an5 od6 an6 od7 an7 od8 an8 od9 an9 od10 an10 od11 an11 od12 an12 od13 an13 od14 an14 od15 an15 od16 an16 od17 an17 od18 an18 : Option Addr} {sl0 sl1 sl2 sl3 sl4 sl5 sl6 sl7 sl8 sl9 sl10 sl11 sl12 sl13 sl14 sl15 sl16 sl17 sl18 : Array (Option Value)} {oc0 kV0 dc0 pm0 cd0 ct0 oc1 kV1 dc1 pm1 cd1 ct1 oc2 kV2 dc2 pm2 cd2 ct2 oc3 kV3 dc3 pm3 cd3 ct3 oc4 kV4 dc4 pm4 cd4 ct4 oc5 kV5 dc5 pm5 cd5 ct5 oc6 kV6 dc6 pm6 cd6 ct6 oc7 kV7 dc7 pm7 cd7 ct7 oc8 kV8 dc8 pm8 cd8 ct8 oc9 kV9 dc9 pm9 cd9 ct9 oc10 kV10 dc10 pm10 cd10 ct10 oc11 kV11 dc11 pm11 cd11 ct11 oc12 kV12 dc12 pm12 cd12 ct12 oc13 kV13 dc13 pm13 cd13 ct13 oc14 kV14 dc14 pm14 cd14 ct14 oc15 kV15 dc15 pm15 cd15 ct15 oc16 kV16 dc16 pm16 cd16 ct16 oc17 kV17 dc17 pm17 cd17 ct17 oc18 kV18 dc18 pm18 cd18 ct18 : Value}
    {wt_GRID_SIZE : Tok}
    {wt_LETTERS : Tok}
    {w_COLUMN_NAMES : Addr} {wd_COLUMN_NAMES : Option Addr} {ws_COLUMN_NAMES : Array (Option Value)} {wu_COLUMN_NAMES : Array Value} {wn_COLUMN_NAMES : Nat}
    {w_ROW_NAMES : Addr} {wd_ROW_NAMES : Option Addr} {ws_ROW_NAMES : Array (Option Value)} {wu_ROW_NAMES : Array Value} {wn_ROW_NAMES : Nat}
    {e0 : Addr}
    {e1 : Addr}
    {eb0 : Addr}
    {nm0 qn0 : Str} {N0 : Addr} {bs0 bm0 : List Value} {sn0 : List Str} {sb0 : List Value} {ab0 : Bool} {col0 : Option Bool} {dd0 : Option Addr} {m00 m10 m20 m30 m50 : Option Value}
    {j0 : Addr} {iod0 ian0 : Option Addr} {isl0 : Array (Option Value)} {ioc0 ikV0 idc0 ipm0 icd0 ict0 : Value}
    (a0 : PySem.W.nsIn K mainGlobals "is_integer_between" = some (some (.ref f0)))
    (l0 : K.lookup f0 = some ⟨oc0, od0, .func (PySem.W.fnOf "is_integer_between" "is_integer_between" (defArgs s_f_is_integer_between) (defBody s_f_is_integer_between) (defScope s_f_is_integer_between) .none kV0 dc0 pm0 an0 cd0 ct0), sl0⟩)
    (c0 : PySem.W.codeIn K cd0 "is_integer_between" = true) (k0 : PySem.W.keepIn K (.ref f0) = true)
    (a1 : PySem.W.nsIn K mainGlobals "is_index" = some (some (.ref f1)))
    (l1 : K.lookup f1 = some ⟨oc1, od1, .func (PySem.W.fnOf "is_index" "is_index" (defArgs s_f_is_index) (defBody s_f_is_index) (defScope s_f_is_index) .none kV1 dc1 pm1 an1 cd1 ct1), sl1⟩)
    (c1 : PySem.W.codeIn K cd1 "is_index" = true) (k1 : PySem.W.keepIn K (.ref f1) = true)
    (a2 : PySem.W.nsIn K mainGlobals "is_area" = some (some (.ref f2)))
    (l2 : K.lookup f2 = some ⟨oc2, od2, .func (PySem.W.fnOf "is_area" "is_area" (defArgs s_f_is_area) (defBody s_f_is_area) (defScope s_f_is_area) .none kV2 dc2 pm2 an2 cd2 ct2), sl2⟩)
    (c2 : PySem.W.codeIn K cd2 "is_area" = true) (k2 : PySem.W.keepIn K (.ref f2) = true)
    (a3 : PySem.W.nsIn K mainGlobals "cell_name" = some (some (.ref f3)))
    (l3 : K.lookup f3 = some ⟨oc3, od3, .func (PySem.W.fnOf "cell_name" "cell_name" (defArgs s_f_cell_name) (defBody s_f_cell_name) (defScope s_f_cell_name) .none kV3 dc3 pm3 an3 cd3 ct3), sl3⟩)
    (c3 : PySem.W.codeIn K cd3 "cell_name" = true) (k3 : PySem.W.keepIn K (.ref f3) = true)
    (a4 : PySem.W.nsIn K mainGlobals "cell_or_none" = some (some (.ref f4)))
    (l4 : K.lookup f4 = some ⟨oc4, od4, .func (PySem.W.fnOf "cell_or_none" "cell_or_none" (defArgs s_f_cell_or_none) (defBody s_f_cell_or_none) (defScope s_f_cell_or_none) .none kV4 dc4 pm4 an4 cd4 ct4), sl4⟩)
    (c4 : PySem.W.codeIn K cd4 "cell_or_none" = true) (k4 : PySem.W.keepIn K (.ref f4) = true)
    (a5 : PySem.W.nsIn K mainGlobals "parse_cell" = some (some (.ref f5)))
    (l5 : K.lookup f5 = some ⟨oc5, od5, .func (PySem.W.fnOf "parse_cell" "parse_cell" (defArgs s_f_parse_cell) (defBody s_f_parse_cell) (defScope s_f_parse_cell) .none kV5 dc5 pm5 an5 cd5 ct5), sl5⟩)
    (c5 : PySem.W.codeIn K cd5 "parse_cell" = true) (k5 : PySem.W.keepIn K (.ref f5) = true)
    (a6 : PySem.W.nsIn K mainGlobals "area_name" = some (some (.ref f6)))
    (l6 : K.lookup f6 = some ⟨oc6, od6, .func (PySem.W.fnOf "area_name" "area_name" (defArgs s_f_area_name) (defBody s_f_area_name) (defScope s_f_area_name) .none kV6 dc6 pm6 an6 cd6 ct6), sl6⟩)
    (c6 : PySem.W.codeIn K cd6 "area_name" = true) (k6 : PySem.W.keepIn K (.ref f6) = true)
    (a7 : PySem.W.nsIn K mainGlobals "area_or_none" = some (some (.ref f7)))
    (l7 : K.lookup f7 = some ⟨oc7, od7, .func (PySem.W.fnOf "area_or_none" "area_or_none" (defArgs s_f_area_or_none) (defBody s_f_area_or_none) (defScope s_f_area_or_none) .none kV7 dc7 pm7 an7 cd7 ct7), sl7⟩)
    (c7 : PySem.W.codeIn K cd7 "area_or_none" = true) (k7 : PySem.W.keepIn K (.ref f7) = true)
    (a8 : PySem.W.nsIn K mainGlobals "parse_area" = some (some (.ref f8)))
    (l8 : K.lookup f8 = some ⟨oc8, od8, .func (PySem.W.fnOf "parse_area" "parse_area" (defArgs s_f_parse_area) (defBody s_f_parse_area) (defScope s_f_parse_area) .none kV8 dc8 pm8 an8 cd8 ct8), sl8⟩)
    (c8 : PySem.W.codeIn K cd8 "parse_area" = true) (k8 : PySem.W.keepIn K (.ref f8) = true)
    (a9 : PySem.W.nsIn K mainGlobals "_law_stream" = some (some (.ref f9)))
    (l9 : K.lookup f9 = some ⟨oc9, od9, .func (PySem.W.fnOf "_law_stream" "_law_stream" (defArgs s_f_law_stream) (defBody s_f_law_stream) (defScope s_f_law_stream) .none kV9 dc9 pm9 an9 cd9 ct9), sl9⟩)
    (c9 : PySem.W.codeIn K cd9 "_law_stream" = true) (k9 : PySem.W.keepIn K (.ref f9) = true)
    (a10 : PySem.W.nsIn K mainGlobals "_law_draw" = some (some (.ref f10)))
    (l10 : K.lookup f10 = some ⟨oc10, od10, .func (PySem.W.fnOf "_law_draw" "_law_draw" (defArgs s_f_law_draw) (defBody s_f_law_draw) (defScope s_f_law_draw) .none kV10 dc10 pm10 an10 cd10 ct10), sl10⟩)
    (c10 : PySem.W.codeIn K cd10 "_law_draw" = true) (k10 : PySem.W.keepIn K (.ref f10) = true)
    (a11 : PySem.W.nsIn K mainGlobals "_law_choose" = some (some (.ref f11)))
    (l11 : K.lookup f11 = some ⟨oc11, od11, .func (PySem.W.fnOf "_law_choose" "_law_choose" (defArgs s_f_law_choose) (defBody s_f_law_choose) (defScope s_f_law_choose) .none kV11 dc11 pm11 an11 cd11 ct11), sl11⟩)
    (c11 : PySem.W.codeIn K cd11 "_law_choose" = true) (k11 : PySem.W.keepIn K (.ref f11) = true)
    (a12 : PySem.W.nsIn K mainGlobals "_law_name" = some (some (.ref f12)))
    (l12 : K.lookup f12 = some ⟨oc12, od12, .func (PySem.W.fnOf "_law_name" "_law_name" (defArgs s_f_law_name) (defBody s_f_law_name) (defScope s_f_law_name) .none kV12 dc12 pm12 an12 cd12 ct12), sl12⟩)
    (c12 : PySem.W.codeIn K cd12 "_law_name" = true) (k12 : PySem.W.keepIn K (.ref f12) = true)
    (a13 : PySem.W.nsIn K mainGlobals "_law_all_names" = some (some (.ref f13)))
    (l13 : K.lookup f13 = some ⟨oc13, od13, .func (PySem.W.fnOf "_law_all_names" "_law_all_names" (defArgs s_f_law_all_names) (defBody s_f_law_all_names) (defScope s_f_law_all_names) .none kV13 dc13 pm13 an13 cd13 ct13), sl13⟩)
    (c13 : PySem.W.codeIn K cd13 "_law_all_names" = true) (k13 : PySem.W.keepIn K (.ref f13) = true)
    (a14 : PySem.W.nsIn K mainGlobals "_law_area_due" = some (some (.ref f14)))
    (l14 : K.lookup f14 = some ⟨oc14, od14, .func (PySem.W.fnOf "_law_area_due" "_law_area_due" (defArgs s_f_law_area_due) (defBody s_f_law_area_due) (defScope s_f_law_area_due) .none kV14 dc14 pm14 an14 cd14 ct14), sl14⟩)
    (c14 : PySem.W.codeIn K cd14 "_law_area_due" = true) (k14 : PySem.W.keepIn K (.ref f14) = true)
    (a15 : PySem.W.nsIn K mainGlobals "_law_result" = some (some (.ref f15)))
    (l15 : K.lookup f15 = some ⟨oc15, od15, .func (PySem.W.fnOf "_law_result" "_law_result" (defArgs s_f_law_result) (defBody s_f_law_result) (defScope s_f_law_result) .none kV15 dc15 pm15 an15 cd15 ct15), sl15⟩)
    (c15 : PySem.W.codeIn K cd15 "_law_result" = true) (k15 : PySem.W.keepIn K (.ref f15) = true)
    (a16 : PySem.W.nsIn K mainGlobals "_law_parsed_right" = some (some (.ref f16)))
    (l16 : K.lookup f16 = some ⟨oc16, od16, .func (PySem.W.fnOf "_law_parsed_right" "_law_parsed_right" (defArgs s_f_law_parsed_right) (defBody s_f_law_parsed_right) (defScope s_f_law_parsed_right) .none kV16 dc16 pm16 an16 cd16 ct16), sl16⟩)
    (c16 : PySem.W.codeIn K cd16 "_law_parsed_right" = true) (k16 : PySem.W.keepIn K (.ref f16) = true)
    (a17 : PySem.W.nsIn K mainGlobals "_law_bent" = some (some (.ref f17)))
    (l17 : K.lookup f17 = some ⟨oc17, od17, .func (PySem.W.fnOf "_law_bent" "_law_bent" (defArgs s_f_law_bent) (defBody s_f_law_bent) (defScope s_f_law_bent) .none kV17 dc17 pm17 an17 cd17 ct17), sl17⟩)
    (c17 : PySem.W.codeIn K cd17 "_law_bent" = true) (k17 : PySem.W.keepIn K (.ref f17) = true)
    (a18 : PySem.W.nsIn K mainGlobals "law" = some (some (.ref f18)))
    (l18 : K.lookup f18 = some ⟨oc18, od18, .func (PySem.W.fnOf "law" "law" (defArgs s_f_law) (defBody s_f_law) (defScope s_f_law) .none kV18 dc18 pm18 an18 cd18 ct18), sl18⟩)
    (c18 : PySem.W.codeIn K cd18 "law" = true) (k18 : PySem.W.keepIn K (.ref f18) = true)
    (z_ValueError : PySem.W.nsIn K mainGlobals "ValueError" = some none)
    (z_all : PySem.W.nsIn K mainGlobals "all" = some none)
    (z_bool : PySem.W.nsIn K mainGlobals "bool" = some none)
    (z_int : PySem.W.nsIn K mainGlobals "int" = some none)
    (z_isinstance : PySem.W.nsIn K mainGlobals "isinstance" = some none)
    (z_len : PySem.W.nsIn K mainGlobals "len" = some none)
    (z_max : PySem.W.nsIn K mainGlobals "max" = some none)
    (z_min : PySem.W.nsIn K mainGlobals "min" = some none)
    (z_range : PySem.W.nsIn K mainGlobals "range" = some none)
    (z_repr : PySem.W.nsIn K mainGlobals "repr" = some none)
    (z_str : PySem.W.nsIn K mainGlobals "str" = some none)
    (z_tuple : PySem.W.nsIn K mainGlobals "tuple" = some none)
    (q_GRID_SIZE : PySem.W.nsIn K mainGlobals "GRID_SIZE" = some (some (.int (12) wt_GRID_SIZE)))
    (q_LETTERS : PySem.W.nsIn K mainGlobals "LETTERS" = some (some (.str (Str.ofString "ABCDEFGHIJKLMNOPQRSTUVWXYZ") wt_LETTERS)))
    (q_COLUMN_NAMES : PySem.W.nsIn K mainGlobals "COLUMN_NAMES" = some (some (.ref w_COLUMN_NAMES)))
    (ql_COLUMN_NAMES : K.lookup w_COLUMN_NAMES = some ⟨.type "tuple", wd_COLUMN_NAMES, .seq wu_COLUMN_NAMES wn_COLUMN_NAMES, ws_COLUMN_NAMES⟩)
    (qz_COLUMN_NAMES : wu_COLUMN_NAMES.size ≤ sizeLine) (qv_COLUMN_NAMES : Vals kv_COLUMN_NAMES wu_COLUMN_NAMES.toList)
    (q_ROW_NAMES : PySem.W.nsIn K mainGlobals "ROW_NAMES" = some (some (.ref w_ROW_NAMES)))
    (ql_ROW_NAMES : K.lookup w_ROW_NAMES = some ⟨.type "tuple", wd_ROW_NAMES, .seq wu_ROW_NAMES wn_ROW_NAMES, ws_ROW_NAMES⟩)
    (qz_ROW_NAMES : wu_ROW_NAMES.size ≤ sizeLine) (qv_ROW_NAMES : Vals kv_ROW_NAMES wu_ROW_NAMES.toList)
    (qd_COLUMN_NAMES : wd_COLUMN_NAMES = none)
    (qd_ROW_NAMES : wd_ROW_NAMES = none)
    (ea0 : PySem.W.nsIn K mainGlobals "BadAddress" = some (some (.ref e0)))
    (ea1 : PySem.W.nsIn K mainGlobals "BadFormula" = some (some (.ref e1)))
    (ba : PySem.W.nsIn K mainGlobals "SheetError" = some (some (.ref eb0)))
    (bg : PySem.W.specialIn K (.ref eb0) "__getattribute__" = some (some (.builtin "type.__getattribute__")))
    (br : PySem.W.readsIn K eb0 (.type "type") = true)
    (bv : PySem.W.findCls K (.ref eb0) (.type "type") "__init__" = some (.val (.builtin "ValueError.__init__")))
    (hn : PySem.W.specialIn K (.builtin "object.__class__") "__get__" = some (some (.builtin "getset_descriptor.__get__")))
    (xu : PySem.W.subIn K (.ref eb0) (.type "BaseException") = some true)
    (xc : PySem.W.isClsIn K eb0 = true)
    (xt : PySem.W.typeIn K (.ref eb0) = some (.type "type"))
    (ht : PySem.W.takesIn K (.builtin "object.__class__") = some true)
    (ex0 : K.lookup e0 = some (excClassObj nm0 qn0 e0 N0 bs0 bm0 true sn0 sb0 ab0 col0 dd0 m00 m10 m20 m30 m50 "ValueError.__new__"))
    (er0 : PySem.HandSPX.refsVE bm0 = true)
    (es0 : PySem.W.findIn K (.ref e0) "__setattr__" = some (some (.builtin "object.__setattr__")))
    (eg0 : PySem.W.findIn K (.ref e0) "__getattribute__" = some (some (.builtin "BaseException.__getattribute__")))
    (eh0 : PySem.W.findIn K (.ref e0) "__getattr__" = some none)
    (en0 : PySem.W.findIn K (.ref e0) "text" = some none)
    (ei0 : PySem.W.findIn K (.ref e0) "__init__" = some (some (.ref j0)))
    (et0 : PySem.W.typeIn K (.ref j0) = some (.type "function"))
    (ek0 : PySem.W.keepIn K (.ref e0) = true)
    (eu0 : PySem.W.subIn K (.ref e0) (.type "BaseException") = some true)
    (ey0 : PySem.W.typeIn K (.ref e0) = some (.type "type"))
    (ed0 : PySem.W.hasDictIn K e0 = true)
    (ec0 : PySem.W.isClsIn K e0 = true)
    (eq0 : PySem.W.findIn K (.ref e0) "__class__" = some (some (.builtin "object.__class__")))
    (em0 : PySem.W.mroIn K e0 (.type "object") = some true)
    (fl0 : K.lookup j0 = some ⟨ioc0, iod0, .func (PySem.W.fnOf "__init__" "BadAddress.__init__" (defArgs si_BadAddress) (defBody si_BadAddress) (defScope si_BadAddress) .none ikV0 idc0 ipm0 ian0 icd0 ict0), isl0⟩)
    (fc0 : PySem.W.codeIn K icd0 "BadAddress.__init__" = true)
    (fk0 : PySem.W.keepIn K (.ref j0) = true)
    (xm0 : PySem.W.subIn K (.ref e0) (.ref eb0) = some true)
    (kt0_BadAddress : PySem.W.kitOne K (.ref e0) (.ref e0) = some true)
    (kt0_BadFormula : PySem.W.kitOne K (.ref e0) (.ref e1) = some false)
    (kt0_ValueError : PySem.W.kitOne K (.ref e0) (.type "ValueError") = some true) :
    ∃ fd : FuncData, (∀ (s : Shared) (v : Value), BindsTo s fd ⟨[v], []⟩ [("script", v)]) ∧ ∀ base : Heap, K.In base → base.Ns mainGlobals mg → FnG l.prog w K mg base CX0 8 fa fd ["script"] (spS ⟨K, clsAt K ["BadAddress", "BadFormula"], l.prog, w, fun _ => 0, fun _ _ _ _ => False⟩ 1 g_f_law) := by
  have e := hfa.symm.trans (PySem.W.mg_of X G a18)
  cases e
  have F0 := fun_mk (st := s_f_is_integer_between) l0 c0 k0
  have b0 := F0.binds (ps := p_f_is_integer_between) fun _ _ _ _ _ _ us hl => match us, hl with | [_, _, _], _ => rfl
  have F1 := fun_mk (st := s_f_is_index) l1 c1 k1
  have b1 := F1.binds (ps := p_f_is_index) fun _ _ _ _ _ _ us hl => match us, hl with | [_], _ => rfl
  have F2 := fun_mk (st := s_f_is_area) l2 c2 k2
  have b2 := F2.binds (ps := p_f_is_area) fun _ _ _ _ _ _ us hl => match us, hl with | [_], _ => rfl
  have F3 := fun_mk (st := s_f_cell_name) l3 c3 k3
  have b3 := F3.binds (ps := p_f_cell_name) fun _ _ _ _ _ _ us hl => match us, hl with | [_], _ => rfl
  have F4 := fun_mk (st := s_f_cell_or_none) l4 c4 k4
  have b4 := F4.binds (ps := p_f_cell_or_none) fun _ _ _ _ _ _ us hl => match us, hl with | [_], _ => rfl
  have F5 := fun_mk (st := s_f_parse_cell) l5 c5 k5
  have b5 := F5.binds (ps := p_f_parse_cell) fun _ _ _ _ _ _ us hl => match us, hl with | [_], _ => rfl
  have F6 := fun_mk (st := s_f_area_name) l6 c6 k6
  have b6 := F6.binds (ps := p_f_area_name) fun _ _ _ _ _ _ us hl => match us, hl with | [_], _ => rfl
  have F7 := fun_mk (st := s_f_area_or_none) l7 c7 k7
  have b7 := F7.binds (ps := p_f_area_or_none) fun _ _ _ _ _ _ us hl => match us, hl with | [_], _ => rfl
  have F8 := fun_mk (st := s_f_parse_area) l8 c8 k8
  have b8 := F8.binds (ps := p_f_parse_area) fun _ _ _ _ _ _ us hl => match us, hl with | [_], _ => rfl
  have F9 := fun_mk (st := s_f_law_stream) l9 c9 k9
  have b9 := F9.binds (ps := p_f_law_stream) fun _ _ _ _ _ _ us hl => match us, hl with | [_, _], _ => rfl
  have F10 := fun_mk (st := s_f_law_draw) l10 c10 k10
  have b10 := F10.binds (ps := p_f_law_draw) fun _ _ _ _ _ _ us hl => match us, hl with | [_, _], _ => rfl
  have F11 := fun_mk (st := s_f_law_choose) l11 c11 k11
  have b11 := F11.binds (ps := p_f_law_choose) fun _ _ _ _ _ _ us hl => match us, hl with | [_, _], _ => rfl
  have F12 := fun_mk (st := s_f_law_name) l12 c12 k12
  have b12 := F12.binds (ps := p_f_law_name) fun _ _ _ _ _ _ us hl => match us, hl with | [_], _ => rfl
  have F13 := fun_mk (st := s_f_law_all_names) l13 c13 k13
  have b13 := F13.binds (ps := p_f_law_all_names) fun _ _ _ _ _ _ us hl => match us, hl with | [], _ => rfl
  have F14 := fun_mk (st := s_f_law_area_due) l14 c14 k14
  have b14 := F14.binds (ps := p_f_law_area_due) fun _ _ _ _ _ _ us hl => match us, hl with | [_, _], _ => rfl
  have F15 := fun_mk (st := s_f_law_result) l15 c15 k15
  have b15 := F15.binds (ps := p_f_law_result) fun _ _ _ _ _ _ us hl => match us, hl with | [_, _], _ => rfl
  have F16 := fun_mk (st := s_f_law_parsed_right) l16 c16 k16
  have b16 := F16.binds (ps := p_f_law_parsed_right) fun _ _ _ _ _ _ us hl => match us, hl with | [_, _], _ => rfl
  have F17 := fun_mk (st := s_f_law_bent) l17 c17 k17
  have b17 := F17.binds (ps := p_f_law_bent) fun _ _ _ _ _ _ us hl => match us, hl with | [_, _], _ => rfl
  have F18 := fun_mk (st := s_f_law) l18 c18 k18
  have b18 := F18.binds (ps := p_f_law) fun _ _ _ _ _ _ us hl => match us, hl with | [_], _ => rfl
  have he0 : clsAt K ["BadAddress", "BadFormula"] 0 = e0 := clsAt_of (by exact ea0)
  have he1 : clsAt K ["BadAddress", "BadFormula"] 1 = e1 := clsAt_of (by exact ea1)
  have Fi0 := fun_mk (st := si_BadAddress) fl0 fc0 fk0
  have bi0 := Fi0.binds (ps := ["self", "text"]) fun _ _ _ _ _ _ us hl => match us, hl with | [_, _], _ => rfl
  have xf0 : XfC K e0 := ⟨eg0, eh0, eu0, ed0⟩
  have ox0 : OexC K e0 := ⟨⟨_, _, _, _, _, _, _, _, _, _, _, _, _, _, _, ex0, er0⟩, es0, eu0, ey0, ek0⟩
  have ie0 : ErrI K e0 := ⟨ec0, xf0, eq0, hn, ht, em0⟩
  have T : Txt K mg (fun n => [f0, f1, f2, f3, f4, f5, f6, f7, f8, f9, f10, f11, f12, f13, f14, f15, f16, f17, fa].getD n 0) (fun n => [PySem.W.fnOf "is_integer_between" "is_integer_between" (defArgs s_f_is_integer_between) (defBody s_f_is_integer_between) (defScope s_f_is_integer_between) .none kV0 dc0 pm0 an0 cd0 ct0, PySem.W.fnOf "is_index" "is_index" (defArgs s_f_is_index) (defBody s_f_is_index) (defScope s_f_is_index) .none kV1 dc1 pm1 an1 cd1 ct1, PySem.W.fnOf "is_area" "is_area" (defArgs s_f_is_area) (defBody s_f_is_area) (defScope s_f_is_area) .none kV2 dc2 pm2 an2 cd2 ct2, PySem.W.fnOf "cell_name" "cell_name" (defArgs s_f_cell_name) (defBody s_f_cell_name) (defScope s_f_cell_name) .none kV3 dc3 pm3 an3 cd3 ct3, PySem.W.fnOf "cell_or_none" "cell_or_none" (defArgs s_f_cell_or_none) (defBody s_f_cell_or_none) (defScope s_f_cell_or_none) .none kV4 dc4 pm4 an4 cd4 ct4, PySem.W.fnOf "parse_cell" "parse_cell" (defArgs s_f_parse_cell) (defBody s_f_parse_cell) (defScope s_f_parse_cell) .none kV5 dc5 pm5 an5 cd5 ct5, PySem.W.fnOf "area_name" "area_name" (defArgs s_f_area_name) (defBody s_f_area_name) (defScope s_f_area_name) .none kV6 dc6 pm6 an6 cd6 ct6, PySem.W.fnOf "area_or_none" "area_or_none" (defArgs s_f_area_or_none) (defBody s_f_area_or_none) (defScope s_f_area_or_none) .none kV7 dc7 pm7 an7 cd7 ct7, PySem.W.fnOf "parse_area" "parse_area" (defArgs s_f_parse_area) (defBody s_f_parse_area) (defScope s_f_parse_area) .none kV8 dc8 pm8 an8 cd8 ct8, PySem.W.fnOf "_law_stream" "_law_stream" (defArgs s_f_law_stream) (defBody s_f_law_stream) (defScope s_f_law_stream) .none kV9 dc9 pm9 an9 cd9 ct9, PySem.W.fnOf "_law_draw" "_law_draw" (defArgs s_f_law_draw) (defBody s_f_law_draw) (defScope s_f_law_draw) .none kV10 dc10 pm10 an10 cd10 ct10, PySem.W.fnOf "_law_choose" "_law_choose" (defArgs s_f_law_choose) (defBody s_f_law_choose) (defScope s_f_law_choose) .none kV11 dc11 pm11 an11 cd11 ct11, PySem.W.fnOf "_law_name" "_law_name" (defArgs s_f_law_name) (defBody s_f_law_name) (defScope s_f_law_name) .none kV12 dc12 pm12 an12 cd12 ct12, PySem.W.fnOf "_law_all_names" "_law_all_names" (defArgs s_f_law_all_names) (defBody s_f_law_all_names) (defScope s_f_law_all_names) .none kV13 dc13 pm13 an13 cd13 ct13, PySem.W.fnOf "_law_area_due" "_law_area_due" (defArgs s_f_law_area_due) (defBody s_f_law_area_due) (defScope s_f_law_area_due) .none kV14 dc14 pm14 an14 cd14 ct14, PySem.W.fnOf "_law_result" "_law_result" (defArgs s_f_law_result) (defBody s_f_law_result) (defScope s_f_law_result) .none kV15 dc15 pm15 an15 cd15 ct15, PySem.W.fnOf "_law_parsed_right" "_law_parsed_right" (defArgs s_f_law_parsed_right) (defBody s_f_law_parsed_right) (defScope s_f_law_parsed_right) .none kV16 dc16 pm16 an16 cd16 ct16, PySem.W.fnOf "_law_bent" "_law_bent" (defArgs s_f_law_bent) (defBody s_f_law_bent) (defScope s_f_law_bent) .none kV17 dc17 pm17 an17 cd17 ct17, PySem.W.fnOf "law" "law" (defArgs s_f_law) (defBody s_f_law) (defScope s_f_law) .none kV18 dc18 pm18 an18 cd18 ct18].getD n (PySem.W.fnOf "law" "law" (defArgs s_f_law) (defBody s_f_law) (defScope s_f_law) .none kV18 dc18 pm18 an18 cd18 ct18)) (clsAt K ["BadAddress", "BadFormula"]) (fun n => [j0].getD n 0) eb0 (fun n => [PySem.W.fnOf "__init__" "BadAddress.__init__" (defArgs si_BadAddress) (defBody si_BadAddress) (defScope si_BadAddress) .none ikV0 idc0 ipm0 ian0 icd0 ict0].getD n (PySem.W.fnOf "law" "law" (defArgs s_f_law) (defBody s_f_law) (defScope s_f_law) .none kV18 dc18 pm18 an18 cd18 ct18)) :=
    { g_f_is_integer_between := PySem.W.mg_of X G a0, F_f_is_integer_between := F0, b_f_is_integer_between := b0, g_f_is_index := PySem.W.mg_of X G a1, F_f_is_index := F1, b_f_is_index := b1, g_f_is_area := PySem.W.mg_of X G a2, F_f_is_area := F2, b_f_is_area := b2, g_f_cell_name := PySem.W.mg_of X G a3, F_f_cell_name := F3, b_f_cell_name := b3, g_f_cell_or_none := PySem.W.mg_of X G a4, F_f_cell_or_none := F4, b_f_cell_or_none := b4, g_f_parse_cell := PySem.W.mg_of X G a5, F_f_parse_cell := F5, b_f_parse_cell := b5, g_f_area_name := PySem.W.mg_of X G a6, F_f_area_name := F6, b_f_area_name := b6, g_f_area_or_none := PySem.W.mg_of X G a7, F_f_area_or_none := F7, b_f_area_or_none := b7, g_f_parse_area := PySem.W.mg_of X G a8, F_f_parse_area := F8, b_f_parse_area := b8, g_f_law_stream := PySem.W.mg_of X G a9, F_f_law_stream := F9, b_f_law_stream := b9, g_f_law_draw := PySem.W.mg_of X G a10, F_f_law_draw := F10, b_f_law_draw := b10, g_f_law_choose := PySem.W.mg_of X G a11, F_f_law_choose := F11, b_f_law_choose := b11, g_f_law_name := PySem.W.mg_of X G a12, F_f_law_name := F12, b_f_law_name := b12, g_f_law_all_names := PySem.W.mg_of X G a13, F_f_law_all_names := F13, b_f_law_all_names := b13, g_f_law_area_due := PySem.W.mg_of X G a14, F_f_law_area_due := F14, b_f_law_area_due := b14, g_f_law_result := PySem.W.mg_of X G a15, F_f_law_result := F15, b_f_law_result := b15, g_f_law_parsed_right := PySem.W.mg_of X G a16, F_f_law_parsed_right := F16, b_f_law_parsed_right := b16, g_f_law_bent := PySem.W.mg_of X G a17, F_f_law_bent := F17, b_f_law_bent := b17, g_f_law := PySem.W.mg_of X G a18, F_f_law := F18, b_f_law := b18, z_ValueError := PySem.W.mg_none_of X G z_ValueError, z_all := PySem.W.mg_none_of X G z_all, z_bool := PySem.W.mg_none_of X G z_bool, z_int := PySem.W.mg_none_of X G z_int, z_isinstance := PySem.W.mg_none_of X G z_isinstance, z_len := PySem.W.mg_none_of X G z_len, z_max := PySem.W.mg_none_of X G z_max, z_min := PySem.W.mg_none_of X G z_min, z_range := PySem.W.mg_none_of X G z_range, z_repr := PySem.W.mg_none_of X G z_repr, z_str := PySem.W.mg_none_of X G z_str, z_tuple := PySem.W.mg_none_of X G z_tuple, kc_GRID_SIZE := ⟨_, PySem.W.mg_of X G q_GRID_SIZE⟩, kc_LETTERS := ⟨_, PySem.W.mg_of X G q_LETTERS⟩, kc_COLUMN_NAMES := ⟨_, _, _, _, PySem.W.mg_of X G q_COLUMN_NAMES, ql_COLUMN_NAMES, rfl, rfl, qz_COLUMN_NAMES, qv_COLUMN_NAMES⟩, kc_ROW_NAMES := ⟨_, _, _, _, PySem.W.mg_of X G q_ROW_NAMES, ql_ROW_NAMES, rfl, rfl, qz_ROW_NAMES, qv_ROW_NAMES⟩, e_BadAddress := by rw [he0]; exact ⟨PySem.W.mg_of X G ea0, ox0, xf0, en0, ei0, et0⟩, Fi_BadAddress := Fi0, bi_BadAddress := bi0, bs := ⟨PySem.W.mg_of X G ba, bg, br, bv⟩, xm := fun q hq => by
        simp only [List.mem_cons, List.not_mem_nil, or_false] at hq
        rcases hq with rfl <;> first | exact (by rw [he0]; exact exm_of xu xc xt xm0), is_BadAddress := fun q hq => by
        simp only [List.mem_cons, List.not_mem_nil, or_false] at hq
        rcases hq with rfl <;> first | exact (by show ErrI K (clsAt K ["BadAddress", "BadFormula"] 0) ∧ PySem.W.kitOne K (.ref (clsAt K ["BadAddress", "BadFormula"] 0)) _ = some _; rw [he0]; exact ⟨ie0, kt0_BadAddress⟩), cg_BadAddress := by rw [he0]; exact PySem.W.mg_of X G ea0, is_BadFormula := fun q hq => by
        simp only [List.mem_cons, List.not_mem_nil, or_false] at hq
        rcases hq with rfl <;> first | exact (by show ErrI K (clsAt K ["BadAddress", "BadFormula"] 0) ∧ PySem.W.kitOne K (.ref (clsAt K ["BadAddress", "BadFormula"] 0)) _ = some _; rw [he0, he1]; exact ⟨ie0, kt0_BadFormula⟩), cg_BadFormula := by rw [he1]; exact PySem.W.mg_of X G ea1, is_ValueError := fun q hq => by
        simp only [List.mem_cons, List.not_mem_nil, or_false] at hq
        rcases hq with rfl <;> first | exact (by show ErrI K (clsAt K ["BadAddress", "BadFormula"] 0) ∧ PySem.W.kitOne K (.ref (clsAt K ["BadAddress", "BadFormula"] 0)) _ = some _; rw [he0]; exact ⟨ie0, kt0_ValueError⟩), at_text := fun q hq => by
        simp only [List.mem_cons, List.not_mem_nil, or_false] at hq
        rcases hq with rfl <;> first | exact (by rw [he0]; exact ⟨xf0, en0⟩), kn_COLUMN_NAMES := by subst qd_COLUMN_NAMES; exact ⟨_, _, _, _, PySem.W.mg_of X G q_COLUMN_NAMES, ql_COLUMN_NAMES, qz_COLUMN_NAMES, qv_COLUMN_NAMES⟩, kn_ROW_NAMES := by subst qd_ROW_NAMES; exact ⟨_, _, _, _, PySem.W.mg_of X G q_ROW_NAMES, ql_ROW_NAMES, qz_ROW_NAMES, qv_ROW_NAMES⟩ }
  exact ⟨PySem.W.fnOf "law" "law" (defArgs s_f_law) (defBody s_f_law) (defScope s_f_law) .none kV18 dc18 pm18 an18 cd18 ct18, fun s v => .of_eq rfl, fun base _ _ => ok_f_law T⟩
end K01

namespace K01
open PySem Sm
/-! ### the names of cells -/
abbrev colsL : List Str := [Str.ofString "A", Str.ofString "B", Str.ofString "C", Str.ofString "D", Str.ofString "E", Str.ofString "F", Str.ofString "G", Str.ofString "H", Str.ofString "I", Str.ofString "J", Str.ofString "K", Str.ofString "L"]
abbrev rowsL : List Str := [Str.ofString "1", Str.ofString "2", Str.ofString "3", Str.ofString "4", Str.ofString "5", Str.ofString "6", Str.ofString "7", Str.ofString "8", Str.ofString "9", Str.ofString "10", Str.ofString "11", Str.ofString "12"]
abbrev hd (t : Str) : Str := L2.cutS t none (some 1)
abbrev tlS (t : Str) : Str := L2.cutS t (some 1) none
/-- the place that a text names -/
def cellQ (t : Str) : Option (Nat × Nat) := match rowsL.findIdx? (fun x => decide (x = tlS t)), colsL.findIdx? (fun x => decide (x = hd t)) with
  | some i, some j => some (i, j)
  | _, _ => none
def cellP : Option (Nat × Nat) → PV
  | some (i, j) => .tup [.int i, .int j]
  | none => .non
theorem in_strs {L : List Str} {a : Str} {st : Store} : inF true (.str a) (.tup (L.map .str)) st = .ok (.bl (L.findIdx? (fun x => decide (x = a))).isNone) st := by
  have h : (L.map PV.str).all flatP = true := by
    rw [List.all_eq_true]
    intro x hx
    rw [List.mem_map] at hx
    obtain ⟨y, _, rfl⟩ := hx
    rfl
  have h2 : ((L.map PV.str).any fun y => eqP y (.str a)) = (L.findIdx? (fun x => decide (x = a))).isSome := by
    rw [List.findIdx?_isSome, List.any_map]
    congr 1
  show (if flatP (.str a) = true ∧ (L.map PV.str).all flatP = true then _ else _) = _
  rw [if_pos ⟨rfl, h⟩, h2]
  cases (L.findIdx? (fun x => decide (x = a))) <;> rfl
theorem tru_bl {b : Bool} {st : Store} : truF (.bl b) st = some b := rfl
abbrev mHd : ME := mSl (mVar 0) none (some (mC (.int 1)))
abbrev mTl : ME := mSl (mVar 0) (some (mC (.int 1))) none
theorem cn_eq : m_f_cell_or_none = mSeq (mIfS (mOrT (mNotT (mTru (mIsi .str (mVar 0)))) (mOrT (mTest (mOp (inF true) mHd (mC (.tup (colsL.map .str))))) (mTest (mOp (inF true) mTl (mC (.tup (rowsL.map .str))))))) (mRet (mC .non)) mNext)
    (mRet (mTup (mCons (mKidx rowsL mTl) (mCons (mKidx colsL mHd) mNil)))) := rfl
theorem cn_str {t : Str} {st : Store} (ht : t.length ≤ sizeLine) : g_f_cell_or_none [.str t] st = .ok (cellP (cellQ t)) st := by
  show gOf N_f_cell_or_none m_f_cell_or_none [.str t] st = _
  rw [cn_eq]
  generalize eC : colsL = cs
  generalize eR : rowsL = rs
  have h1 : mHd [some (.str t)] st = .ok (.str (hd t)) st := by simp [mO, slF, ht]
  have h2 : mTl [some (.str t)] st = .ok (.str (tlS t)) st := by simp [mO, slF, ht]
  have e1 : mOp (inF true) mHd (mC (.tup (cs.map .str))) [some (.str t)] st = .ok (.bl (cs.findIdx? (fun x => decide (x = hd t))).isNone) st := by
    rw [mOp_ap, h1]
    show inF true (.str (hd t)) (.tup (cs.map .str)) st = _
    exact in_strs
  have e2 : mOp (inF true) mTl (mC (.tup (rs.map .str))) [some (.str t)] st = .ok (.bl (rs.findIdx? (fun x => decide (x = tlS t))).isNone) st := by
    rw [mOp_ap, h2]
    show inF true (.str (tlS t)) (.tup (rs.map .str)) st = _
    exact in_strs
  unfold cellQ
  rw [eC, eR]
  unfold gOf
  rw [show startS N_f_cell_or_none [.str t] = [some (.str t)] from rfl]
  have hT : mTest (mOp (inF true) mHd (mC (.tup (cs.map .str)))) [some (.str t)] st = .ok (cs.findIdx? (fun x => decide (x = hd t))).isNone st := by rw [mTest_ap, e1]; rfl
  have hT2 : mTest (mOp (inF true) mTl (mC (.tup (rs.map .str)))) [some (.str t)] st = .ok (rs.findIdx? (fun x => decide (x = tlS t))).isNone st := by rw [mTest_ap, e2]; rfl
  have h0 : mNotT (mTru (mIsi .str (mVar 0))) [some (.str t)] st = .ok false st := rfl
  rw [mSeq_ap, mIfS_ap, mOrT_ap, h0]
  simp only [bind_ok, Bool.false_eq_true, if_false, mOrT_ap, hT]
  cases c1 : cs.findIdx? (fun x => decide (x = hd t)) with
  | none => cases rs.findIdx? (fun x => decide (x = tlS t)) <;> rfl
  | some j =>
    simp only [Option.isNone_some, Bool.false_eq_true, if_false, hT2]
    cases c2 : rs.findIdx? (fun x => decide (x = tlS t)) with
    | none => rfl
    | some i =>
      simp only [Option.isNone_some, fl_ok, Bool.false_eq_true, if_false, mNext_ap, mRet_ap, mTup_ap, mCons_ap, mKidx_ap, h1, h2, bind_ok, c1, c2, mNil_ap]
      rfl
theorem cn_other {x : PV} {st : Store} {T : Ty} (h : tyC x st = some T) (hT : T ≠ .str) : g_f_cell_or_none [x] st = .ok .non st := by
  show gOf N_f_cell_or_none m_f_cell_or_none [x] st = _
  have h0 : mNotT (mTru (mIsi .str (mVar 0))) [some x] st = .ok true st := by
    cases T <;> simp [h] at hT ⊢ <;> rfl
  unfold gOf m_f_cell_or_none
  rw [show startS N_f_cell_or_none [x] = [some x] from rfl, mSeq_ap, mIfS_ap, mOrT_ap, h0]
  rfl
end K01

namespace K01
open PySem Sm
/-! ### areas -/
def areaP : Option (Nat × Nat × Nat × Nat) → PV
  | some (a, b, c, d) => .tup [.int a, .int b, .int c, .int d]
  | none => .non
def joinQ (x y : Option (Nat × Nat)) : Option (Nat × Nat × Nat × Nat) := match x, y with
  | some (a, b), some (c, d) => if a ≤ c ∧ b ≤ d then some (a, b, c, d) else none
  | _, _ => none
abbrev colon : Str := Str.ofString ":"
def areaQ (t : Str) : Option (Nat × Nat × Nat × Nat) := joinQ (cellQ (Txt.partition t colon).1) (cellQ (Txt.partition t colon).2.2)
theorem cellQ_lt {t : Str} {i j : Nat} (h : cellQ t = some (i, j)) : i < 12 ∧ j < 12 := by
  unfold cellQ at h
  generalize eC : colsL = cs at h
  generalize eR : rowsL = rs at h
  have lc : cs.length = 12 := by rw [← eC]; rfl
  have lr : rs.length = 12 := by rw [← eR]; rfl
  cases c2 : rs.findIdx? (fun x => decide (x = tlS t)) with
  | none => rw [c2] at h; cases h
  | some i2 =>
    cases c1 : cs.findIdx? (fun x => decide (x = hd t)) with
    | none => rw [c2, c1] at h; cases h
    | some j2 =>
      rw [c2, c1] at h
      cases h
      obtain ⟨h1, _⟩ := List.findIdx?_eq_some_iff_getElem.mp c1
      obtain ⟨h2, _⟩ := List.findIdx?_eq_some_iff_getElem.mp c2
      omega
theorem between_ap {v a b : Int} {st : Store} : g_f_is_integer_between [.int v, .int a, .int b] st = .ok (.bl (decide (a ≤ v) && decide (v ≤ b))) st := by
  show gOf N_f_is_integer_between m_f_is_integer_between [.int v, .int a, .int b] st = _
  unfold gOf m_f_is_integer_between
  rw [show startS N_f_is_integer_between [.int v, .int a, .int b] = [some (.int v), some (.int a), some (.int b)] from rfl]
  have h : mChain leF leF (mVar 1) (mVar 0) (mVar 2) [some (.int v), some (.int a), some (.int b)] st = .ok (.bl (decide (a ≤ v) && decide (v ≤ b))) st := by
    rw [mChain_ap]
    by_cases c : a ≤ v
    · simp [leF, c]
    · simp [leF, c]
  rw [mRet_ap, mAndV_ap]
  simp only [mIsi_ap, mVar_ap, List.getElem?_cons_zero, bind_ok]
  rw [show tyC (.int v) st = some .int from rfl]
  simp only [bind_ok]
  rw [show isT Ty.int Ty.int = true from rfl]
  simp only [if_true, mAndV_ap, mNotV_ap, mIsi_ap, mVar_ap, List.getElem?_cons_zero, bind_ok]
  rw [show tyC (.int v) st = some .int from rfl]
  simp only [bind_ok]
  rw [show isT Ty.int Ty.bl = false from rfl]
  simp only [Bool.not_false, if_true, h, fl_ok]
theorem index_ap {v : Int} {st : Store} : g_f_is_index [.int v] st = .ok (.bl (decide (0 ≤ v) && decide (v ≤ 11))) st := by
  show gOf N_f_is_index m_f_is_index [.int v] st = _
  unfold gOf m_f_is_index
  rw [show startS N_f_is_index [.int v] = [some (.int v)] from rfl, mRet_ap, mFn_ap]
  have : (mCons (mVar 0) (mCons (mC (.int 0)) (mCons (mOp subF (mC (.int (12))) (mC (.int 1))) mNil))) [some (.int v)] st = .ok [.int v, .int 0, .int 11] st := rfl
  rw [this]
  simp only [bind_ok, List.length_cons, List.length_nil, if_true, between_ap]
  rfl
theorem all_true {z : Option PV} {xs : List PV} {σ : Slots} {st : Store} {all : List PV} (i1 : ∀ x ∈ xs, ∀ s, g_f_is_index [x] s = .ok (.bl true) s) : ∀ (acc : List PV), acc.length + xs.length ≤ 1000 →
    lcF (gNm 1) mYes (mFn 1 g_f_is_index (mCons (mVar 1) mNil)) none all (z :: none :: σ) st.length xs (st ++ [.lst acc]) = .ok (.ref st.length) (st ++ [.lst (acc ++ xs.map fun _ => .bl true)]) := by
  induction xs with
  | nil => intro acc _; rw [lcF, if_pos stays_none]; simp
  | cons x r ih =>
    intro acc hl
    rw [lcF, if_pos stays_none]
    have e : mFn 1 g_f_is_index (mCons (mVar 1) mNil) ((z :: none :: σ).set 1 (some x)) (st ++ [.lst acc]) = .ok (.bl true) (st ++ [.lst acc]) := by
      rw [mFn_ap, show mCons (mVar 1) mNil ((z :: none :: σ).set 1 (some x)) (st ++ [.lst acc]) = .ok [x] (st ++ [.lst acc]) from rfl, bind_ok]
      simp only [List.length_cons, List.length_nil, if_true]
      rw [i1 x List.mem_cons_self]
    have hg : getM (st ++ [.lst acc]) st.length = some acc := getM_lst (by simp)
    simp only [List.length_cons] at hl
    have hz : acc.length < sizeLine := by rw [sizeLine_eq]; omega
    simp only [gNm_ap, mYes_ap, bindN_ok, if_true]
    rw [e]
    simp only [bindN_ok, hg, hz, if_true]
    rw [show (st ++ [Cell.lst acc]).set st.length (.lst (acc ++ [.bl true])) = st ++ [.lst (acc ++ [.bl true])] from by simp]
    rw [ih (fun y hy => i1 y (List.mem_cons_of_mem _ hy)) (acc ++ [PV.bl true]) (by simp; omega)]
    simp
theorem isarea_ap {a b c d : Int} {st : Store} (h1 : 0 ≤ a ∧ a ≤ 11) (h2 : 0 ≤ b ∧ b ≤ 11) (h3 : 0 ≤ c ∧ c ≤ 11) (h4 : 0 ≤ d ∧ d ≤ 11) : ∃ more, g_f_is_area [.tup [.int a, .int b, .int c, .int d]] st = .ok (.bl (decide (a ≤ c) && decide (b ≤ d))) (st ++ more) := by
  refine ⟨[.lst [.bl true, .bl true, .bl true, .bl true]], ?_⟩
  show gOf N_f_is_area m_f_is_area [.tup [.int a, .int b, .int c, .int d]] st = _
  have i1 : ∀ {v : Int} {s : Store}, 0 ≤ v ∧ v ≤ 11 → g_f_is_index [.int v] s = .ok (.bl true) s := fun h => by rw [index_ap]; simp [h]
  have L : mCall allF (mCons (mLc (mItT (mVar 0)) (gNm 1) mYes (mFn 1 g_f_is_index (mCons (mVar 1) mNil)) [1]) mNil) [some (.tup [.int a, .int b, .int c, .int d]), none, none, none, none, none] st = .ok (.bl true) (st ++ [.lst [.bl true, .bl true, .bl true, .bl true]]) := by
    rw [mCall_ap, mCons_ap, mLc_ap, show mItT (mVar 0) [some (.tup [.int a, .int b, .int c, .int d]), none, none, none, none, none] st = .ok (none, [.int a, .int b, .int c, .int d]) st from rfl, bind_ok]
    have hw : wipeS [some (.tup [.int a, .int b, .int c, .int d]), none, none, none, none, none] [1] = some (.tup [.int a, .int b, .int c, .int d]) :: none :: [none, none, none, none] := rfl
    dsimp only
    rw [hw, all_true (fun x hx s => by
      simp only [List.mem_cons, List.not_mem_nil, or_false] at hx
      rcases hx with rfl | rfl | rfl | rfl
      · exact i1 h1
      · exact i1 h2
      · exact i1 h3
      · exact i1 h4) [] (by simp)]
    simp only [bind_ok, mNil_ap, List.nil_append, List.map_cons, List.map_nil]
    have hg : getL (st ++ [Cell.lst [.bl true, .bl true, .bl true, .bl true]]) st.length = some [.bl true, .bl true, .bl true, .bl true] := by unfold getL; simp
    rw [show allF [.ref st.length] (st ++ [Cell.lst [.bl true, .bl true, .bl true, .bl true]]) = .ok (.bl true) (st ++ [Cell.lst [.bl true, .bl true, .bl true, .bl true]]) from by unfold allF; dsimp only; rw [hg]; rfl]
  unfold gOf m_f_is_area
  rw [show startS N_f_is_area [.tup [.int a, .int b, .int c, .int d]] = [some (.tup [.int a, .int b, .int c, .int d]), none, none, none, none, none] from rfl]
  have h0 : mNotT (mTru (mIsi .tup (mVar 0))) [some (.tup [.int a, .int b, .int c, .int d]), none, none, none, none, none] st = .ok false st := rfl
  have h00 : mTest (mOp (eqF true) (mCall lenF (mCons (mVar 0) mNil)) (mC (.int 4))) [some (.tup [.int a, .int b, .int c, .int d]), none, none, none, none, none] st = .ok false st := rfl
  rw [mSeq_ap, mIfS_ap, mOrT_ap, h0]
  simp only [bind_ok, Bool.false_eq_true, if_false, mOrT_ap, h00, mNotT_ap, mTru_ap, L]
  by_cases x : a ≤ c
  · by_cases y : b ≤ d
    · simp [truF, leF, x, y]
    · simp [truF, leF, x, y]
  · simp [truF, leF, x]
end K01

namespace K01
open PySem Sm
theorem areaQ_lt {t : Str} {a b c d : Nat} (h : areaQ t = some (a, b, c, d)) : a < 12 ∧ b < 12 ∧ c < 12 ∧ d < 12 ∧ a ≤ c ∧ b ≤ d := by
  unfold areaQ joinQ at h
  cases e1 : cellQ (Txt.partition t colon).1 with
  | none => rw [e1] at h; cases h
  | some p =>
    obtain ⟨a', b'⟩ := p
    cases e2 : cellQ (Txt.partition t colon).2.2 with
    | none => rw [e1, e2] at h; cases h
    | some q =>
      obtain ⟨c', d'⟩ := q
      rw [e1, e2] at h
      dsimp only at h
      split at h
      · cases h
        have := cellQ_lt e1
        have := cellQ_lt e2
        omega
      · cases h
theorem part_ap {t : Str} {σ : Slots} {st : Store} (ht : t.length ≤ sizeLine) : mBM .str partF (mVar 0) (mCons (mC (.str colon)) mNil) (some (.str t) :: σ) st = .ok (.tup [.str (Txt.partition t colon).1, .str (Txt.partition t colon).2.1, .str (Txt.partition t colon).2.2]) st := by
  rw [mBM_ap, show mVar 0 (some (.str t) :: σ) st = .ok (.str t) st from rfl, bind_ok, show tyC (.str t) st = some .str from rfl, if_pos ⟨rfl, by decide⟩, show (mCons (mC (.str colon)) mNil) (some (.str t) :: σ) st = .ok [.str colon] st from rfl, bind_ok]
  have hc : (colon.length == 0) = false := by decide +kernel
  unfold partF
  dsimp only
  rw [if_pos ⟨hc, ht⟩]
theorem fn1_ap {g : MC} {x y : PV} {i : Nat} {σ : Slots} {st st' : Store} (hv : σ[i]? = some (some x)) (e : g [x] st = .ok y st') : mFn 1 g (mCons (mVar i) mNil) σ st = .ok y st' := by
  rw [mFn_ap, show mCons (mVar i) mNil σ st = .ok [x] st from by simp [hv], bind_ok]
  simp only [List.length_cons, List.length_nil, if_true, e]
theorem an_str {t : Str} {st : Store} (ht : t.length ≤ sizeLine) : ∃ more, g_f_area_or_none [.str t] st = .ok (areaP (areaQ t)) (st ++ more) := by
  obtain ⟨f1, f2, f3⟩ := PyProof.Rows.fact_partition t colon
  show ∃ more, gOf N_f_area_or_none m_f_area_or_none [.str t] st = _
  unfold gOf m_f_area_or_none
  rw [show startS N_f_area_or_none [.str t] = [some (.str t), none, none, none, none, none, none] from rfl]
  have h0 : mIfS (mNotT (mTru (mIsi .str (mVar 0)))) (mRet (mC .non)) mNext [some (.str t), none, none, none, none, none, none] st = .nx [some (.str t), none, none, none, none, none, none] st := rfl
  rw [mSeq_ap, h0]
  dsimp only
  rw [mSeq_ap, mAsg_ap, part_ap ht, fl_ok]
  unfold areaQ
  have n1 : (Txt.partition t colon).1.length ≤ sizeLine := Nat.le_trans f1 ht
  have n2 : (Txt.partition t colon).2.2.length ≤ sizeLine := Nat.le_trans f3 ht
  generalize (Txt.partition t colon).1 = p1 at *
  generalize (Txt.partition t colon).2.1 = p2 at *
  generalize (Txt.partition t colon).2.2 = p3 at *
  have hg : gTp 3 (gCons (gNm 1) (gCons (gNm 2) (gCons (gNm 3) gNil))) (.tup [.str p1, .str p2, .str p3]) [some (.str t), none, none, none, none, none, none] st = some ([some (.str t), some (.str p1), some (.str p2), some (.str p3), none, none, none], st) := rfl
  rw [hg]
  dsimp only
  rw [mSeq_ap, mAsg_ap, fn1_ap (x := .str p1) rfl (cn_str n1), fl_ok, gNm_ap]
  dsimp only
  rw [mSeq_ap, mAsg_ap, fn1_ap (x := .str p3) rfl (cn_str n2), fl_ok, gNm_ap]
  dsimp only [List.set_cons_zero, List.set_cons_succ]
  cases e1 : cellQ p1 with
  | none => exact ⟨[], by rw [List.append_nil]; rfl⟩
  | some x =>
    obtain ⟨a, b⟩ := x
    cases e2 : cellQ p3 with
    | none => exact ⟨[], by rw [List.append_nil]; rfl⟩
    | some y =>
      obtain ⟨c, d⟩ := y
      have l1 := cellQ_lt e1
      have l2 := cellQ_lt e2
      obtain ⟨more, ea⟩ := isarea_ap (a := (a : Int)) (b := (b : Int)) (c := (c : Int)) (d := (d : Int)) (st := st) (by omega) (by omega) (by omega) (by omega)
      refine ⟨more, ?_⟩
      have hs : ∀ (σ : Slots), mIfS (mOrT (mTest (mOp (isNF false) (mVar 4) (mC .non))) (mTest (mOp (isNF false) (mVar 5) (mC .non)))) (mRet (mC .non)) mNext [some (.str t), some (.str p1), some (.str p2), some (.str p3), some (cellP (some (a, b))), some (cellP (some (c, d))), none] st = .nx [some (.str t), some (.str p1), some (.str p2), some (.str p3), some (cellP (some (a, b))), some (cellP (some (c, d))), none] st := fun _ => rfl
      rw [mSeq_ap, hs []]
      dsimp only
      have hadd : mOp addF (mVar 4) (mVar 5) [some (.str t), some (.str p1), some (.str p2), some (.str p3), some (cellP (some (a, b))), some (cellP (some (c, d))), none] st = .ok (.tup [.int a, .int b, .int c, .int d]) st := by
        show addF (cellP (some (a, b))) (cellP (some (c, d))) st = _
        unfold cellP addF
        dsimp only
        rw [if_pos (by rw [sizeLine_eq]; simp)]
        rfl
      rw [mSeq_ap, mAsg_ap, hadd, fl_ok, gNm_ap]
      dsimp only [List.set_cons_zero, List.set_cons_succ]
      rw [mSeq_ap, mIfS_ap, mNotT_ap, mTru_ap, fn1_ap (i := 6) (x := .tup [.int a, .int b, .int c, .int d]) rfl ea, bind_ok]
      unfold joinQ
      dsimp only
      by_cases h : a ≤ c ∧ b ≤ d
      · have q : (decide ((a : Int) ≤ c) && decide ((b : Int) ≤ d)) = true := by simp; omega
        rw [q, if_pos h]
        rfl
      · have q : (decide ((a : Int) ≤ c) && decide ((b : Int) ≤ d)) = false := by
          rw [Bool.and_eq_false_iff, decide_eq_false_iff_not, decide_eq_false_iff_not]
          omega
        rw [q, if_neg h]
        rfl
theorem an_other {x : PV} {st : Store} {T : Ty} (h : tyC x st = some T) (hT : T ≠ .str) : g_f_area_or_none [x] st = .ok .non st := by
  show gOf N_f_area_or_none m_f_area_or_none [x] st = _
  have h0 : mNotT (mTru (mIsi .str (mVar 0))) [some x, none, none, none, none, none, none] st = .ok true st := by
    cases T <;> simp [h] at hT ⊢ <;> rfl
  unfold gOf m_f_area_or_none
  rw [show startS N_f_area_or_none [x] = [some x, none, none, none, none, none, none] from rfl, mSeq_ap, mIfS_ap, h0]
  rfl
end K01

namespace K01
open PySem PySem.Spec PyProof.Rows Sm
/-! ### a text cut at its colons -/
theorem cols_no : ∀ x ∈ colsL, 58 ∉ x.cps.toList := by decide +kernel
theorem rows_no : ∀ x ∈ rowsL, 58 ∉ x.cps.toList := by decide +kernel
theorem cut_sum (t : Str) : t.cps.toList = (hd t).cps.toList ++ (tlS t).cps.toList := by
  show _ = (L2.cutS t none (some 1)).cps.toList ++ (L2.cutS t (some 1) none).cps.toList
  unfold L2.cutS
  dsimp only
  have hl : t.cps.toList.length = t.length := by unfold Str.length; simp
  generalize t.cps.toList = l at *
  cases l with
  | nil => simp
  | cons c r =>
    simp only [List.length_cons] at hl
    have h1 : HT.sIx t.length t.length (some 1) = 1 := by
      show (if (1 : Int) < 0 then ((1 : Int) + (t.length : Int)).toNat else min (1 : Int).toNat t.length) = 1
      rw [if_neg (by decide)]
      show min 1 t.length = 1
      omega
    have h2 : HT.sIx t.length 0 (some 1) = 1 := by
      show (if (1 : Int) < 0 then ((1 : Int) + (t.length : Int)).toNat else min (1 : Int).toNat t.length) = 1
      rw [if_neg (by decide)]
      show min 1 t.length = 1
      omega
    have h3 : HT.sIx t.length 0 none = 0 := rfl
    have h4 : HT.sIx t.length t.length none = t.length := rfl
    rw [h1, h2, h3, h4]
    simp
    rw [List.take_of_length_le (by omega)]
theorem cellQ_no {t : Str} (h : 58 ∈ t.cps.toList) : cellQ t = none := by
  cases e : cellQ t with
  | none => rfl
  | some p =>
    unfold cellQ at e
    have c1 := cols_no
    have r1 := rows_no
    generalize colsL = cs at e c1
    generalize rowsL = rs at e r1
    cases e2 : rs.findIdx? (fun x => decide (x = tlS t)) with
    | none => rw [e2] at e; cases e
    | some i =>
      cases e1 : cs.findIdx? (fun x => decide (x = hd t)) with
      | none => rw [e2, e1] at e; cases e
      | some j =>
        obtain ⟨h1, q1, _⟩ := List.findIdx?_eq_some_iff_getElem.mp e1
        obtain ⟨h2, q2, _⟩ := List.findIdx?_eq_some_iff_getElem.mp e2
        rw [cut_sum t, List.mem_append] at h
        rcases h with h | h
        · exact absurd h ((of_decide_eq_true q1) ▸ c1 _ (List.getElem_mem h1))
        · exact absurd h ((of_decide_eq_true q2) ▸ r1 _ (List.getElem_mem h2))
def splitQ : List Str → Option (Nat × Nat × Nat × Nat)
  | [p, q] => joinQ (cellQ p) (cellQ q)
  | _ => none
def dueQ (t : Str) : Option (Nat × Nat × Nat × Nat) := splitQ (Txt.split t colon)
theorem due_area {t : Str} : dueQ t = areaQ t := by
  have hj := PySem.StrLaws.join_split t colon
  have hc : colon = ⟨#[58]⟩ := by decide +kernel
  have hf : ∀ p ∈ Txt.split t colon, 58 ∉ p.cps.toList := fun p hp => PySem.StrLaws.split_free t 58 p (by rw [← hc]; exact hp)
  have hn := (fact_split t colon).1
  have htl : TL.tl colon = 58 :: [] := by rw [hc]
  have hno : cellQ Str.empty = none := by decide +kernel
  unfold dueQ splitQ areaQ
  generalize Txt.split t colon = P at *
  cases P with
  | nil => simp at hn
  | cons p r =>
    have hp : ¬ 58 ∈ TL.tl p := hf p List.mem_cons_self
    cases r with
    | nil =>
      have e : p = t := hj
      have q := TL.partition_none (y := colon) (s := 58) (S := []) htl hp
      rw [← e, q]
      dsimp only
      rw [hno]
      unfold joinQ
      cases cellQ p <;> rfl
    | cons q r =>
      have e : p ++ colon ++ colon.join (q :: r) = t := hj
      have z := TL.partition_app (y := colon) (s := 58) (S := []) htl (a := p) (b := colon.join (q :: r)) hp
      rw [← e, z]
      cases r with
      | nil => rfl
      | cons q2 r =>
        dsimp only
        have h58 : 58 ∈ (colon.join (q :: q2 :: r)).cps.toList := by
          show 58 ∈ ((q ++ colon ++ colon.join (q2 :: r) : Str)).cps.toList
          have : (q ++ colon ++ colon.join (q2 :: r) : Str).cps = q.cps ++ colon.cps ++ (colon.join (q2 :: r)).cps := rfl
          rw [this, hc]
          simp
        rw [cellQ_no h58]
        unfold joinQ
        cases cellQ p <;> rfl
end K01

namespace K01
open PySem PySem.Spec PyProof.Rows Sm Lw
/-! ### the names -/
def nameS (i j : Nat) : Str := colsL.getD j Str.empty ++ rowsL.getD i Str.empty
def tupP (p : Nat × Nat) : PV := .tup [.int p.1, .int p.2]
theorem lt12 {i : Nat} (h : i < 12) : i = 0 ∨ i = 1 ∨ i = 2 ∨ i = 3 ∨ i = 4 ∨ i = 5 ∨ i = 6 ∨ i = 7 ∨ i = 8 ∨ i = 9 ∨ i = 10 ∨ i = 11 := by omega
theorem col12 {j : Nat} (h : j < 12) {st : Store} : ixF (.str (Str.ofString "ABCDEFGHIJKL")) (.int j) st = .ok (.str (colsL.getD j Str.empty)) st := by
  rcases lt12 h with rfl | rfl | rfl | rfl | rfl | rfl | rfl | rfl | rfl | rfl | rfl | rfl <;> rfl
theorem col26 {j : Nat} (h : j < 12) {st : Store} : ixF (.str (Str.ofString "ABCDEFGHIJKLMNOPQRSTUVWXYZ")) (.int j) st = .ok (.str (colsL.getD j Str.empty)) st := by
  rcases lt12 h with rfl | rfl | rfl | rfl | rfl | rfl | rfl | rfl | rfl | rfl | rfl | rfl <;> rfl
theorem row12 {i : Nat} (h : i < 12) {st : Store} : strIF [.int ((i : Int) + 1)] st = .ok (.str (rowsL.getD i Str.empty)) st := by
  rcases lt12 h with rfl | rfl | rfl | rfl | rfl | rfl | rfl | rfl | rfl | rfl | rfl | rfl <;> rfl
theorem colen : ∀ j, j < 12 → (colsL.getD j Str.empty).length = 1 := by decide +kernel
theorem rolen : ∀ i, i < 12 → (rowsL.getD i Str.empty).length ≤ 2 := by decide +kernel
theorem name_len {i j : Nat} (hi : i < 12) (hj : j < 12) : (nameS i j).length ≤ 3 := by
  have h1 := colen j hj
  have h2 := rolen i hi
  unfold nameS
  show ((colsL.getD j Str.empty).cps ++ (rowsL.getD i Str.empty).cps).size ≤ 3
  rw [Array.size_append]
  unfold Str.length at h1 h2
  omega
theorem add_small {a b : Str} {st : Store} (h : a.length + b.length ≤ 10000) : addF (.str a) (.str b) st = .ok (.str (a ++ b)) st := by
  have : a.length + b.length ≤ sizeLine := by rw [sizeLine_eq]; omega
  simp [this]
theorem lname_ap {i j : Nat} (hi : i < 12) (hj : j < 12) {st : Store} : g_f_law_name [tupP (i, j)] st = .ok (.str (nameS i j)) st := by
  show gOf N_f_law_name m_f_law_name [tupP (i, j)] st = _
  have h1 := colen j hj
  have h2 := rolen i hi
  unfold gOf m_f_law_name
  rw [show startS N_f_law_name [tupP (i, j)] = [some (tupP (i, j))] from rfl, mRet_ap]
  have e1 : mOp ixF (mC (.str (Str.ofString "ABCDEFGHIJKL"))) (mOp ixF (mVar 0) (mC (.int 1))) [some (tupP (i, j))] st = .ok (.str (colsL.getD j Str.empty)) st := col12 hj
  have e2 : mCall strIF (mCons (mOp addF (mOp ixF (mVar 0) (mC (.int 0))) (mC (.int 1))) mNil) [some (tupP (i, j))] st = .ok (.str (rowsL.getD i Str.empty)) st := by
    rw [mCall_ap, show mCons (mOp addF (mOp ixF (mVar 0) (mC (.int 0))) (mC (.int 1))) mNil [some (tupP (i, j))] st = .ok [.int ((i : Int) + 1)] st from rfl, bind_ok, row12 hi]
  rw [mOp_ap, e1, bind_ok, e2, bind_ok, add_small (by omega)]
  rfl
theorem cname_ap {i j : Nat} (hi : i < 12) (hj : j < 12) {st : Store} : g_f_cell_name [tupP (i, j)] st = .ok (.str (nameS i j)) st := by
  show gOf N_f_cell_name m_f_cell_name [tupP (i, j)] st = _
  have h1 := colen j hj
  have h2 := rolen i hi
  unfold gOf m_f_cell_name
  rw [show startS N_f_cell_name [tupP (i, j)] = [some (tupP (i, j)), none, none] from rfl, mSeq_ap, show mAsg (mVar 0) (gTp 2 (gCons (gNm 1) (gCons (gNm 2) gNil))) [some (tupP (i, j)), none, none] st = .nx [some (tupP (i, j)), some (.int i), some (.int j)] st from rfl]
  dsimp only
  rw [mRet_ap]
  have e1 : mOp ixF (mC (.str (Str.ofString "ABCDEFGHIJKLMNOPQRSTUVWXYZ"))) (mVar 2) [some (tupP (i, j)), some (.int i), some (.int j)] st = .ok (.str (colsL.getD j Str.empty)) st := col26 hj
  have e2 : mCall strIF (mCons (mOp addF (mVar 1) (mC (.int 1))) mNil) [some (tupP (i, j)), some (.int i), some (.int j)] st = .ok (.str (rowsL.getD i Str.empty)) st := by
    rw [mCall_ap, show mCons (mOp addF (mVar 1) (mC (.int 1))) mNil [some (tupP (i, j)), some (.int i), some (.int j)] st = .ok [.int ((i : Int) + 1)] st from rfl, bind_ok, row12 hi]
  rw [mOp_ap, e1, bind_ok, e2, bind_ok, add_small (by omega)]
  rfl
/-- what a text names is its name -/
theorem cellQ_name {t : Str} {i j : Nat} (h : cellQ t = some (i, j)) : t = nameS i j := by
  have s := cut_sum t
  unfold cellQ at h
  unfold nameS
  generalize eC : colsL = cs at *
  generalize eR : rowsL = rs at *
  cases e2 : rs.findIdx? (fun x => decide (x = tlS t)) with
  | none => rw [e2] at h; cases h
  | some i' =>
    cases e1 : cs.findIdx? (fun x => decide (x = hd t)) with
    | none => rw [e2, e1] at h; cases h
    | some j' =>
      rw [e2, e1] at h
      cases h
      obtain ⟨h1, q1, _⟩ := List.findIdx?_eq_some_iff_getElem.mp e1
      obtain ⟨h2, q2, _⟩ := List.findIdx?_eq_some_iff_getElem.mp e2
      rw [show cs.getD j Str.empty = cs[j] from by simp [List.getD, List.getElem?_eq_getElem h1], show rs.getD i Str.empty = rs[i] from by simp [List.getD, List.getElem?_eq_getElem h2], of_decide_eq_true q1, of_decide_eq_true q2]
      show t = ⟨(hd t).cps ++ (tlS t).cps⟩
      have : t.cps = (hd t).cps ++ (tlS t).cps := by
        apply Array.toList_inj.mp
        rw [Array.toList_append]
        exact s
      exact congrArg Str.mk this
theorem name_cell : ∀ i, i < 12 → ∀ j, j < 12 → cellQ (nameS i j) = some (i, j) := by decide +kernel
def Named (S : List (Nat × Nat)) (kvs : List (L2.Key × PV)) : Prop := ∀ t : Str, valP kvs (.inr t) = match cellQ t with
  | some p => if p ∈ S then some (tupP p) else none
  | none => none
theorem val_cons {a : L2.Key × PV} {r : List (L2.Key × PV)} {k : L2.Key} : valP (a :: r) k = if a.1 = k then some a.2 else valP r k := by
  unfold valP
  rw [List.find?_cons]
  by_cases h : a.1 = k
  · simp [h]
  · simp [h]
theorem val_swap {k k' : L2.Key} {z : PV} (hk : k' ≠ k) : ∀ {kvs : List (L2.Key × PV)}, valP (swapP kvs k z) k' = valP kvs k'
  | [] => rfl
  | a :: r => by
    show valP ((if a.1 = k then (a.1, z) else a) :: swapP r k z) k' = _
    rw [val_cons, val_cons, val_swap hk]
    by_cases h : a.1 = k
    · rw [if_pos h]
      have : ¬ a.1 = k' := fun q => hk (q.symm.trans h)
      simp [this]
    · rw [if_neg h]
theorem val_swap_same {k : L2.Key} {z : PV} : ∀ {kvs : List (L2.Key × PV)}, (kvs.any fun kv => decide (kv.1 = k)) = true → valP (swapP kvs k z) k = some z
  | [], h => by cases h
  | a :: r, h => by
    show valP ((if a.1 = k then (a.1, z) else a) :: swapP r k z) k = _
    rw [val_cons]
    by_cases hc : a.1 = k
    · rw [if_pos hc]; simp [hc]
    · rw [if_neg hc, if_neg hc]
      rw [List.any_cons, Bool.or_eq_true] at h
      rcases h with h | h
      · exact absurd (of_decide_eq_true h) hc
      · exact val_swap_same h
theorem val_app {k k' : L2.Key} {z : PV} : ∀ {kvs : List (L2.Key × PV)}, (kvs.any fun kv => decide (kv.1 = k)) = false → valP (kvs ++ [(k, z)]) k' = if k' = k then some z else valP kvs k'
  | [], _ => by
    rw [List.nil_append, val_cons]
    by_cases h : k = k'
    · simp [h]
    · rw [if_neg h, if_neg (Ne.symm h)]
  | a :: r, h => by
    rw [List.any_cons, Bool.or_eq_false_iff] at h
    rw [List.cons_append, val_cons, val_cons, val_app h.2]
    by_cases hc : a.1 = k'
    · rw [if_pos hc, if_pos hc, if_neg (fun q => by have := of_decide_eq_false h.1; exact this (hc.trans q))]
    · rw [if_neg hc, if_neg hc]
theorem val_put {kvs : List (L2.Key × PV)} {k k' : L2.Key} {z : PV} : valP (putP kvs k z) k' = if k' = k then some z else valP kvs k' := by
  unfold putP
  cases h : kvs.any fun kv => decide (kv.1 = k) with
  | true =>
    rw [if_pos rfl]
    by_cases hk : k' = k
    · subst hk; rw [if_pos rfl]; exact val_swap_same h
    · rw [if_neg hk]; exact val_swap hk
  | false =>
    rw [if_neg (by decide)]
    exact val_app h
theorem put_len {kvs : List (L2.Key × PV)} {k : L2.Key} {z : PV} : (putP kvs k z).length ≤ kvs.length + 1 := by
  unfold putP
  split
  · unfold swapP; rw [List.length_map]; omega
  · simp
theorem Named.put {S : List (Nat × Nat)} {kvs : List (L2.Key × PV)} {i j : Nat} (h : Named S kvs) (hi : i < 12) (hj : j < 12) : Named ((i, j) :: S) (putP kvs (.inr (nameS i j)) (tupP (i, j))) := by
  intro t
  rw [val_put]
  by_cases ht : t = nameS i j
  · subst ht
    rw [if_pos rfl, name_cell i hi j hj]
    simp
  · rw [if_neg (fun z => ht (Sum.inr.inj z)), h t]
    cases e : cellQ t with
    | none => rfl
    | some p =>
      have hp : p ≠ (i, j) := fun z => ht (cellQ_name (z ▸ e))
      simp [hp]
/-! ### the loops that fill the dict -/
theorem put_ap {base : Store} {kvs : List (L2.Key × PV)} {i j : Nat} (hi : i < 12) (hj : j < 12) (hl : kvs.length < 1000) :
    L1_f_law_all_names [some (.ref base.length), some (.int i), some (.int j)] (base ++ [.dk kvs]) = .nx [some (.ref base.length), some (.int i), some (.int j)] (base ++ [.dk (putP kvs (.inr (nameS i j)) (tupP (i, j)))]) := by
  unfold L1_f_law_all_names
  have et : mTup (mCons (mVar 1) (mCons (mVar 2) mNil)) [some (.ref base.length), some (.int i), some (.int j)] (base ++ [Cell.dk kvs]) = .ok (tupP (i, j)) (base ++ [Cell.dk kvs]) := rfl
  have en : mFn 1 g_f_law_name (mCons (mTup (mCons (mVar 1) (mCons (mVar 2) mNil))) mNil) [some (.ref base.length), some (.int i), some (.int j)] (base ++ [Cell.dk kvs]) = .ok (.str (nameS i j)) (base ++ [Cell.dk kvs]) := by
    rw [mFn_ap, mCons_ap, et, bind_ok, mNil_ap, bind_ok]
    simp only [bind_ok, List.length_cons, List.length_nil, if_true, lname_ap hi hj]
  have hg : getK (base ++ [Cell.dk kvs]) base.length = some kvs := getK_dk (by simp)
  have hz : kvs.length < sizeLine := by rw [sizeLine_eq]; omega
  rw [mDput_ap, et, fl_ok, show mVar 0 [some (.ref base.length), some (.int i), some (.int j)] (base ++ [Cell.dk kvs]) = .ok (.ref base.length) (base ++ [Cell.dk kvs]) from rfl, fl_ok, en, fl_ok]
  show (match getK (base ++ [Cell.dk kvs]) base.length with | some kvs => _ | none => _) = _
  rw [hg]
  dsimp only
  rw [if_pos hz, set_end]
theorem inner_ap {base : Store} {i : Nat} {all : List PV} (hi : i < 12) : ∀ (js : List Nat) (kvs : List (L2.Key × PV)) (S : List (Nat × Nat)) (o : Option PV), (∀ j ∈ js, j < 12) → kvs.length + js.length < 1000 → Named S kvs →
    ∃ o' kvs' S', loopF (gNm 2) L1_f_law_all_names none all (js.map fun j => .int (j : Nat)) [some (.ref base.length), some (.int i), o] (base ++ [.dk kvs]) = .nx [some (.ref base.length), some (.int i), o'] (base ++ [.dk kvs']) ∧ Named S' kvs' ∧ kvs'.length ≤ kvs.length + js.length ∧ (∀ p ∈ S, p ∈ S') ∧ ∀ j ∈ js, (i, j) ∈ S'
  | [], kvs, S, o, _, _, h => ⟨o, kvs, S, by rw [List.map_nil, loopF, if_pos stays_none], h, by simp, fun _ q => q, fun _ q => nomatch q⟩
  | j :: js, kvs, S, o, hj, hl, h => by
    rw [List.length_cons] at hl
    have j1 := hj j List.mem_cons_self
    have pl := put_len (kvs := kvs) (k := .inr (nameS i j)) (z := tupP (i, j))
    obtain ⟨o', kvs', S', e, h', l', m1, m2⟩ := inner_ap (all := all) hi js (putP kvs (.inr (nameS i j)) (tupP (i, j))) ((i, j) :: S) (some (.int j)) (fun q hq => hj q (List.mem_cons_of_mem _ hq)) (by omega) (h.put hi j1)
    refine ⟨o', kvs', S', ?_, h', by rw [List.length_cons]; omega, fun p hp => m1 p (List.mem_cons_of_mem _ hp), fun q hq => ?_⟩
    · rw [List.map_cons, loopF, if_pos stays_none]
      simp only [gNm_ap, List.set_cons_succ, List.set_cons_zero]
      rw [put_ap hi j1 (by omega)]
      exact e
    · rcases List.mem_cons.mp hq with rfl | hq
      · exact m1 _ List.mem_cons_self
      · exact m2 q hq
theorem outer_ap {base : Store} {all : List PV} : ∀ (is : List Nat) (kvs : List (L2.Key × PV)) (S : List (Nat × Nat)) (o1 o2 : Option PV), (∀ i ∈ is, i < 12) → kvs.length + 12 * is.length < 1000 → Named S kvs →
    ∃ o1' o2' kvs' S', loopF (gNm 1) L2_f_law_all_names none all (is.map fun j => .int (j : Nat)) [some (.ref base.length), o1, o2] (base ++ [.dk kvs]) = .nx [some (.ref base.length), o1', o2'] (base ++ [.dk kvs']) ∧ Named S' kvs' ∧ (∀ p ∈ S, p ∈ S') ∧ ∀ i ∈ is, ∀ j, j < 12 → (i, j) ∈ S'
  | [], kvs, S, o1, o2, _, _, h => ⟨o1, o2, kvs, S, by rw [List.map_nil, loopF, if_pos stays_none], h, fun _ q => q, fun _ q => nomatch q⟩
  | i :: is, kvs, S, o1, o2, hi, hl, h => by
    rw [List.length_cons] at hl
    have i1 := hi i List.mem_cons_self
    obtain ⟨o', kvs', S', e, h', l', m1, m2⟩ := inner_ap (base := base) (all := rangeP 0 12) i1 (List.range 12) kvs S o2 (fun j hj => List.mem_range.mp hj) (by simp; omega) h
    rw [List.length_range] at l'
    obtain ⟨a1, a2, kvs2, S2, e2, h2, n1, n2⟩ := outer_ap (base := base) (all := all) is kvs' S' (some (.int i)) o' (fun q hq => hi q (List.mem_cons_of_mem _ hq)) (by omega) h'
    refine ⟨a1, a2, kvs2, S2, ?_, h2, fun p hp => n1 p (m1 p hp), fun q hq j hj => ?_⟩
    · rw [List.map_cons, loopF, if_pos stays_none]
      simp only [gNm_ap, List.set_cons_succ, List.set_cons_zero]
      have f : L2_f_law_all_names [some (.ref base.length), some (.int i), o2] (base ++ [Cell.dk kvs]) = .nx [some (.ref base.length), some (.int i), o'] (base ++ [Cell.dk kvs']) := by
        unfold L2_f_law_all_names
        rw [mFor_ap, show mItR1 (mCons (mC (.int 12)) mNil) [some (.ref base.length), some (.int i), o2] (base ++ [Cell.dk kvs]) = .ok (none, rangeP 0 12) (base ++ [Cell.dk kvs]) from rfl, fl_ok]
        have : rangeP 0 12 = (List.range 12).map fun j => PV.int (j : Nat) := by simp [rangeP]
        dsimp only
        rw [this] at e ⊢
        exact e
      rw [f]
      exact e2
    · rcases List.mem_cons.mp hq with rfl | hq
      · exact n1 _ (m2 j (List.mem_range.mpr hj))
      · exact n2 q hq j hj
/-- the dict of all names -/
def AllN (st : Store) (n : Nat) : Prop := ∃ kvs, st[n]? = some (.dk kvs) ∧ ∀ t : Str, valP kvs (.inr t) = (cellQ t).map tupP
theorem names_ap {st : Store} : ∃ st', g_f_law_all_names [] st = .ok (.ref st.length) st' ∧ Ex st st' ∧ AllN st' st.length := by
  have h0 : Named [] [] := fun t => by
    show none = _
    cases cellQ t <;> simp
  obtain ⟨o1, o2, kvs, S, e, h, _, m⟩ := outer_ap (base := st) (all := rangeP 0 12) (List.range 12) [] [] none none (fun j hj => List.mem_range.mp hj) (by simp) h0
  refine ⟨st ++ [.dk kvs], ?_, Ex.push, kvs, by simp, fun t => ?_⟩
  · show gOf N_f_law_all_names m_f_law_all_names [] st = _
    unfold gOf m_f_law_all_names
    rw [show startS N_f_law_all_names [] = [none, none, none] from rfl, mSeq_ap, show mAsg mDnew (gNm 0) [none, none, none] st = .nx [some (.ref st.length), none, none] (st ++ [.dk []]) from rfl]
    dsimp only
    rw [mSeq_ap, mFor_ap, show mItR1 (mCons (mC (.int 12)) mNil) [some (.ref st.length), none, none] (st ++ [Cell.dk []]) = .ok (none, rangeP 0 12) (st ++ [Cell.dk []]) from rfl, fl_ok]
    have : rangeP 0 12 = (List.range 12).map fun j => PV.int (j : Nat) := by simp [rangeP]
    dsimp only
    rw [this] at e ⊢
    rw [e]
    rfl
  · rw [h t]
    cases ec : cellQ t with
    | none => rfl
    | some p =>
      have l := cellQ_lt (i := p.1) (j := p.2) ec
      have := m p.1 (List.mem_range.mpr l.1) p.2 l.2
      simp [this]
end K01

namespace K01
open PySem PySem.Spec PyProof.Rows Sm Lw
theorem AllN.ex {a b : Store} {n : Nat} (h : AllN a n) (x : Ex a b) : AllN b n := by
  obtain ⟨kvs, e, h⟩ := h
  exact ⟨kvs, x.get e, h⟩
theorem AllN.gx {a b : Store} {n m : Nat} (h : AllN a n) (x : Gx m a b) (hn : n ≠ m) : AllN b n := by
  obtain ⟨kvs, e, h⟩ := h
  exact ⟨kvs, x.get hn e, h⟩
theorem din_ap {st : Store} {n : Nat} {p : Str} (hN : AllN st n) : dinF true (.str p) (.ref n) st = .ok (.bl (cellQ p).isNone) st := by
  obtain ⟨kvs, e, h⟩ := hN
  unfold dinF
  show (match getK st n with | some kvs => _ | none => _) = _
  rw [getK_dk e]
  dsimp only
  rw [h p]
  cases cellQ p <;> rfl
theorem dix_ap {st : Store} {n : Nat} {p : Str} {x : Nat × Nat} (hN : AllN st n) (hp : cellQ p = some x) : dixF (.ref n) (.str p) st = .ok (tupP x) st := by
  obtain ⟨kvs, e, h⟩ := hN
  have hk : ((getK st n).bind fun kvs => valP kvs (.inr p)) = some (tupP x) := by
    rw [getK_dk e, Option.bind_some, h p, hp]
    rfl
  unfold dixF
  show (match (getK st n).bind fun kvs => valP kvs (.inr p) with | some z => Res.ok z st | none => Res.no) = _
  rw [hk]
theorem ad_str {t : Str} {n : Nat} {st : Store} (ht : t.length ≤ 10000) (hN : AllN st n) : g_f_law_area_due [.str t, .ref n] st = .ok (areaP (areaQ t)) (st ++ [.lst ((Txt.split t colon).map .str)]) := by
  rw [← due_area]
  show gOf N_f_law_area_due m_f_law_area_due [.str t, .ref n] st = _
  obtain ⟨f1, f2⟩ := fact_split t colon
  have N1 : AllN (st ++ [.lst ((Txt.split t colon).map .str)]) n := hN.ex Ex.push
  have hc : (colon.length == 0) = false := by decide +kernel
  unfold dueQ
  unfold gOf m_f_law_area_due
  rw [show startS N_f_law_area_due [.str t, .ref n] = [some (.str t), some (.ref n), none, none, none] from rfl]
  rw [mSeq_ap, show mIfS (mNotT (mTru (mIsi .str (mVar 0)))) (mRet (mC .non)) mNext [some (.str t), some (.ref n), none, none, none] st = .nx [some (.str t), some (.ref n), none, none, none] st from rfl]
  dsimp only
  have es : mBM .str splitF (mVar 0) (mCons (mC (.str colon)) mNil) [some (.str t), some (.ref n), none, none, none] st = .ok (.ref st.length) (st ++ [.lst ((Txt.split t colon).map .str)]) := by
    rw [mBM_ap, show mVar 0 [some (.str t), some (.ref n), none, none, none] st = .ok (.str t) st from rfl, bind_ok, show tyC (.str t) st = some .str from rfl, if_pos ⟨rfl, by decide⟩, show (mCons (mC (.str colon)) mNil) [some (.str t), some (.ref n), none, none, none] st = .ok [.str colon] st from rfl, bind_ok]
    unfold splitF
    dsimp only
    rw [if_pos ⟨hc, by rw [sizeLine_eq]; omega⟩]
    unfold newL
    rw [if_pos (by rw [List.length_map, sizeLine_eq]; omega)]
  rw [mSeq_ap, mAsg_ap, es, fl_ok, gNm_ap]
  dsimp only [List.set_cons_zero, List.set_cons_succ]
  generalize Txt.split t colon = P at *
  obtain ⟨s1, h1⟩ : ∃ s1, st ++ [Cell.lst (P.map .str)] = s1 := ⟨_, rfl⟩
  have hL : getL s1 st.length = some (P.map .str) := getL_lst (h1 ▸ get_end)
  rw [h1] at N1 ⊢
  have e2 : mTest (mOp (eqF true) (mCall lenF (mCons (mVar 2) mNil)) (mC (.int 2))) [some (.str t), some (.ref n), some (.ref st.length), none, none] s1 = .ok (!decide ((P.length : Int) = 2)) s1 := by
    simp [len_ref, hL]
  have ei : ∀ (i : Nat) (p : Str) (σ : Slots), P[i]? = some p → mOp ixF (mVar 2) (mC (.int i)) ([some (.str t), some (.ref n), some (.ref st.length)] ++ σ) s1 = .ok (.str p) s1 := by
    intro i p σ hp
    show ixF (.ref st.length) (.int i) s1 = _
    unfold ixF
    dsimp only
    rw [hL]
    have : L2.atI (P.map PV.str) (i : Int) = some (.str p) := by
      have hi := (List.getElem?_eq_some_iff.mp hp).1
      unfold L2.atI
      have : L2.ixN (P.map PV.str).length (i : Int) = some i := by
        unfold L2.ixN
        rw [List.length_map]
        simp
        omega
      rw [this]
      simp [hp]
    dsimp only
    rw [this]
  rw [mSeq_ap, mIfS_ap, mOrT_ap, e2, bind_ok]
  by_cases hl : P.length = 2
  · obtain ⟨p, q, rfl⟩ : ∃ p q, P = [p, q] := by
      match P, hl with
      | [p, q], _ => exact ⟨p, q, rfl⟩
    have i0 := fun σ => ei 0 p σ rfl
    have i1 := fun σ => ei 1 q σ rfl
    have d0 : mTest (mOp (dinF true) (mOp ixF (mVar 2) (mC (.int 0))) (mVar 1)) [some (.str t), some (.ref n), some (.ref st.length), none, none] s1 = .ok (cellQ p).isNone s1 := by
      have := i0 [none, none]
      rw [mTest_ap, mOp_ap, show mOp ixF (mVar 2) (mC (.int 0)) [some (.str t), some (.ref n), some (.ref st.length), none, none] s1 = .ok (.str p) s1 from this, bind_ok]
      show (Res.bind (dinF true (.str p) (.ref n) s1) _) = _
      rw [din_ap N1]
      rfl
    have d1 : mTest (mOp (dinF true) (mOp ixF (mVar 2) (mC (.int 1))) (mVar 1)) [some (.str t), some (.ref n), some (.ref st.length), none, none] s1 = .ok (cellQ q).isNone s1 := by
      have := i1 [none, none]
      rw [mTest_ap, mOp_ap, show mOp ixF (mVar 2) (mC (.int 1)) [some (.str t), some (.ref n), some (.ref st.length), none, none] s1 = .ok (.str q) s1 from this, bind_ok]
      show (Res.bind (dinF true (.str q) (.ref n) s1) _) = _
      rw [din_ap N1]
      rfl
    rw [show (!decide ((([p, q] : List Str).length : Int) = 2)) = false from rfl, if_neg (by decide), mOrT_ap, d0, bind_ok]
    rw [show splitQ [p, q] = joinQ (cellQ p) (cellQ q) from rfl]
    cases ep : cellQ p with
    | none =>
      rw [show joinQ none (cellQ q) = none from rfl]
      rfl
    | some x =>
      rw [show (some x).isNone = false from rfl, if_neg (by decide), d1]
      cases eq : cellQ q with
      | none => rfl
      | some y =>
        obtain ⟨a, b⟩ := x
        obtain ⟨c, d⟩ := y
        rw [show (some (c, d)).isNone = false from rfl, fl_ok, if_neg (by decide), mNext_ap]
        dsimp only
        have p0 : mOp dixF (mVar 1) (mOp ixF (mVar 2) (mC (.int 0))) [some (.str t), some (.ref n), some (.ref st.length), none, none] s1 = .ok (tupP (a, b)) s1 := by
          have := i0 [none, none]
          rw [mOp_ap, show mVar 1 [some (.str t), some (.ref n), some (.ref st.length), none, none] s1 = .ok (.ref n) s1 from rfl, bind_ok, show mOp ixF (mVar 2) (mC (.int 0)) [some (.str t), some (.ref n), some (.ref st.length), none, none] s1 = .ok (.str p) s1 from this, bind_ok, dix_ap N1 ep]
        have p1 : mOp dixF (mVar 1) (mOp ixF (mVar 2) (mC (.int 1))) [some (.str t), some (.ref n), some (.ref st.length), none, none] s1 = .ok (tupP (c, d)) s1 := by
          have := i1 [none, none]
          rw [mOp_ap, show mVar 1 [some (.str t), some (.ref n), some (.ref st.length), none, none] s1 = .ok (.ref n) s1 from rfl, bind_ok, show mOp ixF (mVar 2) (mC (.int 1)) [some (.str t), some (.ref n), some (.ref st.length), none, none] s1 = .ok (.str q) s1 from this, bind_ok, dix_ap N1 eq]
        have pr : mPar 3 4 (mCons (mOp dixF (mVar 1) (mOp ixF (mVar 2) (mC (.int 0)))) (mCons (mOp dixF (mVar 1) (mOp ixF (mVar 2) (mC (.int 1)))) mNil)) [some (.str t), some (.ref n), some (.ref st.length), none, none] s1 = .nx [some (.str t), some (.ref n), some (.ref st.length), some (tupP (a, b)), some (tupP (c, d))] s1 := by
          rw [mPar_ap, mCons_ap, p0, bind_ok, mCons_ap, p1]
          rfl
        rw [mSeq_ap, pr]
        dsimp only
        have g0 : mTest (mOp gtF (mOp ixF (mVar 3) (mC (.int 0))) (mOp ixF (mVar 4) (mC (.int 0)))) [some (.str t), some (.ref n), some (.ref st.length), some (tupP (a, b)), some (tupP (c, d))] s1 = .ok (decide ((a : Int) > c)) s1 := rfl
        have g1 : mTest (mOp gtF (mOp ixF (mVar 3) (mC (.int 1))) (mOp ixF (mVar 4) (mC (.int 1)))) [some (.str t), some (.ref n), some (.ref st.length), some (tupP (a, b)), some (tupP (c, d))] s1 = .ok (decide ((b : Int) > d)) s1 := rfl
        have ga : mOp addF (mVar 3) (mVar 4) [some (.str t), some (.ref n), some (.ref st.length), some (tupP (a, b)), some (tupP (c, d))] s1 = .ok (.tup [.int a, .int b, .int c, .int d]) s1 := by
          show addF (tupP (a, b)) (tupP (c, d)) s1 = _
          unfold tupP addF
          dsimp only
          rw [if_pos (by rw [sizeLine_eq]; simp)]
          rfl
        rw [mSeq_ap, mIfS_ap, mOrT_ap, g0, bind_ok]
        unfold joinQ
        dsimp only
        by_cases h1 : a ≤ c
        · have : decide ((a : Int) > c) = false := decide_eq_false (by omega)
          rw [this, if_neg (by decide), g1, fl_ok]
          by_cases h2 : b ≤ d
          · have : decide ((b : Int) > d) = false := decide_eq_false (by omega)
            rw [this, if_neg (by decide), mNext_ap, if_pos ⟨h1, h2⟩]
            dsimp only
            rw [mRet_ap, ga]
            rfl
          · have : decide ((b : Int) > d) = true := decide_eq_true (by omega)
            rw [this, if_pos rfl, if_neg (fun z => h2 z.2)]
            rfl
        · have : decide ((a : Int) > c) = true := decide_eq_true (by omega)
          rw [this, if_pos rfl, fl_ok, if_pos rfl, if_neg (fun z => h1 z.1)]
          rfl
  · have : (!decide ((P.length : Int) = 2)) = true := by simp; omega
    rw [this, if_pos rfl, fl_ok, if_pos rfl]
    have : splitQ P = none := by
      unfold splitQ
      split
      · exact absurd rfl hl
      · rfl
    rw [this]
    rfl
theorem ad_other {x y : PV} {st : Store} {T : Ty} (h : tyC x st = some T) (hT : T ≠ .str) : g_f_law_area_due [x, y] st = .ok .non st := by
  show gOf N_f_law_area_due m_f_law_area_due [x, y] st = _
  have h0 : mNotT (mTru (mIsi .str (mVar 0))) [some x, some y, none, none, none] st = .ok true st := by
    cases T <;> simp [h] at hT ⊢ <;> rfl
  unfold gOf m_f_law_area_due
  rw [show startS N_f_law_area_due [x, y] = [some x, some y, none, none, none] from rfl, mSeq_ap, mIfS_ap, h0]
  rfl
end K01

namespace K01
open PySem PySem.Spec PyProof.Rows Sm Lw
/-! ### what parsing gives, as the law tells it -/
def resP (v : PV) : PV → PV
  | .non => .tup [.str (Str.ofString "error"), v]
  | o => .tup [.str (Str.ofString "found"), o]
def isN : PV → Bool
  | .non => true
  | _ => false
def Nt (o : PV) : Prop := o = .non ∨ ∃ xs, o = .tup xs
theorem pc_ap {v o : PV} {st s1 : Store} (h : g_f_cell_or_none [v] st = .ok o s1) (ho : Nt o) : g_f_parse_cell [v] st = if isN o = true then .exc 0 [(Str.ofString "text", v)] s1 else .ok o s1 := by
  show gOf N_f_parse_cell m_f_parse_cell [v] st = _
  unfold gOf m_f_parse_cell
  rw [show startS N_f_parse_cell [v] = [some v, none] from rfl, mSeq_ap, mAsg_ap, fn1_ap (x := v) rfl h, fl_ok, gNm_ap]
  rcases ho with rfl | ⟨xs, rfl⟩
  · rfl
  · rfl
theorem pa_ap {v o : PV} {st s1 : Store} (h : g_f_area_or_none [v] st = .ok o s1) (ho : Nt o) : g_f_parse_area [v] st = if isN o = true then .exc 0 [(Str.ofString "text", v)] s1 else .ok o s1 := by
  show gOf N_f_parse_area m_f_parse_area [v] st = _
  unfold gOf m_f_parse_area
  rw [show startS N_f_parse_area [v] = [some v, none] from rfl, mSeq_ap, mAsg_ap, fn1_ap (x := v) rfl h, fl_ok, gNm_ap]
  rcases ho with rfl | ⟨xs, rfl⟩
  · rfl
  · rfl
abbrev mBody : MS := mIfS (mTest (mOp (eqF false) (mVar 0) (mC (.str (Str.ofString "cell"))))) (mAsg (mFnE 1 g_f_parse_cell (mCons (mVar 1) mNil)) (gNm 3)) (mAsg (mFnE 1 g_f_parse_area (mCons (mVar 1) mNil)) (gNm 3))
theorem res_of {k : Str} {v o : PV} {st s1 : Store} (x1 : Ex st s1) (ho : Nt o)
    (hb : mBody [some (.str k), some v, some .non, some .non, none] st = if isN o = true then .exc 0 [(Str.ofString "text", v)] [some (.str k), some v, some .non, some .non, none] s1 else .nx [some (.str k), some v, some .non, some o, none] s1) :
    ∃ s2, g_f_law_result [.str k, v] st = .ok (resP v o) s2 ∧ Ex st s2 := by
  have start : ∀ s2, (∃ y, mSeq (mTry mBody [0] 4 2) y [some (.str k), some v, some .non, some .non, none] st = .rt (resP v o) s2 ∧ y = (mSeq (mIfS (mTest (mOp (isNF false) (mVar 2) (mC .non))) (mRet (mTup (mCons (mC (.str (Str.ofString "found"))) (mCons (mVar 3) mNil)))) mNext)
    (mSeq (mIfS (mOrT (mNotT (mTru (mIsE [(0, true)] (mVar 2)))) (mOrT (mNotT (mTru (mIsE [(0, true)] (mVar 2)))) (mTru (mIsE [(0, false)] (mVar 2))))) (mRet (mTup (mCons (mC (.str (Str.ofString "wrong error"))) (mCons (mC .non) mNil)))) mNext)
    (mRet (mTup (mCons (mC (.str (Str.ofString "error"))) (mCons (mAttr [0] (Str.ofString "text") (mVar 2)) mNil))))))) → g_f_law_result [.str k, v] st = .ok (resP v o) s2 := by
    rintro s2 ⟨y, e, rfl⟩
    show gOf N_f_law_result m_f_law_result [.str k, v] st = _
    unfold gOf m_f_law_result
    rw [show startS N_f_law_result [.str k, v] = [some (.str k), some v, none, none, none] from rfl, mSeq_ap, show mAsg (mC .non) (gNm 2) [some (.str k), some v, none, none, none] st = .nx [some (.str k), some v, some .non, none, none] st from rfl]
    dsimp only
    rw [mSeq_ap, show mAsg (mC .non) (gNm 3) [some (.str k), some v, some .non, none, none] st = .nx [some (.str k), some v, some .non, some .non, none] st from rfl]
    dsimp only
    rw [e]
  rcases ho with rfl | ⟨xs, rfl⟩
  · rw [if_pos (show isN .non = true from rfl)] at hb
    refine ⟨s1 ++ [.err 0 [(Str.ofString "text", v)]], start _ ⟨_, ?_, rfl⟩, x1.trans Ex.push⟩
    have ht : mTry mBody [0] 4 2 [some (.str k), some v, some .non, some .non, none] st = .nx [some (.str k), some v, some (.ref s1.length), some .non, none] (s1 ++ [.err 0 [(Str.ofString "text", v)]]) := by
      unfold mTry
      rw [hb]
      rfl
    obtain ⟨s2, h2⟩ : ∃ s2, s1 ++ [Cell.err 0 [(Str.ofString "text", v)]] = s2 := ⟨_, rfl⟩
    have hg : s2[s1.length]? = some (.err 0 [(Str.ofString "text", v)]) := h2 ▸ get_end
    rw [mSeq_ap, ht, h2]
    dsimp only
    have i1 : ∀ b, mTru (mIsE [(0, b)] (mVar 2)) [some (.str k), some v, some (.ref s1.length), some .non, none] s2 = .ok b s2 := by
      intro b
      rw [mTru_ap, mIsE_ap, show mVar 2 [some (.str k), some v, some (.ref s1.length), some .non, none] s2 = .ok (.ref s1.length) s2 from rfl, bind_ok]
      dsimp only
      rw [hg]
      rfl
    have i2 : mAttr [0] (Str.ofString "text") (mVar 2) [some (.str k), some v, some (.ref s1.length), some .non, none] s2 = .ok v s2 := by
      rw [mAttr_ap, show mVar 2 [some (.str k), some v, some (.ref s1.length), some .non, none] s2 = .ok (.ref s1.length) s2 from rfl, bind_ok]
      dsimp only
      rw [hg]
      rfl
    rw [mSeq_ap, show mIfS (mTest (mOp (isNF false) (mVar 2) (mC .non))) (mRet (mTup (mCons (mC (.str (Str.ofString "found"))) (mCons (mVar 3) mNil)))) mNext [some (.str k), some v, some (.ref s1.length), some .non, none] s2 = .nx [some (.str k), some v, some (.ref s1.length), some .non, none] s2 from rfl]
    dsimp only
    have n1 : mNotT (mTru (mIsE [(0, true)] (mVar 2))) [some (.str k), some v, some (.ref s1.length), some .non, none] s2 = .ok false s2 := by rw [mNotT_ap, i1]; rfl
    have hT : mOrT (mNotT (mTru (mIsE [(0, true)] (mVar 2)))) (mOrT (mNotT (mTru (mIsE [(0, true)] (mVar 2)))) (mTru (mIsE [(0, false)] (mVar 2)))) [some (.str k), some v, some (.ref s1.length), some .non, none] s2 = .ok false s2 := by
      rw [mOrT_ap, n1]
      show mOrT (mNotT (mTru (mIsE [(0, true)] (mVar 2)))) (mTru (mIsE [(0, false)] (mVar 2))) [some (.str k), some v, some (.ref s1.length), some .non, none] s2 = _
      rw [mOrT_ap, n1]
      exact i1 false
    rw [mSeq_ap, mIfS_ap, hT, fl_ok, if_neg (by decide), mNext_ap]
    dsimp only
    rw [mRet_ap, mTup_ap, mCons_ap, mC_ap, bind_ok, mCons_ap, i2]
    rfl
  · rw [if_neg (show ¬ isN (.tup xs) = true from Bool.noConfusion)] at hb
    refine ⟨s1, start _ ⟨_, ?_, rfl⟩, x1⟩
    have ht : mTry mBody [0] 4 2 [some (.str k), some v, some .non, some .non, none] st = .nx [some (.str k), some v, some .non, some (.tup xs), none] s1 := by
      unfold mTry
      rw [hb]
    rw [mSeq_ap, ht]
    rfl
theorem fnE1_ap {g : MC} {x : PV} {i : Nat} {σ : Slots} {st : Store} (hv : σ[i]? = some (some x)) : mFnE 1 g (mCons (mVar i) mNil) σ st = g [x] st := by
  rw [mFnE_ap, show mCons (mVar i) mNil σ st = .ok [x] st from by simp [hv], bind_ok]
  rfl
theorem res_cell {v o : PV} {st s1 : Store} (h : g_f_cell_or_none [v] st = .ok o s1) (x1 : Ex st s1) (ho : Nt o) : ∃ s2, g_f_law_result [.str (Str.ofString "cell"), v] st = .ok (resP v o) s2 ∧ Ex st s2 := by
  refine res_of x1 ho ?_
  have t0 : mTest (mOp (eqF false) (mVar 0) (mC (.str (Str.ofString "cell")))) [some (.str (Str.ofString "cell")), some v, some .non, some .non, none] st = .ok true st := by rw [mTest_ap]; rfl
  show mIfS _ _ _ _ _ = _
  rw [mIfS_ap, t0, fl_ok, if_pos rfl, mAsg_ap, fnE1_ap (x := v) rfl, pc_ap h ho]
  rcases ho with rfl | ⟨xs, rfl⟩
  · rfl
  · rfl
theorem res_area {v o : PV} {st s1 : Store} (h : g_f_area_or_none [v] st = .ok o s1) (x1 : Ex st s1) (ho : Nt o) : ∃ s2, g_f_law_result [.str (Str.ofString "area"), v] st = .ok (resP v o) s2 ∧ Ex st s2 := by
  refine res_of x1 ho ?_
  have t0 : mTest (mOp (eqF false) (mVar 0) (mC (.str (Str.ofString "cell")))) [some (.str (Str.ofString "area")), some v, some .non, some .non, none] st = .ok false st := by
    rw [mTest_ap, mOp_ap, show mVar 0 [some (.str (Str.ofString "area")), some v, some .non, some .non, none] st = .ok (.str (Str.ofString "area")) st from rfl, bind_ok, mC_ap, bind_ok]
    have : decide (Str.ofString "area" = Str.ofString "cell") = false := by decide +kernel
    rw [show eqF false (.str (Str.ofString "area")) (.str (Str.ofString "cell")) st = .ok (.bl (decide (Str.ofString "area" = Str.ofString "cell"))) st from rfl, this]
    rfl
  show mIfS _ _ _ _ _ = _
  rw [mIfS_ap, t0, fl_ok, if_neg (by decide), mAsg_ap, fnE1_ap (x := v) rfl, pa_ap h ho]
  rcases ho with rfl | ⟨xs, rfl⟩
  · rfl
  · rfl
end K01

namespace K01
open PySem PySem.Spec PyProof.Rows Sm Lw
/-- a value, and what its parsing gives -/
structure Pv (st : Store) (n : Nat) (v o1 o2 : PV) : Prop where
  rv : ∃ w, ∀ s, Ex st s → reprX [v] s = .ok (.str w) s
  r1 : ∃ w, ∀ s, Ex st s → reprX [resP v o1] s = .ok (.str w) s
  r2 : ∃ w, ∀ s, Ex st s → reprX [resP v o2] s = .ok (.str w) s
  c1 : ∀ s, Ex st s → ∃ s', g_f_cell_or_none [v] s = .ok o1 s' ∧ Ex s s'
  c2 : ∀ s, Ex st s → ∃ s', g_f_area_or_none [v] s = .ok o2 s' ∧ Ex s s'
  d1 : ∀ s w, Ex st s → mIfS (mTru (mIsi .str (mVar 0))) (mAsg (mGet1 (mVar 1) (mVar 0)) (gNm 3)) mNext [some v, some (.ref n), some w, some .non, none, none, none] s = .nx [some v, some (.ref n), some w, some o1, none, none, none] s
  d2 : ∀ s, Ex st s → ∃ s', g_f_law_area_due [v, .ref n] s = .ok o2 s' ∧ Ex s s'
  n1 : Nt o1
  n2 : Nt o2
theorem wanted_ap {v o w d x : PV} {n : Nat} {k : Str} {y : Option PV} {s : Store} (ho : Nt o) (r : MS) : mSeq (mAsg (mTup (mCons (mC (.str (Str.ofString "found"))) (mCons (mVar 5) mNil))) (gNm 6))
    (mSeq (mIfS (mTest (mOp (isNF false) (mVar 5) (mC .non))) (mAsg (mTup (mCons (mC (.str (Str.ofString "error"))) (mCons (mVar 0) mNil))) (gNm 6)) mNext) r) [some v, some (.ref n), some w, some d, some (.str k), some o, y] s
    = r [some v, some (.ref n), some w, some d, some (.str k), some o, some (resP v o)] s := by
  rcases ho with rfl | ⟨xs, rfl⟩
  · rfl
  · rfl
theorem turn_ap {v o w d : PV} {n : Nat} {k : Str} {y : Option PV} {s s2 : Store} (ho : Nt o) (hr : g_f_law_result [.str k, v] s = .ok (resP v o) s2) {z : Str} (h1 : reprX [resP v o] s2 = .ok (.str z) s2) :
    L1_f_law_parsed_right [some v, some (.ref n), some w, some d, some (.str k), some o, y] s = .nx [some v, some (.ref n), some w, some d, some (.str k), some o, some (resP v o)] s2 := by
  unfold L1_f_law_parsed_right
  rw [wanted_ap (x := .non) ho]
  have a1 : mCall reprX (mCons (mFn 2 g_f_law_result (mCons (mVar 4) (mCons (mVar 0) mNil))) mNil) [some v, some (.ref n), some w, some d, some (.str k), some o, some (resP v o)] s = .ok (.str z) s2 := by
    have : mFn 2 g_f_law_result (mCons (mVar 4) (mCons (mVar 0) mNil)) [some v, some (.ref n), some w, some d, some (.str k), some o, some (resP v o)] s = .ok (resP v o) s2 := by
      rw [mFn_ap, show mCons (mVar 4) (mCons (mVar 0) mNil) [some v, some (.ref n), some w, some d, some (.str k), some o, some (resP v o)] s = .ok [.str k, v] s from rfl, bind_ok]
      simp only [List.length_cons, List.length_nil, if_true, hr]
    rw [mCall_ap, mCons_ap, this, bind_ok, mNil_ap, bind_ok, bind_ok, h1]
  have a2 : mCall reprX (mCons (mVar 6) mNil) [some v, some (.ref n), some w, some d, some (.str k), some o, some (resP v o)] s2 = .ok (.str z) s2 := by
    rw [mCall_ap, show mCons (mVar 6) mNil [some v, some (.ref n), some w, some d, some (.str k), some o, some (resP v o)] s2 = .ok [resP v o] s2 from rfl, bind_ok, h1]
  have a3 : mTest (mOp (eqF true) (mCall reprX (mCons (mFn 2 g_f_law_result (mCons (mVar 4) (mCons (mVar 0) mNil))) mNil)) (mCall reprX (mCons (mVar 6) mNil))) [some v, some (.ref n), some w, some d, some (.str k), some o, some (resP v o)] s = .ok false s2 := by
    rw [mTest_ap, mOp_ap, a1, bind_ok, a2, bind_ok, show eqF true (.str z) (.str z) s2 = .ok (.bl (!decide (z = z))) s2 from rfl]
    simp
  rw [mIfS_ap, a3, fl_ok, if_neg (by decide), mNext_ap]
theorem right_ap {st : Store} {n : Nat} {v o1 o2 : PV} (h : Pv st n v o1 o2) : ∃ s', g_f_law_parsed_right [v, .ref n] st = .ok (.bl true) s' ∧ Ex st s' := by
  obtain ⟨w, hw⟩ := h.rv
  obtain ⟨z1, hz1⟩ := h.r1
  obtain ⟨z2, hz2⟩ := h.r2
  obtain ⟨s1, e1, x1⟩ := h.d2 st Ex.refl
  -- the list of the two kinds
  obtain ⟨L, hL⟩ : ∃ L, [PV.tup [.str (Str.ofString "cell"), o1], PV.tup [.str (Str.ofString "area"), o2]] = L := ⟨_, rfl⟩
  obtain ⟨s2, h2⟩ : ∃ s2, s1 ++ [Cell.lst L] = s2 := ⟨_, rfl⟩
  have x2 : Ex s1 s2 := h2 ▸ Ex.push
  have x02 := x1.trans x2
  have g2 : s2[s1.length]? = some (.lst L) := h2 ▸ get_end
  obtain ⟨sa, ea, xa⟩ := h.c1 s2 x02
  obtain ⟨s3, e3, x3⟩ := res_cell ea xa h.n1
  have x03 := x02.trans x3
  obtain ⟨sb, eb, xb⟩ := h.c2 s3 x03
  obtain ⟨s4, e4, x4⟩ := res_area eb xb h.n2
  have x04 := x03.trans x4
  have t1 := fun y => turn_ap (n := n) (w := .str w) (d := o1) (y := y) h.n1 e3 (hz1 s3 x03)
  have t2 := fun y => turn_ap (n := n) (w := .str w) (d := o1) (y := y) h.n2 e4 (hz2 s4 x04)
  have lst_ap : mItL (mLst (mCons (mTup (mCons (mC (.str (Str.ofString "cell"))) (mCons (mVar 3) mNil))) (mCons (mTup (mCons (mC (.str (Str.ofString "area"))) (mCons (mFn 2 g_f_law_area_due (mCons (mVar 0) (mCons (mVar 1) mNil))) mNil))) mNil))) [some v, some (.ref n), some (.str w), some o1, none, none, none] st = .ok (some s1.length, L) s2 := by
    have : mFn 2 g_f_law_area_due (mCons (mVar 0) (mCons (mVar 1) mNil)) [some v, some (.ref n), some (.str w), some o1, none, none, none] st = .ok o2 s1 := by
      rw [mFn_ap, show mCons (mVar 0) (mCons (mVar 1) mNil) [some v, some (.ref n), some (.str w), some o1, none, none, none] st = .ok [v, .ref n] st from rfl, bind_ok]
      simp only [List.length_cons, List.length_nil, if_true, e1]
    have l2 : mLst (mCons (mTup (mCons (mC (.str (Str.ofString "cell"))) (mCons (mVar 3) mNil))) (mCons (mTup (mCons (mC (.str (Str.ofString "area"))) (mCons (mFn 2 g_f_law_area_due (mCons (mVar 0) (mCons (mVar 1) mNil))) mNil))) mNil)) [some v, some (.ref n), some (.str w), some o1, none, none, none] st = .ok (.ref s1.length) s2 := by
      rw [mLst_ap, mCons_ap, show mTup (mCons (mC (.str (Str.ofString "cell"))) (mCons (mVar 3) mNil)) [some v, some (.ref n), some (.str w), some o1, none, none, none] st = .ok (.tup [.str (Str.ofString "cell"), o1]) st from rfl, bind_ok, mCons_ap, mTup_ap, mCons_ap, mC_ap, bind_ok, mCons_ap, this, bind_ok, mNil_ap, bind_ok, bind_ok, bind_ok, if_pos (show [PV.str (Str.ofString "area"), o2].length ≤ sizeLine from by rw [sizeLine_eq]; simp), bind_ok, mNil_ap, bind_ok, bind_ok, bind_ok, if_pos (show [PV.tup [.str (Str.ofString "cell"), o1], PV.tup [.str (Str.ofString "area"), o2]].length ≤ sizeLine from by rw [sizeLine_eq]; simp), ← h2, ← hL]
    rw [mItL_ap, l2, bind_ok]
    dsimp only
    rw [getL_lst g2]
  have loop : loopF (gTp 2 (gCons (gNm 4) (gCons (gNm 5) gNil))) L1_f_law_parsed_right (some s1.length) L L [some v, some (.ref n), some (.str w), some o1, none, none, none] s2 = .nx [some v, some (.ref n), some (.str w), some o1, some (.str (Str.ofString "area")), some o2, some (resP v o2)] s4 := by
    have y2 := stays_some (getL_lst g2)
    have y3 := stays_some (getL_lst (x3.get g2))
    have y4 := stays_some (getL_lst ((x3.trans x4).get g2))
    obtain ⟨all, hall⟩ : ∃ all, L = all := ⟨_, rfl⟩
    rw [hall] at y2 y3 y4
    rw [show loopF (gTp 2 (gCons (gNm 4) (gCons (gNm 5) gNil))) L1_f_law_parsed_right (some s1.length) L L = loopF (gTp 2 (gCons (gNm 4) (gCons (gNm 5) gNil))) L1_f_law_parsed_right (some s1.length) all [PV.tup [.str (Str.ofString "cell"), o1], PV.tup [.str (Str.ofString "area"), o2]] from by rw [hL, hall]]
    rw [loopF, if_pos y2]
    have b1 : gTp 2 (gCons (gNm 4) (gCons (gNm 5) gNil)) (.tup [.str (Str.ofString "cell"), o1]) [some v, some (.ref n), some (.str w), some o1, none, none, none] s2 = some ([some v, some (.ref n), some (.str w), some o1, some (.str (Str.ofString "cell")), some o1, none], s2) := rfl
    rw [b1]
    dsimp only
    rw [t1 none]
    dsimp only
    rw [loopF, if_pos y3]
    have b2 : gTp 2 (gCons (gNm 4) (gCons (gNm 5) gNil)) (.tup [.str (Str.ofString "area"), o2]) [some v, some (.ref n), some (.str w), some o1, some (.str (Str.ofString "cell")), some o1, some (resP v o1)] s3 = some ([some v, some (.ref n), some (.str w), some o1, some (.str (Str.ofString "area")), some o2, some (resP v o1)], s3) := rfl
    rw [b2]
    dsimp only
    rw [t2 (some (resP v o1))]
    dsimp only
    rw [loopF, if_pos y4]
  refine ⟨s4, ?_, x04⟩
  show gOf N_f_law_parsed_right m_f_law_parsed_right [v, .ref n] st = _
  unfold gOf m_f_law_parsed_right
  rw [show startS N_f_law_parsed_right [v, .ref n] = [some v, some (.ref n), none, none, none, none, none] from rfl]
  have k1 : mCall reprX (mCons (mVar 0) mNil) [some v, some (.ref n), none, none, none, none, none] st = .ok (.str w) st := by
    rw [mCall_ap, show mCons (mVar 0) mNil [some v, some (.ref n), none, none, none, none, none] st = .ok [v] st from rfl, bind_ok, hw st Ex.refl]
  rw [mSeq_ap, mAsg_ap, k1, fl_ok, gNm_ap]
  dsimp only [List.set_cons_zero, List.set_cons_succ]
  rw [mSeq_ap, mAsg_ap, mC_ap, fl_ok, gNm_ap]
  dsimp only [List.set_cons_zero, List.set_cons_succ]
  rw [mSeq_ap, h.d1 st _ Ex.refl]
  dsimp only
  rw [mSeq_ap, mFor_ap, lst_ap, fl_ok]
  dsimp only
  rw [loop]
  dsimp only
  have k2 : mCall reprX (mCons (mVar 0) mNil) [some v, some (.ref n), some (.str w), some o1, some (.str (Str.ofString "area")), some o2, some (resP v o2)] s4 = .ok (.str w) s4 := by
    rw [mCall_ap, show mCons (mVar 0) mNil [some v, some (.ref n), some (.str w), some o1, some (.str (Str.ofString "area")), some o2, some (resP v o2)] s4 = .ok [v] s4 from rfl, bind_ok, hw s4 x04]
  rw [mRet_ap, mOp_ap, k2, bind_ok, show mVar 2 [some v, some (.ref n), some (.str w), some o1, some (.str (Str.ofString "area")), some o2, some (resP v o2)] s4 = .ok (.str w) s4 from rfl, bind_ok, show eqF false (.str w) (.str w) s4 = .ok (.bl (decide (w = w))) s4 from rfl]
  simp
end K01

namespace K01
open PySem PySem.Spec PyProof.Rows Sm Lw
/-! ### what can be shown -/
theorem reprX_of {x : PV} {d : PyData} {s : Store} (h : toX s x = some d) (w : showsX d = true) : reprX [x] s = .ok (.str d.shown) s := by
  unfold reprX
  dsimp only
  rw [h]
  dsimp only
  rw [if_pos w]
theorem showsX_of {d : PyData} (h1 : d.showable = true) (h2 : d.depth ≤ 60) (h3 : PyData.leavesShort 13 d = true) (h4 : d.weight ≤ 2 ^ 20) : showsX d = true := by
  unfold showsX
  rw [h1]
  simp only [Bool.true_and, Bool.and_eq_true, decide_eq_true_eq]
  exact ⟨h2, PyData.shown_fits (B := 13) (by decide) (by decide) h3 h4⟩
structure Sh (k : Nat) (d : PyData) (w : Nat) : Prop where
  s : d.showable = true
  dp : d.depth ≤ k
  l : PyData.leavesShort 13 d = true
  w : d.weight ≤ w
structure Shs (k : Nat) (ds : List PyData) (w : Nat) : Prop where
  s : PyData.showableAll ds = true
  dp : PyData.depthAll ds ≤ k
  l : PyData.leavesShortAll 13 ds = true
  w : PyData.weightAll ds ≤ w
theorem Shs.nil {k w : Nat} : Shs k [] w := ⟨rfl, Nat.zero_le _, rfl, Nat.zero_le _⟩
theorem Shs.cons {k w v u : Nat} {d : PyData} {ds : List PyData} (h : Sh k d w) (g : Shs k ds v) (e : w + 1 + v ≤ u) : Shs k (d :: ds) u := by
  obtain ⟨h2, h4, h3, h5⟩ := h
  obtain ⟨g2, g4, g3, g5⟩ := g
  refine ⟨?_, ?_, ?_, ?_⟩
  · rw [PyData.showableAll, h2, g2]; rfl
  · rw [PyData.depthAll]; omega
  · rw [PyData.leavesShortAll, h3, g3]; rfl
  · rw [PyData.weightAll]; omega
theorem Shs.tup {k w : Nat} {ds : List PyData} (h : Shs k ds w) : Sh (k + 1) (.tuple ds) w := by
  obtain ⟨h2, h4, h3, h5⟩ := h
  refine ⟨?_, ?_, ?_, ?_⟩
  · rw [PyData.showable, h2]
  · rw [PyData.depth]; omega
  · rw [PyData.leavesShort, h3]
  · rw [PyData.weight]; exact h5
theorem Sh.shows {k : Nat} {d : PyData} {w : Nat} (h : Sh k d w) (hk : k ≤ 60) (hw : w ≤ 2 ^ 20) : showsX d = true := showsX_of h.s (Nat.le_trans h.dp hk) h.l (Nat.le_trans h.w hw)
theorem sh_str {k : Nat} {t : Str} {w : Nat} (ok : PyData.strOk t = true) (hl : t.length ≤ w) : Sh k (.str t) w := by
  refine ⟨by rw [PyData.showable]; try exact ok, by rw [PyData.depth]; omega, ?_, by rw [PyData.weight]; exact hl⟩
  rw [PyData.leavesShort, List.all_eq_true]
  intro c hc
  unfold PyData.strOk at ok
  rw [Array.all_eq_true'] at ok
  have := of_decide_eq_true (ok c (by simpa using hc))
  exact decide_eq_true (by have : (16 : Nat) ^ 8 = 4294967296 := by decide
                           omega)
theorem sh_int {k : Nat} {i : Nat} (hi : i < 12) : Sh k (.int (i : Nat)) 4 := by
  have a : ∀ i, i < 12 → (PyData.int (i : Nat)).showable = true ∧ (PyData.int (i : Nat)).depth ≤ 0 ∧ PyData.leavesShort 13 (.int (i : Nat)) = true ∧ (PyData.int (i : Nat)).weight ≤ 4 := by decide +kernel
  exact ⟨(a i hi).1, Nat.le_trans (a i hi).2.1 (Nat.zero_le _), (a i hi).2.2.1, (a i hi).2.2.2⟩
theorem w_found : PyData.strOk (Str.ofString "found") = true ∧ (Str.ofString "found").length ≤ 10 := by decide +kernel
theorem w_error : PyData.strOk (Str.ofString "error") = true ∧ (Str.ofString "error").length ≤ 10 := by decide +kernel
/-- a text can be parsed -/
theorem pv_str {t : Str} {n : Nat} {st : Store} (hN : AllN st n) (ok : PyData.strOk t = true) (ht : t.length ≤ 6000) : Pv st n (.str t) (cellP (cellQ t)) (areaP (areaQ t)) := by
  have hz : t.length ≤ sizeLine := by rw [sizeLine_eq]; omega
  have er : ∃ w, ∀ s, Ex st s → reprX [.tup [.str (Str.ofString "error"), .str t]] s = .ok (.str w) s :=
    ⟨_, fun s _ => reprX_of (d := .tuple [.str (Str.ofString "error"), .str t]) rfl ((Shs.tup (.cons (sh_str w_error.1 w_error.2) (.cons (sh_str ok ht) .nil (v := 0) (Nat.le_refl _)) (Nat.le_refl _))).shows (k := 1) (by decide) (by decide))⟩
  refine { rv := ⟨_, fun s _ => reprX_of (d := .str t) rfl ((sh_str (k := 0) ok ht).shows (by decide) (by decide))⟩, r1 := ?_, r2 := ?_, c1 := fun s _ => ⟨s, cn_str hz, Ex.refl⟩, c2 := fun s _ => ?_, d1 := fun s w x => ?_, d2 := fun s x => ⟨_, ad_str (by omega) (hN.ex x), Ex.push⟩, n1 := ?_, n2 := ?_ }
  · cases e : cellQ t with
    | none => exact er
    | some p =>
      obtain ⟨i, j⟩ := p
      have l := cellQ_lt e
      exact ⟨_, fun s _ => reprX_of (d := .tuple [.str (Str.ofString "found"), .tuple [.int i, .int j]]) rfl ((Shs.tup (.cons (sh_str w_found.1 w_found.2) (.cons (Shs.tup (.cons (sh_int l.1) (.cons (sh_int l.2) .nil (v := 0) (Nat.le_refl _)) (Nat.le_refl _))) .nil (v := 0) (Nat.le_refl _)) (Nat.le_refl _))).shows (k := 2) (by decide) (by decide))⟩
  · cases e : areaQ t with
    | none => exact er
    | some p =>
      obtain ⟨a, b, c, d⟩ := p
      have l := areaQ_lt e
      exact ⟨_, fun s _ => reprX_of (d := .tuple [.str (Str.ofString "found"), .tuple [.int a, .int b, .int c, .int d]]) rfl ((Shs.tup (.cons (sh_str w_found.1 w_found.2) (.cons (Shs.tup (.cons (sh_int l.1) (.cons (sh_int l.2.1) (.cons (sh_int l.2.2.1) (.cons (sh_int l.2.2.2.1) .nil (v := 0) (Nat.le_refl _)) (Nat.le_refl _)) (Nat.le_refl _)) (Nat.le_refl _))) .nil (v := 0) (Nat.le_refl _)) (Nat.le_refl _))).shows (k := 2) (by decide) (by decide))⟩
  · obtain ⟨more, e⟩ := an_str (st := s) hz
    refine ⟨_, e, ⟨by simp, fun i hi => List.getElem?_append_left hi⟩⟩
  · obtain ⟨kvs, e, h⟩ := hN.ex x
    have g : mGet1 (mVar 1) (mVar 0) [some (.str t), some (.ref n), some w, some .non, none, none, none] s = .ok (cellP (cellQ t)) s := by
      rw [mGet1_ap, show mVar 1 [some (.str t), some (.ref n), some w, some .non, none, none, none] s = .ok (.ref n) s from rfl, bind_ok]
      dsimp only
      rw [getK_dk e]
      dsimp only
      rw [show mVar 0 [some (.str t), some (.ref n), some w, some .non, none, none, none] s = .ok (.str t) s from rfl, bind_ok]
      have : dgetF (.ref n) (.str t) .non s = .ok (cellP (cellQ t)) s := by
        have : dgetF (.ref n) (.str t) .non s = match getK s n with
          | some kvs => .ok ((valP kvs (.inr t)).getD .non) s
          | none => .no := rfl
        rw [this, getK_dk e]
        dsimp only
        rw [h t]
        cases cellQ t <;> rfl
      rw [this]
    rw [mIfS_ap, show mTru (mIsi .str (mVar 0)) [some (.str t), some (.ref n), some w, some .non, none, none, none] s = .ok true s from rfl, fl_ok, if_pos rfl, mAsg_ap, g]
    rfl
  · cases cellQ t with
    | none => exact .inl rfl
    | some p => exact .inr ⟨_, rfl⟩
  · cases areaQ t with
    | none => exact .inl rfl
    | some p => exact .inr ⟨_, rfl⟩
/-- a value that is no text -/
theorem pv_other {x : PV} {n : Nat} {st : Store} {T : Ty} {d : PyData} (hT : T ≠ .str) (ht : ∀ s, Ex st s → tyC x s = some T) (hd : ∀ s, Ex st s → toX s x = some d) (s1 : showsX d = true) (s2 : showsX (.tuple [.str (Str.ofString "error"), d]) = true) : Pv st n x .non .non := by
  have er : ∃ w, ∀ s, Ex st s → reprX [.tup [.str (Str.ofString "error"), x]] s = .ok (.str w) s := ⟨_, fun s q => reprX_of (d := .tuple [.str (Str.ofString "error"), d]) (by
    have := hd s q
    unfold toX at this ⊢
    rw [toDw, toDsw, toDsw, this]
    rfl) s2⟩
  refine { rv := ⟨_, fun s q => reprX_of (hd s q) s1⟩, r1 := er, r2 := er, c1 := fun s q => ⟨s, cn_other (ht s q) hT, Ex.refl⟩, c2 := fun s q => ⟨s, an_other (ht s q) hT, Ex.refl⟩, d1 := fun s w q => ?_, d2 := fun s q => ⟨s, ad_other (ht s q) hT, Ex.refl⟩, n1 := .inl rfl, n2 := .inl rfl }
  have : mTru (mIsi .str (mVar 0)) [some x, some (.ref n), some w, some .non, none, none, none] s = .ok false s := by
    have h := ht s q
    cases T <;> simp [h] at hT ⊢ <;> rfl
  rw [mIfS_ap, this]
  rfl
end K01

namespace K01
open PySem PySem.Spec PyProof.Rows Sm Lw
/-! ### a text bent -/
structure Tx (t : Str) (L : Nat) : Prop where
  ok : PyData.strOk t = true
  le : t.length ≤ L
theorem Tx.more {t : Str} {L M : Nat} (h : Tx t L) (hl : L ≤ M) : Tx t M := ⟨h.ok, Nat.le_trans h.le hl⟩
theorem strOk_iff {t : Str} : PyData.strOk t = true ↔ ∀ c ∈ t.cps.toList, c < 1114112 := by
  unfold PyData.strOk
  rw [Array.all_eq_true']
  constructor
  · intro h c hc
    exact of_decide_eq_true (h c (by simpa using hc))
  · intro h c hc
    exact decide_eq_true (h c (by simpa using hc))
theorem Tx.app {a b : Str} {L M : Nat} (h : Tx a L) (g : Tx b M) : Tx (a ++ b) (L + M) := by
  refine ⟨strOk_iff.mpr fun c hc => ?_, ?_⟩
  · have hc : c ∈ (a.cps ++ b.cps).toList := hc
    rw [Array.toList_append, List.mem_append] at hc
    rcases hc with hc | hc
    · exact strOk_iff.mp h.ok c hc
    · exact strOk_iff.mp g.ok c hc
  · show (a.cps ++ b.cps).size ≤ _
    rw [Array.size_append]
    have h1 := h.le
    have h2 := g.le
    unfold Str.length at h1 h2
    omega
theorem Tx.cut {a : Str} {L : Nat} (h : Tx a L) (lo hi : Option Int) : Tx (L2.cutS a lo hi) L := by
  refine ⟨strOk_iff.mpr fun c hc => ?_, ?_⟩
  · unfold L2.cutS at hc
    dsimp only at hc
    rw [List.toList_toArray] at hc
    exact strOk_iff.mp h.ok c (List.mem_of_mem_drop (List.mem_of_mem_take hc))
  · show (L2.cutS a lo hi).cps.size ≤ L
    unfold L2.cutS
    rw [List.size_toArray, List.length_take, List.length_drop]
    have h1 := h.le
    have : a.cps.toList.length = a.length := by unfold Str.length; simp
    omega
abbrev signs : List Str := [Str.ofString "A", Str.ofString "L", Str.ofString "M", Str.ofString "a", Str.ofString "Z", Str.ofString "0", Str.ofString "1", Str.ofString "2", Str.ofString "3", Str.ofString "9", Str.ofString ":", Str.ofString " ", Str.ofString "#", Str.ofString "-", Str.ofString "_", Str.ofString "$", Str.ofString "+"]
theorem sign_ok : ∀ x ∈ signs, Tx x 1 := by
  have : ∀ x ∈ signs, PyData.strOk x = true ∧ x.length ≤ 1 := by decide +kernel
  exact fun x hx => ⟨(this x hx).1, (this x hx).2⟩
theorem add_tx {a b : Str} {L M : Nat} {st : Store} (h : Tx a L) (g : Tx b M) (hl : L + M ≤ 10000) : addF (.str a) (.str b) st = .ok (.str (a ++ b)) st := add_small (by have := h.le; have := g.le; omega)
theorem bent_ap {m : Nat} {t : Str} {L : Nat} {st : Store} (S : Stm st m) (ht : Tx t L) (hl : L ≤ 100) : ∃ t' st', g_f_law_bent [.ref m, .str t] st = .ok (.str t') st' ∧ Tx t' (2 * L + 1) ∧ Gx m st st' := by
  have h1 := ht.le
  have lz : t.length ≤ sizeLine := by rw [sizeLine_eq]; omega
  obtain ⟨a, s1, e1, a0, a1, G1, l1⟩ := draw S (z := (t.length : Int) + 1) (by omega) (by omega)
  obtain ⟨s2, h2⟩ : ∃ s2, s1 ++ [Cell.lst (signs.map .str)] = s2 := ⟨_, rfl⟩
  have X2 : Ex s1 s2 := h2 ▸ Ex.push
  have G2 := G1.ex X2
  have n1 : s1.length ≠ m := Nat.ne_of_gt G1.stm.lt
  obtain ⟨y, s3, e3, hy, G3, _⟩ := choose G2.stm (getL_lst (h2 ▸ get_end : s2[s1.length]? = some (.lst (signs.map .str)))) n1 (by simp) (by simp)
  obtain ⟨g, hg, rfl⟩ := List.mem_map.mp hy
  have gk := sign_ok g hg
  obtain ⟨w, s4, e4, w0, w1, G4, _⟩ := draw (G2.trans G3).stm (z := 4) (by decide) (by decide)
  have G : Gx m st s4 := (G2.trans G3).trans G4
  have dA : mFn 2 Lw.g_f_law_draw (mCons (mVar 0) (mCons (mOp addF (mCall lenF (mCons (mVar 1) mNil)) (mC (.int 1))) mNil)) [some (.ref m), some (.str t), none, none, none] st = .ok (.int a) s1 := by
    have : mCall lenF (mCons (mVar 1) mNil) [some (.ref m), some (.str t), none, none, none] st = .ok (.int (t.length : Int)) st := by simp [lenF, lz]
    rw [mFn_ap, mCons_ap, show mVar 0 [some (.ref m), some (.str t), none, none, none] st = .ok (.ref m) st from rfl, bind_ok, mCons_ap, mOp_ap, this]
    simp only [bind_ok, mC_ap, mNil_ap]
    rw [show addF (.int (t.length : Int)) (.int 1) st = .ok (.int ((t.length : Int) + 1)) st from rfl]
    simp only [bind_ok, List.length_cons, List.length_nil, if_true, e1]
  let σ : Slots := [some (.ref m), some (.str t), some (.int a), some (.str g), some (.int w)]
  obtain ⟨c1, hc1⟩ : ∃ c1, L2.cutS t none (some a) = c1 := ⟨_, rfl⟩
  obtain ⟨c2, hc2⟩ : ∃ c2, L2.cutS t (some a) none = c2 := ⟨_, rfl⟩
  obtain ⟨c3, hc3⟩ : ∃ c3, L2.cutS t (some (a + 1)) none = c3 := ⟨_, rfl⟩
  obtain ⟨c4, hc4⟩ : ∃ c4, L2.cutS t none (some (a + 1)) = c4 := ⟨_, rfl⟩
  have t1 : Tx c1 L := hc1 ▸ ht.cut _ _
  have t2 : Tx c2 L := hc2 ▸ ht.cut _ _
  have t3 : Tx c3 L := hc3 ▸ ht.cut _ _
  have t4 : Tx c4 L := hc4 ▸ ht.cut _ _
  have k1 : mSl (mVar 1) none (some (mVar 2)) σ s4 = .ok (.str c1) s4 := by simp [σ, mO, slF, lz, hc1]
  have k2 : mSl (mVar 1) (some (mVar 2)) none σ s4 = .ok (.str c2) s4 := by simp [σ, mO, slF, lz, hc2]
  have k3 : mSl (mVar 1) (some (mOp addF (mVar 2) (mC (.int 1)))) none σ s4 = .ok (.str c3) s4 := by simp [σ, mO, slF, lz, hc3]
  have k4 : mSl (mVar 1) none (some (mOp addF (mVar 2) (mC (.int 1)))) σ s4 = .ok (.str c4) s4 := by simp [σ, mO, slF, lz, hc4]
  have kg : mVar 3 σ s4 = .ok (.str g) s4 := rfl
  have head : ∀ r : MS, mSeq (mAsg (mFn 2 Lw.g_f_law_draw (mCons (mVar 0) (mCons (mOp addF (mCall lenF (mCons (mVar 1) mNil)) (mC (.int 1))) mNil))) (gNm 2))
      (mSeq (mAsg (mFn 2 Lw.g_f_law_choose (mCons (mVar 0) (mCons (mLst (mCons (mC (.str (Str.ofString "A"))) (mCons (mC (.str (Str.ofString "L"))) (mCons (mC (.str (Str.ofString "M"))) (mCons (mC (.str (Str.ofString "a"))) (mCons (mC (.str (Str.ofString "Z"))) (mCons (mC (.str (Str.ofString "0"))) (mCons (mC (.str (Str.ofString "1"))) (mCons (mC (.str (Str.ofString "2"))) (mCons (mC (.str (Str.ofString "3"))) (mCons (mC (.str (Str.ofString "9"))) (mCons (mC (.str (Str.ofString ":"))) (mCons (mC (.str (Str.ofString " "))) (mCons (mC (.str (Str.ofString "#"))) (mCons (mC (.str (Str.ofString "-"))) (mCons (mC (.str (Str.ofString "_"))) (mCons (mC (.str (Str.ofString "$"))) (mCons (mC (.str (Str.ofString "+"))) mNil)))))))))))))))))) mNil))) (gNm 3))
      (mSeq (mAsg (mFn 2 Lw.g_f_law_draw (mCons (mVar 0) (mCons (mC (.int 4)) mNil))) (gNm 4)) r)) [some (.ref m), some (.str t), none, none, none] st = r σ s4 := by
    intro r
    rw [mSeq_ap, mAsg_ap, dA, fl_ok, gNm_ap]
    dsimp only [List.set_cons_zero, List.set_cons_succ]
    have d2 : mFn 2 Lw.g_f_law_choose (mCons (mVar 0) (mCons (mLst (mCons (mC (.str (Str.ofString "A"))) (mCons (mC (.str (Str.ofString "L"))) (mCons (mC (.str (Str.ofString "M"))) (mCons (mC (.str (Str.ofString "a"))) (mCons (mC (.str (Str.ofString "Z"))) (mCons (mC (.str (Str.ofString "0"))) (mCons (mC (.str (Str.ofString "1"))) (mCons (mC (.str (Str.ofString "2"))) (mCons (mC (.str (Str.ofString "3"))) (mCons (mC (.str (Str.ofString "9"))) (mCons (mC (.str (Str.ofString ":"))) (mCons (mC (.str (Str.ofString " "))) (mCons (mC (.str (Str.ofString "#"))) (mCons (mC (.str (Str.ofString "-"))) (mCons (mC (.str (Str.ofString "_"))) (mCons (mC (.str (Str.ofString "$"))) (mCons (mC (.str (Str.ofString "+"))) mNil)))))))))))))))))) mNil)) [some (.ref m), some (.str t), some (.int a), none, none] s1 = .ok (.str g) s3 := by
      have : mLst (mCons (mC (.str (Str.ofString "A"))) (mCons (mC (.str (Str.ofString "L"))) (mCons (mC (.str (Str.ofString "M"))) (mCons (mC (.str (Str.ofString "a"))) (mCons (mC (.str (Str.ofString "Z"))) (mCons (mC (.str (Str.ofString "0"))) (mCons (mC (.str (Str.ofString "1"))) (mCons (mC (.str (Str.ofString "2"))) (mCons (mC (.str (Str.ofString "3"))) (mCons (mC (.str (Str.ofString "9"))) (mCons (mC (.str (Str.ofString ":"))) (mCons (mC (.str (Str.ofString " "))) (mCons (mC (.str (Str.ofString "#"))) (mCons (mC (.str (Str.ofString "-"))) (mCons (mC (.str (Str.ofString "_"))) (mCons (mC (.str (Str.ofString "$"))) (mCons (mC (.str (Str.ofString "+"))) mNil))))))))))))))))) [some (.ref m), some (.str t), some (.int a), none, none] s1 = .ok (.ref s1.length) s2 := by
        rw [← h2]
        rfl
      rw [mFn_ap, mCons_ap, show mVar 0 [some (.ref m), some (.str t), some (.int a), none, none] s1 = .ok (.ref m) s1 from rfl, bind_ok, mCons_ap, this, bind_ok, mNil_ap, bind_ok, bind_ok, bind_ok]
      simp only [List.length_cons, List.length_nil, if_true, e3]
    rw [mSeq_ap, mAsg_ap, d2, fl_ok, gNm_ap]
    dsimp only [List.set_cons_zero, List.set_cons_succ]
    have d3 : mFn 2 Lw.g_f_law_draw (mCons (mVar 0) (mCons (mC (.int 4)) mNil)) [some (.ref m), some (.str t), some (.int a), some (.str g), none] s3 = .ok (.int w) s4 := by
      rw [mFn_ap, show mCons (mVar 0) (mCons (mC (.int 4)) mNil) [some (.ref m), some (.str t), some (.int a), some (.str g), none] s3 = .ok [.ref m, .int 4] s3 from rfl, bind_ok]
      simp only [List.length_cons, List.length_nil, if_true, e4]
    rw [mSeq_ap, mAsg_ap, d3, fl_ok, gNm_ap]
    rfl
  have tw : ∀ c : Int, mTest (mOp (eqF false) (mVar 4) (mC (.int c))) σ s4 = .ok (decide (w = c)) s4 := fun c => rfl
  obtain ⟨t', hr, ht'⟩ : ∃ t', mSeq (mIfS (mTest (mOp (eqF false) (mVar 4) (mC (.int 0)))) (mRet (mOp addF (mOp addF (mSl (mVar 1) none (some (mVar 2))) (mVar 3)) (mSl (mVar 1) (some (mVar 2)) none))) mNext)
    (mSeq (mIfS (mTest (mOp (eqF false) (mVar 4) (mC (.int 1)))) (mRet (mOp addF (mSl (mVar 1) none (some (mVar 2))) (mSl (mVar 1) (some (mOp addF (mVar 2) (mC (.int 1)))) none))) mNext)
    (mSeq (mIfS (mTest (mOp (eqF false) (mVar 4) (mC (.int 2)))) (mRet (mOp addF (mOp addF (mSl (mVar 1) none (some (mVar 2))) (mVar 3)) (mSl (mVar 1) (some (mOp addF (mVar 2) (mC (.int 1)))) none))) mNext)
    (mRet (mOp addF (mSl (mVar 1) none (some (mOp addF (mVar 2) (mC (.int 1))))) (mSl (mVar 1) (some (mVar 2)) none))))) σ s4 = .rt (.str t') s4 ∧ Tx t' (2 * L + 1) := by
    have no : ∀ {c : Int}, w ≠ c → decide (w = c) = false := fun h => decide_eq_false h
    have yes : ∀ {c : Int}, w = c → decide (w = c) = true := fun h => decide_eq_true h
    rcases (show w = 0 ∨ w = 1 ∨ w = 2 ∨ w = 3 by omega) with h | h | h | h
    · refine ⟨c1 ++ g ++ c2, ?_, ((t1.app gk).app t2).more (by omega)⟩
      rw [mSeq_ap, mIfS_ap, tw, fl_ok, yes h, if_pos rfl, mRet_ap, mOp_ap, mOp_ap, k1, bind_ok, kg, bind_ok, add_tx t1 gk (by omega), bind_ok, k2, bind_ok, add_tx (t1.app gk) t2 (by omega)]
      rfl
    · refine ⟨c1 ++ c3, ?_, (t1.app t3).more (by omega)⟩
      rw [mSeq_ap, mIfS_ap, tw, fl_ok, no (by omega), if_neg (by decide), mNext_ap]
      dsimp only
      rw [mSeq_ap, mIfS_ap, tw, fl_ok, yes h, if_pos rfl, mRet_ap, mOp_ap, k1, bind_ok, k3, bind_ok, add_tx t1 t3 (by omega)]
      rfl
    · refine ⟨c1 ++ g ++ c3, ?_, ((t1.app gk).app t3).more (by omega)⟩
      rw [mSeq_ap, mIfS_ap, tw, fl_ok, no (by omega), if_neg (by decide), mNext_ap]
      dsimp only
      rw [mSeq_ap, mIfS_ap, tw, fl_ok, no (by omega), if_neg (by decide), mNext_ap]
      dsimp only
      rw [mSeq_ap, mIfS_ap, tw, fl_ok, yes h, if_pos rfl, mRet_ap, mOp_ap, mOp_ap, k1, bind_ok, kg, bind_ok, add_tx t1 gk (by omega), bind_ok, k3, bind_ok, add_tx (t1.app gk) t3 (by omega)]
      rfl
    · refine ⟨c4 ++ c2, ?_, (t4.app t2).more (by omega)⟩
      rw [mSeq_ap, mIfS_ap, tw, fl_ok, no (by omega), if_neg (by decide), mNext_ap]
      dsimp only
      rw [mSeq_ap, mIfS_ap, tw, fl_ok, no (by omega), if_neg (by decide), mNext_ap]
      dsimp only
      rw [mSeq_ap, mIfS_ap, tw, fl_ok, no (by omega), if_neg (by decide), mNext_ap]
      dsimp only
      rw [mRet_ap, mOp_ap, k4, bind_ok, k2, bind_ok, add_tx t4 t2 (by omega)]
      rfl
  refine ⟨t', s4, ?_, ht', G⟩
  show gOf N_f_law_bent m_f_law_bent [.ref m, .str t] st = _
  unfold gOf m_f_law_bent
  rw [show startS N_f_law_bent [.ref m, .str t] = [some (.ref m), some (.str t), none, none, none] from rfl, head, hr]
end K01

namespace K01
open PySem PySem.Spec PyProof.Rows Sm Lw
theorem right_fn {st : Store} {n i j : Nat} {v o1 o2 : PV} {σ : Slots} (h : Pv st n v o1 o2) (hi : σ[i]? = some (some v)) (hj : σ[j]? = some (some (.ref n))) : ∃ s', mNotT (mTru (mFn 2 g_f_law_parsed_right (mCons (mVar i) (mCons (mVar j) mNil)))) σ st = .ok false s' ∧ Ex st s' := by
  obtain ⟨s', e, x⟩ := right_ap h
  refine ⟨s', ?_, x⟩
  have : mFn 2 g_f_law_parsed_right (mCons (mVar i) (mCons (mVar j) mNil)) σ st = .ok (.bl true) s' := by
    have : mCons (mVar i) (mCons (mVar j) mNil) σ st = .ok [v, .ref n] st := by simp [hi, hj]
    rw [mFn_ap, this, bind_ok]
    simp only [List.length_cons, List.length_nil, if_true, e]
  rw [mNotT_ap, mTru_ap, this]
  rfl
theorem lc_none {n q d : Nat} {all : List PV} {σ : Slots} (hσ : 10 < σ.length) (h1 : σ[1]? = some (some (.ref n))) : ∀ (xs : List PV) (st : Store), AllN st n → (∀ x ∈ xs, ∃ t, x = .str t ∧ Tx t 6000) → st[q]? = some (.lst all) →
    ∃ st', lcF (gNm 10) (mNotT (mTru (mFn 2 g_f_law_parsed_right (mCons (mVar 10) (mCons (mVar 1) mNil))))) (mVar 10) (some q) all σ d xs st = .ok (.ref d) st' ∧ Ex st st'
  | [], st, hN, _, hq => ⟨st, by rw [lcF, if_pos (stays_some (getL_lst hq))], Ex.refl⟩
  | x :: xs, st, hN, hx, hq => by
    obtain ⟨t, rfl, tx⟩ := hx x List.mem_cons_self
    have g10 : (σ.set 10 (some (.str t)))[10]? = some (some (.str t)) := List.getElem?_set_self hσ
    have g1 : (σ.set 10 (some (.str t)))[1]? = some (some (.ref n)) := by rw [List.getElem?_set_ne (by decide)]; exact h1
    obtain ⟨s1, e1, x1⟩ := right_fn (i := 10) (j := 1) (pv_str hN tx.ok tx.le) g10 g1
    obtain ⟨s2, e2, x2⟩ := lc_none hσ h1 xs s1 (hN.ex x1) (fun y hy => hx y (List.mem_cons_of_mem _ hy)) (x1.get hq)
    refine ⟨s2, ?_, x1.trans x2⟩
    rw [lcF, if_pos (stays_some (getL_lst hq))]
    simp only [gNm_ap]
    rw [e1]
    simp only [bindN_ok, Bool.false_eq_true, if_false]
    exact e2
theorem vals3 {n q : Nat} {all : List PV} : ∀ (xs : List PV) (σ : Slots) (st : Store), 12 < σ.length → σ[1]? = some (some (.ref n)) → AllN st n → (∀ x ∈ xs, ∀ s, Ex st s → ∃ o1 o2, Pv s n x o1 o2) → st[q]? = some (.lst all) →
    ∃ σ' st', loopF (gNm 12) L3_f_law (some q) all xs σ st = .nx σ' st' ∧ Ex st st' ∧ σ'.length = σ.length ∧ σ'[1]? = some (some (.ref n))
  | [], σ, st, hl, h1, hN, _, hq => ⟨σ, st, by rw [loopF, if_pos (stays_some (getL_lst hq))], Ex.refl, rfl, h1⟩
  | x :: xs, σ, st, hl, h1, hN, hx, hq => by
    obtain ⟨o1, o2, pv⟩ := hx x List.mem_cons_self st Ex.refl
    have g12 : (σ.set 12 (some x))[12]? = some (some x) := List.getElem?_set_self hl
    have g1 : (σ.set 12 (some x))[1]? = some (some (.ref n)) := by rw [List.getElem?_set_ne (by decide)]; exact h1
    obtain ⟨s1, e1, x1⟩ := right_fn (i := 12) (j := 1) pv g12 g1
    obtain ⟨σ', s2, e2, x2, l2, k2⟩ := vals3 xs (σ.set 12 (some x)) s1 (by rw [List.length_set]; exact hl) g1 (hN.ex x1) (fun y hy s hs => hx y (List.mem_cons_of_mem _ hy) s (x1.trans hs)) (x1.get hq)
    refine ⟨σ', s2, ?_, x1.trans x2, by rw [l2, List.length_set], k2⟩
    rw [loopF, if_pos (stays_some (getL_lst hq)), gNm_ap]
    dsimp only
    have : L3_f_law (σ.set 12 (some x)) st = .nx (σ.set 12 (some x)) s1 := by
      unfold L3_f_law
      rw [mIfS_ap, e1, fl_ok, if_neg (by decide), mNext_ap]
    rw [this]
    exact e2
theorem L43 : L4_f_law = L3_f_law := rfl
/-! ### a text times a number -/
theorem fold_rep {c : Nat} : ∀ (k : Nat) (acc : Array Nat), (List.foldl (fun x1 x2 => x1 ++ x2) acc (List.replicate k #[c])).toList = acc.toList ++ List.replicate k c
  | 0, acc => by simp
  | k + 1, acc => by
    rw [List.replicate_succ, List.foldl_cons, fold_rep k, Array.toList_append, List.replicate_succ]
    simp
theorem mul_ap {a : Str} {c : Nat} {st : Store} (ha : a = ⟨#[c]⟩) (hc : c < 1114112) : ∃ t, mulT (.str a) (.int 5000) st = .ok (.str t) st ∧ Tx t 5000 := by
  subst ha
  let t : Str := ⟨List.foldl (fun x1 x2 => x1 ++ x2) #[] (List.replicate (5000 : Int).toNat #[c])⟩
  have tl : t.cps.toList = List.replicate 5000 c := by
    show (List.foldl (fun x1 x2 => x1 ++ x2) #[] (List.replicate 5000 #[c])).toList = _
    rw [fold_rep]
    simp
  have len : t.length = 5000 := by
    show t.cps.size = 5000
    rw [← Array.length_toList, tl, List.length_replicate]
  refine ⟨t, ?_, ⟨strOk_iff.mpr fun x hx => ?_, by rw [len]; exact Nat.le_refl _⟩⟩
  · unfold mulT
    dsimp only
    have l1 : Str.length ⟨#[c]⟩ = 1 := rfl
    rw [if_pos ⟨by decide, by decide, by rw [l1]; decide, by rw [l1]; decide, by rw [l1, sizeLine_eq]; decide, by
      have := len
      show t.length ≤ sizeLine
      rw [this, sizeLine_eq]; decide⟩]
  · rw [tl] at hx
    rw [(List.mem_replicate.mp hx).2]
    exact hc
end K01

namespace K01
open PySem PySem.Spec PyProof.Rows Sm Lw
theorem tx_col : ∀ j, j < 12 → Tx (colsL.getD j Str.empty) 1 := by
  have : ∀ j, j < 12 → PyData.strOk (colsL.getD j Str.empty) = true ∧ (colsL.getD j Str.empty).length ≤ 1 := by decide +kernel
  exact fun j h => ⟨(this j h).1, (this j h).2⟩
theorem tx_row : ∀ j, j < 12 → Tx (rowsL.getD j Str.empty) 2 := by
  have : ∀ j, j < 12 → PyData.strOk (rowsL.getD j Str.empty) = true ∧ (rowsL.getD j Str.empty).length ≤ 2 := by decide +kernel
  exact fun j h => ⟨(this j h).1, (this j h).2⟩
theorem tx_name {i j : Nat} (hi : i < 12) (hj : j < 12) : Tx (nameS i j) 3 := (tx_col j hj).app (tx_row i hi)
theorem tx_colon : Tx colon 1 := by
  have : PyData.strOk colon = true ∧ colon.length ≤ 1 := by decide +kernel
  exact ⟨this.1, this.2⟩
def areaS (i j k l : Nat) : Str := nameS i j ++ colon ++ nameS k l
theorem tx_area {i j k l : Nat} (hi : i < 12) (hj : j < 12) (hk : k < 12) (hl : l < 12) : Tx (areaS i j k l) 7 := ((tx_name hi hj).app tx_colon).app (tx_name hk hl)
/-- two names with a colon between -/
theorem join_ap {e1 e2 : ME} {σ : Slots} {st : Store} {i j k l : Nat} (hi : i < 12) (hj : j < 12) (hk : k < 12) (hl : l < 12) (h1 : e1 σ st = .ok (.str (nameS i j)) st) (h2 : e2 σ st = .ok (.str (nameS k l)) st) :
    mOp addF (mOp addF e1 (mC (.str colon))) e2 σ st = .ok (.str (areaS i j k l)) st := by
  rw [mOp_ap, mOp_ap, h1, bind_ok, mC_ap, bind_ok, add_tx (tx_name hi hj) tx_colon (by decide), bind_ok, h2, bind_ok, add_tx ((tx_name hi hj).app tx_colon) (tx_name hk hl) (by decide)]
  rfl
theorem fnl_ap {e : ME} {σ : Slots} {st : Store} {i j : Nat} (hi : i < 12) (hj : j < 12) (h : e σ st = .ok (tupP (i, j)) st) : mFn 1 g_f_law_name (mCons e mNil) σ st = .ok (.str (nameS i j)) st := by
  rw [mFn_ap, mCons_ap, h, bind_ok, mNil_ap, bind_ok, bind_ok]
  simp only [List.length_cons, List.length_nil, if_true, lname_ap hi hj]
theorem fnc_ap {e : ME} {σ : Slots} {st : Store} {i j : Nat} (hi : i < 12) (hj : j < 12) (h : e σ st = .ok (tupP (i, j)) st) : mFn 1 g_f_cell_name (mCons e mNil) σ st = .ok (.str (nameS i j)) st := by
  rw [mFn_ap, mCons_ap, h, bind_ok, mNil_ap, bind_ok, bind_ok]
  simp only [List.length_cons, List.length_nil, if_true, cname_ap hi hj]
theorem aname_ap {i j k l : Nat} (hi : i < 12) (hj : j < 12) (hk : k < 12) (hl : l < 12) {st : Store} : g_f_area_name [.tup [.int i, .int j, .int k, .int l]] st = .ok (.str (areaS i j k l)) st := by
  show gOf N_f_area_name m_f_area_name _ st = _
  unfold gOf m_f_area_name
  rw [show startS N_f_area_name [.tup [.int i, .int j, .int k, .int l]] = [some (.tup [.int i, .int j, .int k, .int l]), none, none, none, none] from rfl, mSeq_ap, show mAsg (mVar 0) (gTp 4 (gCons (gNm 1) (gCons (gNm 2) (gCons (gNm 3) (gCons (gNm 4) gNil))))) [some (.tup [.int i, .int j, .int k, .int l]), none, none, none, none] st = .nx [some (.tup [.int i, .int j, .int k, .int l]), some (.int i), some (.int j), some (.int k), some (.int l)] st from rfl]
  dsimp only
  rw [mRet_ap, join_ap hi hj hk hl (fnc_ap hi hj rfl) (fnc_ap hk hl rfl)]
  rfl
theorem fnb_ap {e : ME} {σ : Slots} {st s1 : Store} {m : Nat} {t t' : Str} (h3 : σ[3]? = some (some (.ref m))) (h : e σ st = .ok (.str t) st) (hb : g_f_law_bent [.ref m, .str t] st = .ok (.str t') s1) : mFn 2 g_f_law_bent (mCons (mVar 3) (mCons e mNil)) σ st = .ok (.str t') s1 := by
  have : mVar 3 σ st = .ok (.ref m) st := by rw [mVar_ap, h3]
  rw [mFn_ap, mCons_ap, this, bind_ok, mCons_ap, h, bind_ok, mNil_ap, bind_ok, bind_ok, bind_ok]
  simp only [List.length_cons, List.length_nil, if_true, hb]
theorem draw_fn {e : ME} {σ : Slots} {st s1 : Store} {m : Nat} {z v : Int} (h3 : σ[3]? = some (some (.ref m))) (h : e σ st = .ok (.int z) st) (hb : Lw.g_f_law_draw [.ref m, .int z] st = .ok (.int v) s1) : mFn 2 Lw.g_f_law_draw (mCons (mVar 3) (mCons e mNil)) σ st = .ok (.int v) s1 := by
  have : mVar 3 σ st = .ok (.ref m) st := by rw [mVar_ap, h3]
  rw [mFn_ap, mCons_ap, this, bind_ok, mCons_ap, h, bind_ok, mNil_ap, bind_ok, bind_ok, bind_ok]
  simp only [List.length_cons, List.length_nil, if_true, hb]
end K01

namespace K01
open PySem PySem.Spec PyProof.Rows Sm Lw
theorem turn {st : Store} {m n : Nat} {o2 o4 o5 o6 o7 o8 o9 o10 o11 o12 : Option PV} (S : Stm st m) (hN : AllN st n) (hn : n ≠ m) :
    ∃ a5 a6 a7 a8 a9 st', L1_f_law [some (.ref 0), some (.ref n), o2, some (.ref m), o4, o5, o6, o7, o8, o9, o10, o11, o12] st = .nx [some (.ref 0), some (.ref n), o2, some (.ref m), o4, a5, a6, a7, a8, a9, o10, o11, o12] st' ∧ Gx m st st' := by
  obtain ⟨v, s1, e1, v0, v1, G1, _⟩ := draw S (z := 12) (by decide) (by decide)
  obtain ⟨L, hL⟩ : ∃ L, [PV.int 0, PV.int 11, PV.int v] = L := ⟨_, rfl⟩
  obtain ⟨s2, h2⟩ : ∃ s2, s1 ++ [Cell.lst L] = s2 := ⟨_, rfl⟩
  have X2 : Ex s1 s2 := h2 ▸ Ex.push
  have G2 := G1.ex X2
  have n1 : s1.length ≠ m := Nat.ne_of_gt G1.stm.lt
  obtain ⟨y, s3, e3, hy, G3, _⟩ := choose G2.stm (getL_lst (h2 ▸ get_end : s2[s1.length]? = some (.lst L))) n1 (by rw [← hL]; simp) (by rw [← hL]; exact (show (3 : Nat) < 1000000 by decide))
  obtain ⟨i, rfl, hi⟩ : ∃ i : Nat, y = .int i ∧ i < 12 := by
    rw [← hL] at hy
    simp only [List.mem_cons, List.not_mem_nil, or_false] at hy
    rcases hy with rfl | rfl | rfl
    · exact ⟨0, rfl, by decide⟩
    · exact ⟨11, rfl, by decide⟩
    · exact ⟨v.toNat, by rw [Int.toNat_of_nonneg v0], by omega⟩
  have G23 := G2.trans G3
  obtain ⟨w, s4, e4, w0, w1, G4, _⟩ := draw G23.stm (z := 12) (by decide) (by decide)
  obtain ⟨j, rfl⟩ : ∃ j : Nat, w = j := ⟨w.toNat, by omega⟩
  have hj : j < 12 := by omega
  have G24 := G23.trans G4
  obtain ⟨p, s5, e5, p0, p1, G5, _⟩ := draw G24.stm (z := 12 - (i : Int)) (by omega) (by omega)
  have G25 := G24.trans G5
  obtain ⟨q, s6, e6, q0, q1, G6, _⟩ := draw G25.stm (z := 12 - (j : Int)) (by omega) (by omega)
  have G26 := G25.trans G6
  obtain ⟨k, hk0⟩ : ∃ k : Nat, (i : Int) + p = k := ⟨((i : Int) + p).toNat, by omega⟩
  obtain ⟨l, hl0⟩ : ∃ l : Nat, (j : Int) + q = l := ⟨((j : Int) + q).toNat, by omega⟩
  have hk : k < 12 := by omega
  have hl : l < 12 := by omega
  -- the statements
  let σ0 : Slots := [some (.ref 0), some (.ref n), o2, some (.ref m), o4, o5, o6, o7, o8, o9, o10, o11, o12]
  have c1 : mFn 2 Lw.g_f_law_choose (mCons (mVar 3) (mCons (mLst (mCons (mC (.int 0)) (mCons (mC (.int 11)) (mCons (mFn 2 Lw.g_f_law_draw (mCons (mVar 3) (mCons (mC (.int 12)) mNil))) mNil)))) mNil)) σ0 st = .ok (.int i) s3 := by
    have d : mFn 2 Lw.g_f_law_draw (mCons (mVar 3) (mCons (mC (.int 12)) mNil)) σ0 st = .ok (.int v) s1 := draw_fn rfl rfl e1
    have li : mLst (mCons (mC (.int 0)) (mCons (mC (.int 11)) (mCons (mFn 2 Lw.g_f_law_draw (mCons (mVar 3) (mCons (mC (.int 12)) mNil))) mNil))) σ0 st = .ok (.ref s1.length) s2 := by
      rw [mLst_ap, mCons_ap, mC_ap, bind_ok, mCons_ap, mC_ap, bind_ok, mCons_ap, d, bind_ok, mNil_ap, bind_ok, bind_ok, bind_ok, bind_ok, if_pos (by rw [sizeLine_eq]; simp), hL, h2]
    rw [mFn_ap, mCons_ap, show mVar 3 σ0 st = .ok (.ref m) st from rfl, bind_ok, mCons_ap, li, bind_ok, mNil_ap, bind_ok, bind_ok, bind_ok]
    simp only [List.length_cons, List.length_nil, if_true, e3]
  have c2 : mFn 2 Lw.g_f_law_draw (mCons (mVar 3) (mCons (mC (.int 12)) mNil)) σ0 s3 = .ok (.int j) s4 := draw_fn rfl rfl e4
  let σ1 : Slots := [some (.ref 0), some (.ref n), o2, some (.ref m), o4, some (.int i), some (.int j), o7, o8, o9, o10, o11, o12]
  let A : PV := .tup [.int i, .int j, .int k, .int l]
  let σ2 : Slots := [some (.ref 0), some (.ref n), o2, some (.ref m), o4, some (.int i), some (.int j), some A, o8, o9, o10, o11, o12]
  let σ3 : Slots := [some (.ref 0), some (.ref n), o2, some (.ref m), o4, some (.int i), some (.int j), some A, some (.str (areaS i j k l)), o9, o10, o11, o12]
  have S1 : mPar 5 6 (mCons (mFn 2 Lw.g_f_law_choose (mCons (mVar 3) (mCons (mLst (mCons (mC (.int 0)) (mCons (mC (.int 11)) (mCons (mFn 2 Lw.g_f_law_draw (mCons (mVar 3) (mCons (mC (.int 12)) mNil))) mNil)))) mNil))) (mCons (mFn 2 Lw.g_f_law_draw (mCons (mVar 3) (mCons (mC (.int 12)) mNil))) mNil)) σ0 st = .nx σ1 s4 := by
    rw [mPar_ap, mCons_ap, c1, bind_ok, mCons_ap, c2]
    rfl
  have S2 : mAsg (mTup (mCons (mVar 5) (mCons (mVar 6) (mCons (mOp addF (mVar 5) (mFn 2 Lw.g_f_law_draw (mCons (mVar 3) (mCons (mOp subF (mC (.int 12)) (mVar 5)) mNil)))) (mCons (mOp addF (mVar 6) (mFn 2 Lw.g_f_law_draw (mCons (mVar 3) (mCons (mOp subF (mC (.int 12)) (mVar 6)) mNil)))) mNil))))) (gNm 7) σ1 s4 = .nx σ2 s6 := by
    have d1 : mFn 2 Lw.g_f_law_draw (mCons (mVar 3) (mCons (mOp subF (mC (.int 12)) (mVar 5)) mNil)) σ1 s4 = .ok (.int p) s5 := draw_fn rfl rfl e5
    have d2 : mFn 2 Lw.g_f_law_draw (mCons (mVar 3) (mCons (mOp subF (mC (.int 12)) (mVar 6)) mNil)) σ1 s5 = .ok (.int q) s6 := draw_fn rfl rfl e6
    have a1 : mOp addF (mVar 5) (mFn 2 Lw.g_f_law_draw (mCons (mVar 3) (mCons (mOp subF (mC (.int 12)) (mVar 5)) mNil))) σ1 s4 = .ok (.int k) s5 := by
      rw [mOp_ap, show mVar 5 σ1 s4 = .ok (.int i) s4 from rfl, bind_ok, d1, bind_ok, show addF (.int i) (.int p) s5 = .ok (.int ((i : Int) + p)) s5 from rfl, hk0]
    have a2 : mOp addF (mVar 6) (mFn 2 Lw.g_f_law_draw (mCons (mVar 3) (mCons (mOp subF (mC (.int 12)) (mVar 6)) mNil))) σ1 s5 = .ok (.int l) s6 := by
      rw [mOp_ap, show mVar 6 σ1 s5 = .ok (.int j) s5 from rfl, bind_ok, d2, bind_ok, show addF (.int j) (.int q) s6 = .ok (.int ((j : Int) + q)) s6 from rfl, hl0]
    rw [mAsg_ap, mTup_ap, mCons_ap, show mVar 5 σ1 s4 = .ok (.int i) s4 from rfl, bind_ok, mCons_ap, show mVar 6 σ1 s4 = .ok (.int j) s4 from rfl, bind_ok, mCons_ap, a1, bind_ok, mCons_ap, a2, bind_ok, mNil_ap, bind_ok, bind_ok, bind_ok, bind_ok, bind_ok, if_pos (by rw [sizeLine_eq]; simp)]
    rfl
  have sa : ∀ (x : Option PV) s, mSl (mVar 7) none (some (mC (.int 2))) [some (.ref 0), some (.ref n), o2, some (.ref m), o4, some (.int i), some (.int j), some A, x, o9, o10, o11, o12] s = .ok (tupP (i, j)) s := fun _ _ => rfl
  have sb : ∀ (x : Option PV) s, mSl (mVar 7) (some (mC (.int 2))) none [some (.ref 0), some (.ref n), o2, some (.ref m), o4, some (.int i), some (.int j), some A, x, o9, o10, o11, o12] s = .ok (tupP (k, l)) s := fun _ _ => rfl
  have S3 : mAsg (mOp addF (mOp addF (mFn 1 g_f_law_name (mCons (mSl (mVar 7) none (some (mC (.int 2)))) mNil)) (mC (.str (Str.ofString ":")))) (mFn 1 g_f_law_name (mCons (mSl (mVar 7) (some (mC (.int 2))) none) mNil))) (gNm 8) σ2 s6 = .nx σ3 s6 := by
    rw [mAsg_ap, join_ap hi hj hk hl (fnl_ap hi hj (sa _ _)) (fnl_ap hk hl (sb _ _))]
    rfl
  have tt : ∀ (σ : Slots) s, σ[5]? = some (some (.int i)) → σ[6]? = some (some (.int j)) → mTup (mCons (mVar 5) (mCons (mVar 6) mNil)) σ s = .ok (tupP (i, j)) s := by
    intro σ s h5 h6
    rw [mTup_ap, mCons_ap, show mVar 5 σ s = .ok (.int i) s from by rw [mVar_ap, h5], bind_ok, mCons_ap, show mVar 6 σ s = .ok (.int j) s from by rw [mVar_ap, h6], bind_ok, mNil_ap, bind_ok, bind_ok, bind_ok, if_pos (by rw [sizeLine_eq]; simp)]
    rfl
  have S4 : mIfS (mOrT (mTest (mOp (eqF true) (mFn 1 g_f_cell_name (mCons (mTup (mCons (mVar 5) (mCons (mVar 6) mNil))) mNil)) (mFn 1 g_f_law_name (mCons (mTup (mCons (mVar 5) (mCons (mVar 6) mNil))) mNil)))) (mTest (mOp (eqF true) (mFn 1 g_f_area_name (mCons (mVar 7) mNil)) (mVar 8)))) (mRet (mC (.bl false))) mNext σ3 s6 = .nx σ3 s6 := by
    have x1 : mTest (mOp (eqF true) (mFn 1 g_f_cell_name (mCons (mTup (mCons (mVar 5) (mCons (mVar 6) mNil))) mNil)) (mFn 1 g_f_law_name (mCons (mTup (mCons (mVar 5) (mCons (mVar 6) mNil))) mNil))) σ3 s6 = .ok false s6 := by
      rw [mTest_ap, mOp_ap, fnc_ap hi hj (tt _ _ rfl rfl), bind_ok, fnl_ap hi hj (tt _ _ rfl rfl), bind_ok, show eqF true (.str (nameS i j)) (.str (nameS i j)) s6 = .ok (.bl (!decide (nameS i j = nameS i j))) s6 from rfl]
      simp
    have x2 : mTest (mOp (eqF true) (mFn 1 g_f_area_name (mCons (mVar 7) mNil)) (mVar 8)) σ3 s6 = .ok false s6 := by
      rw [mTest_ap, mOp_ap, fn1_ap (x := A) rfl (aname_ap hi hj hk hl), bind_ok, show mVar 8 σ3 s6 = .ok (.str (areaS i j k l)) s6 from rfl, bind_ok, show eqF true (.str (areaS i j k l)) (.str (areaS i j k l)) s6 = .ok (.bl (!decide (areaS i j k l = areaS i j k l))) s6 from rfl]
      simp
    rw [mIfS_ap, mOrT_ap, x1]
    simp only [bind_ok, Bool.false_eq_true, if_false, x2, fl_ok, mNext_ap]
  -- the texts
  have tA := tx_area hi hj hk hl
  have tN := tx_name hi hj
  obtain ⟨b1, s7, e7, u1, G7⟩ := bent_ap G26.stm tA (by decide)
  have G27 := G26.trans G7
  obtain ⟨b2, s8, e8, u2, G8⟩ := bent_ap G27.stm tN (by decide)
  have G28 := G27.trans G8
  obtain ⟨L1, hL1⟩ : ∃ L1, [PV.str (areaS i j k l), PV.str (nameS i j), PV.str b1, PV.str b2] = L1 := ⟨_, rfl⟩
  obtain ⟨s9, h9⟩ : ∃ s9, s8 ++ [Cell.lst L1] = s9 := ⟨_, rfl⟩
  have X9 : Ex s8 s9 := h9 ▸ Ex.push
  have G29 := G28.ex X9
  have g9 : s9[s8.length]? = some (.lst L1) := h9 ▸ get_end
  have n8 : s8.length ≠ m := Nat.ne_of_gt G28.stm.lt
  let σ4 : Slots := [some (.ref 0), some (.ref n), o2, some (.ref m), o4, some (.int i), some (.int j), some A, some (.str (areaS i j k l)), some (.ref s8.length), o10, o11, o12]
  have S5 : mAsg (mLst (mCons (mVar 8) (mCons (mFn 1 g_f_law_name (mCons (mTup (mCons (mVar 5) (mCons (mVar 6) mNil))) mNil)) (mCons (mFn 2 g_f_law_bent (mCons (mVar 3) (mCons (mVar 8) mNil))) (mCons (mFn 2 g_f_law_bent (mCons (mVar 3) (mCons (mFn 1 g_f_law_name (mCons (mTup (mCons (mVar 5) (mCons (mVar 6) mNil))) mNil)) mNil))) mNil))))) (gNm 9) σ3 s6 = .nx σ4 s9 := by
    have x1 : mFn 2 g_f_law_bent (mCons (mVar 3) (mCons (mVar 8) mNil)) σ3 s6 = .ok (.str b1) s7 := fnb_ap rfl rfl e7
    have x2 : mFn 2 g_f_law_bent (mCons (mVar 3) (mCons (mFn 1 g_f_law_name (mCons (mTup (mCons (mVar 5) (mCons (mVar 6) mNil))) mNil)) mNil)) σ3 s7 = .ok (.str b2) s8 := fnb_ap rfl (fnl_ap hi hj (tt _ _ rfl rfl)) e8
    rw [mAsg_ap, mLst_ap, mCons_ap, show mVar 8 σ3 s6 = .ok (.str (areaS i j k l)) s6 from rfl, bind_ok, mCons_ap, fnl_ap hi hj (tt _ _ rfl rfl), bind_ok, mCons_ap, x1, bind_ok, mCons_ap, x2, bind_ok, mNil_ap, bind_ok, bind_ok, bind_ok, bind_ok, bind_ok, if_pos (by rw [sizeLine_eq]; simp), hL1, h9]
    rfl
  obtain ⟨b3, s10, e10, u3, G10⟩ := bent_ap G29.stm u1 (by decide)
  have G2a := G29.trans G10
  obtain ⟨L2, hL2⟩ : ∃ L2, [PV.str b3, PV.str (areaS k l i j), PV.str (Str.ofString "A01"), PV.str (Str.ofString "AA1")] = L2 := ⟨_, rfl⟩
  obtain ⟨s11, h11⟩ : ∃ s11, s10 ++ [Cell.lst L2] = s11 := ⟨_, rfl⟩
  have X11 : Ex s10 s11 := h11 ▸ Ex.push
  have G2b := G2a.ex X11
  have g11 : s11[s10.length]? = some (.lst L2) := h11 ▸ get_end
  have g9' : s11[s8.length]? = some (.lst L1) := X11.get (G10.get n8 g9)
  obtain ⟨s12, h12⟩ : ∃ s12, s11 ++ [Cell.lst (L1 ++ L2)] = s12 := ⟨_, rfl⟩
  have X12 : Ex s11 s12 := h12 ▸ Ex.push
  have g12 : s12[s11.length]? = some (.lst (L1 ++ L2)) := h12 ▸ get_end
  have G2c := G2b.ex X12
  let σ5 : Slots := [some (.ref 0), some (.ref n), o2, some (.ref m), o4, some (.int i), some (.int j), some A, some (.str (areaS i j k l)), some (.ref s11.length), o10, o11, o12]
  have S6 : mAsg (mOp addF (mVar 9) (mLst (mCons (mFn 2 g_f_law_bent (mCons (mVar 3) (mCons (mOp ixF (mVar 9) (mC (.int 2))) mNil))) (mCons (mOp addF (mOp addF (mFn 1 g_f_law_name (mCons (mSl (mVar 7) (some (mC (.int 2))) none) mNil)) (mC (.str (Str.ofString ":")))) (mFn 1 g_f_law_name (mCons (mSl (mVar 7) none (some (mC (.int 2)))) mNil))) (mCons (mC (.str (Str.ofString "A01"))) (mCons (mC (.str (Str.ofString "AA1"))) mNil)))))) (gNm 9) σ4 s9 = .nx σ5 s12 := by
    have ix : mOp ixF (mVar 9) (mC (.int 2)) σ4 s9 = .ok (.str b1) s9 := by
      rw [mOp_ap, show mVar 9 σ4 s9 = .ok (.ref s8.length) s9 from rfl, bind_ok, mC_ap, bind_ok]
      unfold ixF
      dsimp only
      rw [getL_lst g9, ← hL1]
      rfl
    have x1 : mFn 2 g_f_law_bent (mCons (mVar 3) (mCons (mOp ixF (mVar 9) (mC (.int 2))) mNil)) σ4 s9 = .ok (.str b3) s10 := fnb_ap rfl ix e10
    have li : mLst (mCons (mFn 2 g_f_law_bent (mCons (mVar 3) (mCons (mOp ixF (mVar 9) (mC (.int 2))) mNil))) (mCons (mOp addF (mOp addF (mFn 1 g_f_law_name (mCons (mSl (mVar 7) (some (mC (.int 2))) none) mNil)) (mC (.str (Str.ofString ":")))) (mFn 1 g_f_law_name (mCons (mSl (mVar 7) none (some (mC (.int 2)))) mNil))) (mCons (mC (.str (Str.ofString "A01"))) (mCons (mC (.str (Str.ofString "AA1"))) mNil)))) σ4 s9 = .ok (.ref s10.length) s11 := by
      have sa' : mSl (mVar 7) none (some (mC (.int 2))) σ4 s10 = .ok (tupP (i, j)) s10 := rfl
      have sb' : mSl (mVar 7) (some (mC (.int 2))) none σ4 s10 = .ok (tupP (k, l)) s10 := rfl
      rw [mLst_ap, mCons_ap, x1, bind_ok, mCons_ap, join_ap hk hl hi hj (fnl_ap hk hl sb') (fnl_ap hi hj sa'), bind_ok, mCons_ap, mC_ap, bind_ok, mCons_ap, mC_ap, bind_ok, mNil_ap, bind_ok, bind_ok, bind_ok, bind_ok, bind_ok, if_pos (by rw [sizeLine_eq]; simp), hL2, h11]
    have ad : addF (.ref s8.length) (.ref s10.length) s11 = .ok (.ref s11.length) s12 := by
      rw [add_ref, getM_lst g9', getM_lst g11]
      dsimp only
      unfold newL
      rw [if_pos (by rw [sizeLine_eq, ← hL1, ← hL2]; simp), h12]
    rw [mAsg_ap, mOp_ap, show mVar 9 σ4 s9 = .ok (.ref s8.length) s9 from rfl, bind_ok, li, bind_ok, ad]
    rfl
  have N12 : AllN s12 n := hN.gx G2c hn
  have tx : ∀ x ∈ L1 ++ L2, ∃ t, x = .str t ∧ Tx t 6000 := by
    have ta : Tx (Str.ofString "A01") 10 ∧ Tx (Str.ofString "AA1") 10 := by
      have : (PyData.strOk (Str.ofString "A01") = true ∧ (Str.ofString "A01").length ≤ 10) ∧ PyData.strOk (Str.ofString "AA1") = true ∧ (Str.ofString "AA1").length ≤ 10 := by decide +kernel
      exact ⟨⟨this.1.1, this.1.2⟩, ⟨this.2.1, this.2.2⟩⟩
    intro x hx
    rw [← hL1, ← hL2] at hx
    simp only [List.mem_append, List.mem_cons, List.not_mem_nil, or_false] at hx
    rcases hx with (rfl | rfl | rfl | rfl) | (rfl | rfl | rfl | rfl)
    · exact ⟨_, rfl, tA.more (by decide)⟩
    · exact ⟨_, rfl, tN.more (by decide)⟩
    · exact ⟨_, rfl, u1.more (by decide)⟩
    · exact ⟨_, rfl, u2.more (by decide)⟩
    · exact ⟨_, rfl, u3.more (by decide)⟩
    · exact ⟨_, rfl, (tx_area hk hl hi hj).more (by decide)⟩
    · exact ⟨_, rfl, ta.1.more (by decide)⟩
    · exact ⟨_, rfl, ta.2.more (by decide)⟩
  obtain ⟨s13, h13⟩ : ∃ s13, s12 ++ [Cell.lst []] = s13 := ⟨_, rfl⟩
  have X13 : Ex s12 s13 := h13 ▸ Ex.push
  have g13 : s13[s12.length]? = some (.lst []) := h13 ▸ get_end
  obtain ⟨s14, e14, X14⟩ := lc_none (n := n) (q := s11.length) (d := s12.length) (all := L1 ++ L2) (σ := wipeS σ5 [10]) (by simp [wipeS, σ5]) (by simp [wipeS, σ5]) (L1 ++ L2) s13 (N12.ex X13) tx (X13.get g12)
  obtain ⟨s15, h15⟩ : ∃ s15, s14 ++ [Cell.lst []] = s15 := ⟨_, rfl⟩
  have X15 : Ex s14 s15 := h15 ▸ Ex.push
  have g15 : s15[s14.length]? = some (.lst []) := h15 ▸ get_end
  have S7 : mIfS (mTest (mOp (eqF true) (mLc (mItL (mVar 9)) (gNm 10) (mNotT (mTru (mFn 2 g_f_law_parsed_right (mCons (mVar 10) (mCons (mVar 1) mNil))))) (mVar 10) [10]) (mLst mNil))) (mRet (mC (.bl false))) mNext σ5 s12 = .nx σ5 s15 := by
    have lc : mLc (mItL (mVar 9)) (gNm 10) (mNotT (mTru (mFn 2 g_f_law_parsed_right (mCons (mVar 10) (mCons (mVar 1) mNil))))) (mVar 10) [10] σ5 s12 = .ok (.ref s12.length) s14 := by
      have it : mItL (mVar 9) σ5 s12 = .ok (some s11.length, L1 ++ L2) s12 := by
        rw [mItL_ap, show mVar 9 σ5 s12 = .ok (.ref s11.length) s12 from rfl, bind_ok]
        dsimp only
        rw [getL_lst g12]
      rw [mLc_ap, it, bind_ok]
      dsimp only
      rw [h13]
      exact e14
    have ll : mLst mNil σ5 s14 = .ok (.ref s14.length) s15 := by
      rw [mLst_ap, mNil_ap, bind_ok, if_pos (by decide), h15]
    have eq : eqF true (.ref s12.length) (.ref s14.length) s15 = .ok (.bl false) s15 := by
      rw [eq_list (xs := []) (ys := []) (getL_lst ((X14.trans X15).get g13)) okPs_nil (getL_lst g15) okPs_nil]
      rfl
    rw [mIfS_ap, mTest_ap, mOp_ap, lc, bind_ok, ll, bind_ok, eq]
    rfl
  refine ⟨some (.int i), some (.int j), some A, some (.str (areaS i j k l)), some (.ref s11.length), s15, ?_, (((G2c.ex X13).ex X14).ex X15)⟩
  show L1_f_law σ0 st = .nx σ5 s15
  unfold L1_f_law
  rw [mSeq_ap, S1]
  dsimp only
  rw [mSeq_ap, S2]
  dsimp only
  rw [mSeq_ap, S3]
  dsimp only
  rw [mSeq_ap, S4]
  dsimp only
  rw [mSeq_ap, S5]
  dsimp only
  rw [mSeq_ap, S6]
  dsimp only
  rw [S7]
end K01

namespace K01
open PySem PySem.Spec PyProof.Rows Sm Lw
theorem turns {m n : Nat} {o2 : Option PV} {all : List PV} (hn : n ≠ m) : ∀ (us : List Int) (o4 o5 o6 o7 o8 o9 o10 o11 o12 : Option PV) (st : Store), Stm st m → AllN st n →
    ∃ a4 a5 a6 a7 a8 a9 st', loopF (gNm 4) L1_f_law none all (us.map .int) [some (.ref 0), some (.ref n), o2, some (.ref m), o4, o5, o6, o7, o8, o9, o10, o11, o12] st = .nx [some (.ref 0), some (.ref n), o2, some (.ref m), a4, a5, a6, a7, a8, a9, o10, o11, o12] st' ∧ Gx m st st'
  | [], o4, o5, o6, o7, o8, o9, o10, o11, o12, st, S, hN => ⟨o4, o5, o6, o7, o8, o9, st, by rw [List.map_nil, loopF, if_pos stays_none], Gx.refl S⟩
  | u :: us, o4, o5, o6, o7, o8, o9, o10, o11, o12, st, S, hN => by
    obtain ⟨a5, a6, a7, a8, a9, s1, e1, G1⟩ := turn (o2 := o2) (o4 := some (.int u)) (o5 := o5) (o6 := o6) (o7 := o7) (o8 := o8) (o9 := o9) (o10 := o10) (o11 := o11) (o12 := o12) S hN hn
    obtain ⟨b4, b5, b6, b7, b8, b9, s2, e2, G2⟩ := turns (o2 := o2) (all := all) hn us (some (.int u)) a5 a6 a7 a8 a9 o10 o11 o12 s1 G1.stm (hN.gx G1 hn)
    refine ⟨b4, b5, b6, b7, b8, b9, s2, ?_, G1.trans G2⟩
    rw [List.map_cons, loopF, if_pos stays_none]
    simp only [gNm_ap, List.set_cons_succ, List.set_cons_zero]
    rw [e1]
    exact e2
theorem starts {ns : List Int} (hb : Bits ns) {n : Nat} (h0n : n ≠ 0) {all : List PV} : ∀ (cs : List Nat) (o2 o3 o4 o5 o6 o7 o8 o9 o10 o11 o12 : Option PV) (st : Store), (∀ c ∈ cs, c < 2000) → st[0]? = some (.rol (ns.map .int)) → AllN st n →
    ∃ a2 a3 a4 a5 a6 a7 a8 a9 st', loopF (gNm 2) L2_f_law none all (cs.map fun c => .int (c : Nat)) [some (.ref 0), some (.ref n), o2, o3, o4, o5, o6, o7, o8, o9, o10, o11, o12] st = .nx [some (.ref 0), some (.ref n), a2, a3, a4, a5, a6, a7, a8, a9, o10, o11, o12] st' ∧ AllN st' n
  | [], o2, o3, o4, o5, o6, o7, o8, o9, o10, o11, o12, st, _, _, hN => ⟨o2, o3, o4, o5, o6, o7, o8, o9, st, by rw [List.map_nil, loopF, if_pos stays_none], hN⟩
  | c :: cs, o2, o3, o4, o5, o6, o7, o8, o9, o10, o11, o12, st, hc, h0, hN => by
    obtain ⟨s1, e1, X1, S1, _⟩ := stream (m := 0) (i := c) (ns := ns) (st := st) (getL_rol h0) (hc c (by simp)) hb
    have ln : n < st.length := by
      obtain ⟨kvs, e, _⟩ := hN
      exact lt_of_some e
    have nq : n ≠ st.length := Nat.ne_of_lt ln
    have n0 : (0 : Nat) ≠ st.length := Nat.ne_of_lt (lt_of_some h0)
    obtain ⟨b4, b5, b6, b7, b8, b9, s2, e2, G2⟩ := turns (m := st.length) (n := n) (o2 := some (.int (c : Nat))) (all := (rangeI 0 6).map .int) nq (rangeI 0 6) o4 o5 o6 o7 o8 o9 o10 o11 o12 s1 S1 (hN.ex X1)
    obtain ⟨a2, a3, a4, a5, a6, a7, a8, a9, s3, e3, N3⟩ := starts hb h0n (all := all) cs (some (.int (c : Nat))) (some (.ref st.length)) b4 b5 b6 b7 b8 b9 o10 o11 o12 s2 (fun d hd => hc d (List.mem_cons_of_mem _ hd)) (G2.get n0 (X1.get h0)) ((hN.ex X1).gx G2 nq)
    refine ⟨a2, a3, a4, a5, a6, a7, a8, a9, s3, ?_, N3⟩
    rw [List.map_cons, loopF, if_pos stays_none]
    simp only [gNm_ap, List.set_cons_succ, List.set_cons_zero]
    have f : L2_f_law [some (.ref 0), some (.ref n), some (.int (c : Nat)), o3, o4, o5, o6, o7, o8, o9, o10, o11, o12] st = .nx [some (.ref 0), some (.ref n), some (.int (c : Nat)), some (.ref st.length), b4, b5, b6, b7, b8, b9, o10, o11, o12] s2 := by
      have a : mFn 2 Lw.g_f_law_stream (mCons (mVar 0) (mCons (mVar 2) mNil)) [some (.ref 0), some (.ref n), some (.int (c : Nat)), o3, o4, o5, o6, o7, o8, o9, o10, o11, o12] st = .ok (.ref st.length) s1 := by
        rw [mFn_ap, show mCons (mVar 0) (mCons (mVar 2) mNil) [some (.ref 0), some (.ref n), some (.int (c : Nat)), o3, o4, o5, o6, o7, o8, o9, o10, o11, o12] st = .ok [.ref 0, .int (c : Int)] st from rfl, bind_ok]
        simp only [List.length_cons, List.length_nil, if_true, e1]
      unfold L2_f_law
      rw [mSeq_ap, mAsg_ap, a, fl_ok, gNm_ap]
      dsimp only [List.set_cons_zero, List.set_cons_succ]
      rw [mFor_ap, show mItR1 (mCons (mC (.int 6)) mNil) [some (.ref 0), some (.ref n), some (.int (c : Nat)), some (.ref st.length), o4, o5, o6, o7, o8, o9, o10, o11, o12] s1 = .ok (none, rangeP 0 6) s1 from rfl, fl_ok, rangeP_eq]
      exact e2
    rw [f]
    exact e3
end K01

namespace K01
open PySem PySem.Spec PyProof.Rows Sm Lw
abbrev ps (s : String) : PV := .str (Str.ofString s)
abbrev L7 : List PV := [ps "A1\n", ps "A1:B2\n", ps "\nA1", ps "A1:\nB2", ps "A1\n:B2", ps "A+1", ps "A+1:B2"]
theorem l7_ok : ∀ x ∈ L7, ∃ t, x = .str t ∧ Tx t 6000 := by
  have h : ∀ t ∈ [Str.ofString "A1\n", Str.ofString "A1:B2\n", Str.ofString "\nA1", Str.ofString "A1:\nB2", Str.ofString "A1\n:B2", Str.ofString "A+1", Str.ofString "A+1:B2"], PyData.strOk t = true ∧ t.length ≤ 6000 := by decide +kernel
  intro x hx
  have : x ∈ ([Str.ofString "A1\n", Str.ofString "A1:B2\n", Str.ofString "\nA1", Str.ofString "A1:\nB2", Str.ofString "A1\n:B2", Str.ofString "A+1", Str.ofString "A+1:B2"].map PV.str) := hx
  obtain ⟨t, ht, rfl⟩ := List.mem_map.mp this
  exact ⟨t, rfl, (h t ht).1, (h t ht).2⟩
abbrev T7 : List Str := [Str.ofString "", Str.ofString ":", Str.ofString "A", Str.ofString "1", Str.ofString "A0", Str.ofString "A13", Str.ofString "M1"]
theorem t7_ok : ∀ t ∈ T7, PyData.strOk t = true ∧ t.length ≤ 6000 := by decide +kernel
theorem one_cps : Str.ofString "1" = ⟨#[49]⟩ := by decide +kernel
theorem two_cps : Str.ofString "2" = ⟨#[50]⟩ := by decide +kernel
theorem a_cps : Str.ofString "A" = ⟨#[65]⟩ := by decide +kernel
theorem tx_a : Tx (Str.ofString "A") 1 := by
  have : PyData.strOk (Str.ofString "A") = true ∧ (Str.ofString "A").length ≤ 1 := by decide +kernel
  exact ⟨this.1, this.2⟩
theorem tx_ab : Tx (Str.ofString "A1:B") 4 := by
  have : PyData.strOk (Str.ofString "A1:B") = true ∧ (Str.ofString "A1:B").length ≤ 4 := by decide +kernel
  exact ⟨this.1, this.2⟩
theorem pv_lst {st : Store} {n p : Nat} (h : st[p]? = some (.lst [ps "A1"])) : Pv st n (.ref p) .non .non := by
  have d : PyData := .list [.str (Str.ofString "A1")]
  refine pv_other (T := .lst) (d := .list [.str (Str.ofString "A1")]) (by decide) (fun s x => ?_) (fun s x => ?_) (by decide +kernel) (by decide +kernel)
  · unfold tyC
    dsimp only
    rw [getL_lst (x.get h)]
  · unfold toX
    rw [toDw, refX, getL_lst (x.get h)]
    rfl
theorem pv_dct {st : Store} {n p : Nat} (h : st[p]? = some (.dk [(.inr (Str.ofString "A1"), .int 1)])) : Pv st n (.ref p) .non .non := by
  refine pv_other (T := .dct) (d := .dict [(keyD (.inr (Str.ofString "A1")), .int 1)]) (by decide) (fun s x => ?_) (fun s x => ?_) (by decide +kernel) (by decide +kernel)
  · have gl : getL s p = none := by unfold getL; rw [x.get h]
    unfold tyC
    dsimp only
    rw [gl, x.get h]
  · have gl : getL s p = none := by unfold getL; rw [x.get h]
    unfold toX
    rw [toDw, refX, gl, getK_dk (x.get h)]
    rfl
theorem last_ap {n : Nat} {σ : Slots} {st : Store} (hl : 12 < σ.length) (h1 : σ[1]? = some (some (.ref n))) (hN : AllN st n) :
    ∃ σ' st', mFor (mItL (mLst (mCons (mC .non) (mCons (mC (.int 5)) (mCons (mC (.bl true)) (mCons (mC (.str (Str.ofString ""))) (mCons (mC (.str (Str.ofString ":"))) (mCons (mC (.str (Str.ofString "A"))) (mCons (mC (.str (Str.ofString "1"))) (mCons (mC (.str (Str.ofString "A0"))) (mCons (mC (.str (Str.ofString "A13"))) (mCons (mC (.str (Str.ofString "M1"))) (mCons (mTup (mCons (mC (.int 0)) (mCons (mC (.int 0)) mNil))) (mCons (mLst (mCons (mC (.str (Str.ofString "A1"))) mNil)) (mCons (mTup (mCons (mC (.int 0)) (mCons (mC (.int 0)) (mCons (mC (.int 1)) (mCons (mC (.int 1)) mNil))))) (mCons (mDict (((mC (.str (Str.ofString "A1"))), (mC (.int 1))) :: [])) mNil)))))))))))))))) (gNm 12) L4_f_law σ st = .nx σ' st' := by
  obtain ⟨s1, h1s⟩ : ∃ s1, st ++ [Cell.lst [ps "A1"]] = s1 := ⟨_, rfl⟩
  have X1 : Ex st s1 := h1s ▸ Ex.push
  have g1 : s1[st.length]? = some (.lst [ps "A1"]) := h1s ▸ get_end
  obtain ⟨s2, h2s⟩ : ∃ s2, s1 ++ [Cell.dk [(.inr (Str.ofString "A1"), .int 1)]] = s2 := ⟨_, rfl⟩
  have X2 : Ex s1 s2 := h2s ▸ Ex.push
  have g2 : s2[s1.length]? = some (.dk [(.inr (Str.ofString "A1"), .int 1)]) := h2s ▸ get_end
  obtain ⟨L, hL⟩ : ∃ L, ([PV.non, .int 5, .bl true] ++ T7.map .str ++ [.tup [.int 0, .int 0], .ref st.length, .tup [.int 0, .int 0, .int 1, .int 1], .ref s1.length] : List PV) = L := ⟨_, rfl⟩
  obtain ⟨s3, h3s⟩ : ∃ s3, s2 ++ [Cell.lst L] = s3 := ⟨_, rfl⟩
  have X3 : Ex s2 s3 := h3s ▸ Ex.push
  have g3 : s3[s2.length]? = some (.lst L) := h3s ▸ get_end
  have N3 : AllN s3 n := ((hN.ex X1).ex X2).ex X3
  have dd : mDict (((mC (.str (Str.ofString "A1"))), (mC (.int 1))) :: []) σ s1 = .ok (.ref s1.length) s2 := by
    have gk : getK (s1 ++ [Cell.dk []]) s1.length = some [] := getK_dk get_end
    show ((Res.ok [(Sum.inr (Str.ofString "A1"), PV.int 1)] (s1 ++ [Cell.dk []]) : Res (List (L2.Key × PV))).bind _) = _
    rw [bind_ok, gk]
    dsimp only
    rw [if_pos (by decide), set_end, ← h2s]
    rfl
  have li : mLst (mCons (mC .non) (mCons (mC (.int 5)) (mCons (mC (.bl true)) (mCons (mC (.str (Str.ofString ""))) (mCons (mC (.str (Str.ofString ":"))) (mCons (mC (.str (Str.ofString "A"))) (mCons (mC (.str (Str.ofString "1"))) (mCons (mC (.str (Str.ofString "A0"))) (mCons (mC (.str (Str.ofString "A13"))) (mCons (mC (.str (Str.ofString "M1"))) (mCons (mTup (mCons (mC (.int 0)) (mCons (mC (.int 0)) mNil))) (mCons (mLst (mCons (mC (.str (Str.ofString "A1"))) mNil)) (mCons (mTup (mCons (mC (.int 0)) (mCons (mC (.int 0)) (mCons (mC (.int 1)) (mCons (mC (.int 1)) mNil))))) (mCons (mDict (((mC (.str (Str.ofString "A1"))), (mC (.int 1))) :: [])) mNil)))))))))))))) σ st = .ok (.ref s2.length) s3 := by
    have l1 : mLst (mCons (mC (.str (Str.ofString "A1"))) mNil) σ st = .ok (.ref st.length) s1 := by rw [← h1s]; rfl
    have w1 : mTup (mCons (mC (.int 0)) (mCons (mC (.int 0)) mNil)) σ st = .ok (.tup [.int 0, .int 0]) st := rfl
    have w2 : mTup (mCons (mC (.int 0)) (mCons (mC (.int 0)) (mCons (mC (.int 1)) (mCons (mC (.int 1)) mNil)))) σ s1 = .ok (.tup [.int 0, .int 0, .int 1, .int 1]) s1 := rfl
    rw [mLst_ap]
    simp only [mCons_ap, mC_ap, bind_ok, w1, l1, w2, dd, mNil_ap]
    rw [if_pos (by rw [sizeLine_eq]; simp), ← h3s, ← hL]
    rfl
  have pv : ∀ x ∈ L, ∀ s, Ex s3 s → ∃ o1 o2, Pv s n x o1 o2 := by
    intro x hx s xs
    rw [← hL] at hx
    simp only [List.mem_append, List.mem_cons, List.not_mem_nil, or_false] at hx
    rcases hx with ((rfl | rfl | rfl) | hx) | (rfl | rfl | rfl | rfl)
    · exact ⟨_, _, pv_other (T := .non) (d := .none) (by decide) (fun _ _ => rfl) (fun _ _ => rfl) (by decide +kernel) (by decide +kernel)⟩
    · exact ⟨_, _, pv_other (T := .int) (d := .int 5) (by decide) (fun _ _ => rfl) (fun _ _ => rfl) (by decide +kernel) (by decide +kernel)⟩
    · exact ⟨_, _, pv_other (T := .bl) (d := .bool true) (by decide) (fun _ _ => rfl) (fun _ _ => rfl) (by decide +kernel) (by decide +kernel)⟩
    · obtain ⟨t, ht, rfl⟩ := List.mem_map.mp hx
      exact ⟨_, _, pv_str (N3.ex xs) (t7_ok t ht).1 (t7_ok t ht).2⟩
    · exact ⟨_, _, pv_other (T := .tup) (d := .tuple [.int 0, .int 0]) (by decide) (fun _ _ => rfl) (fun _ _ => rfl) (by decide +kernel) (by decide +kernel)⟩
    · exact ⟨_, _, pv_lst (xs.get (X3.get (X2.get g1)))⟩
    · exact ⟨_, _, pv_other (T := .tup) (d := .tuple [.int 0, .int 0, .int 1, .int 1]) (by decide) (fun _ _ => rfl) (fun _ _ => rfl) (by decide +kernel) (by decide +kernel)⟩
    · exact ⟨_, _, pv_dct (xs.get (X3.get g2))⟩
  obtain ⟨σ', st', e, _, _, _⟩ := vals3 (n := n) (q := s2.length) (all := L) L σ s3 hl h1 N3 pv g3
  refine ⟨σ', st', ?_⟩
  rw [L43, mFor_ap, mItL_ap, li, bind_ok]
  dsimp only
  rw [getL_lst g3, fl_ok]
  exact e
end K01

namespace K01
open PySem PySem.Spec PyProof.Rows Sm Lw
theorem law_true (ns : List Int) (hl : ns.length ≤ 63) (hbb : ∀ z ∈ ns, Builtin.Int.intBits z ≤ 1048576) : Meets g_f_law ns := by
  obtain ⟨s0, e0, X0, N0⟩ := names_ap (st := [Cell.rol (ns.map .int)])
  have h00 : s0[0]? = some (.rol (ns.map .int)) := X0.get rfl
  obtain ⟨m, em, hm⟩ : ∃ m : Int, (if (if (ns.length : Int) < 6 then (ns.length : Int) else 6) > 2 then (if (ns.length : Int) < 6 then (ns.length : Int) else 6) else 2) = m ∧ 0 ≤ m ∧ m ≤ 6 := ⟨_, rfl, by split <;> split <;> omega, by split <;> split <;> omega⟩
  have hr : -4611686018427387904 ≤ m ∧ m < 4611686018427387904 := by omega
  have hL : getL s0 0 = some (ns.map .int) := getL_rol h00
  let σ1 : Slots := [some (.ref 0), some (.ref 1), none, none, none, none, none, none, none, none, none, none, none]
  have A1 : mAsg (mFn 0 g_f_law_all_names mNil) (gNm 1) [some (.ref 0), none, none, none, none, none, none, none, none, none, none, none, none] [Cell.rol (ns.map .int)] = .nx σ1 s0 := by
    have : mFn 0 g_f_law_all_names mNil [some (.ref 0), none, none, none, none, none, none, none, none, none, none, none, none] [Cell.rol (ns.map .int)] = .ok (.ref 1) s0 := by
      rw [mFn_ap, mNil_ap, bind_ok]
      simp only [List.length_nil, if_true, e0]
      rfl
    rw [mAsg_ap, this, fl_ok, gNm_ap]
    rfl
  obtain ⟨a2, a3, a4, a5, a6, a7, a8, a9, s1, e1, N1⟩ := starts (bits_of hbb) (n := 1) (by decide) (all := rangeP 0 m.toNat) (List.range m.toNat) none none none none none none none none none none none s0 (fun c hc => by rw [List.mem_range] at hc; omega) h00 N0
  have R : rangeP 0 m.toNat = (List.range m.toNat).map fun c => PV.int (c : Nat) := by simp [rangeP]
  rw [← R] at e1
  let σ2 : Slots := [some (.ref 0), some (.ref 1), a2, a3, a4, a5, a6, a7, a8, a9, none, none, none]
  have A2 : mFor (mItR1 (mCons (mCall maxF (mCons (mC (.int 2)) (mCons (mCall minF (mCons (mC (.int 6)) (mCons (mCall lenF (mCons (mVar 0) mNil)) mNil))) mNil))) mNil)) (gNm 2) L2_f_law σ1 s0 = .nx σ2 s1 := by
    have e2 : mCall maxF (mCons (mC (.int 2)) (mCons (mCall minF (mCons (mC (.int 6)) (mCons (mCall lenF (mCons (mVar 0) mNil)) mNil))) mNil)) σ1 s0 = .ok (.int m) s0 := by
      have v0 : σ1[0]? = some (some (.ref 0)) := rfl
      simp only [mCall_ap, mCons_ap, mC_ap, mVar_ap, mNil_ap, bind_ok, v0, len_ref, hL, min_ap, max_ap, List.length_map, em]
    have e3 : mItR1 (mCons (mCall maxF (mCons (mC (.int 2)) (mCons (mCall minF (mCons (mC (.int 6)) (mCons (mCall lenF (mCons (mVar 0) mNil)) mNil))) mNil))) mNil) σ1 s0 = .ok (none, rangeP 0 m.toNat) s0 := by
      rw [mItR1_ap, mCons_ap, e2]
      simp [hr]
    rw [mFor_ap, e3, fl_ok]
    exact e1
  -- the long texts
  obtain ⟨t1, m1, k1⟩ := mul_ap (st := s1) one_cps (by decide)
  obtain ⟨t2, m2, k2⟩ := mul_ap (st := s1) two_cps (by decide)
  obtain ⟨t3, m3, k3⟩ := mul_ap (st := s1) a_cps (by decide)
  obtain ⟨Ll, hLl⟩ : ∃ Ll, [PV.str (Str.ofString "A" ++ t1), PV.str (Str.ofString "A1:B" ++ t2), PV.str t3] = Ll := ⟨_, rfl⟩
  obtain ⟨s2, h2⟩ : ∃ s2, s1 ++ [Cell.lst Ll] = s2 := ⟨_, rfl⟩
  have X2 : Ex s1 s2 := h2 ▸ Ex.push
  have g2 : s2[s1.length]? = some (.lst Ll) := h2 ▸ get_end
  let σ3 : Slots := [some (.ref 0), some (.ref 1), a2, a3, a4, a5, a6, a7, a8, a9, none, some (.ref s1.length), none]
  have A3 : mAsg (mLst (mCons (mOp addF (mC (.str (Str.ofString "A"))) (mOp mulT (mC (.str (Str.ofString "1"))) (mC (.int 5000)))) (mCons (mOp addF (mC (.str (Str.ofString "A1:B"))) (mOp mulT (mC (.str (Str.ofString "2"))) (mC (.int 5000)))) (mCons (mOp mulT (mC (.str (Str.ofString "A"))) (mC (.int 5000))) mNil)))) (gNm 11) σ2 s1 = .nx σ3 s2 := by
    have p1 : mOp addF (mC (.str (Str.ofString "A"))) (mOp mulT (mC (.str (Str.ofString "1"))) (mC (.int 5000))) σ2 s1 = .ok (.str (Str.ofString "A" ++ t1)) s1 := by
      rw [mOp_ap, mC_ap, bind_ok, mOp_ap, mC_ap, bind_ok, mC_ap, bind_ok, m1, bind_ok, add_tx tx_a k1 (by decide)]
    have p2 : mOp addF (mC (.str (Str.ofString "A1:B"))) (mOp mulT (mC (.str (Str.ofString "2"))) (mC (.int 5000))) σ2 s1 = .ok (.str (Str.ofString "A1:B" ++ t2)) s1 := by
      rw [mOp_ap, mC_ap, bind_ok, mOp_ap, mC_ap, bind_ok, mC_ap, bind_ok, m2, bind_ok, add_tx tx_ab k2 (by decide)]
    have p3 : mOp mulT (mC (.str (Str.ofString "A"))) (mC (.int 5000)) σ2 s1 = .ok (.str t3) s1 := by
      rw [mOp_ap, mC_ap, bind_ok, mC_ap, bind_ok, m3]
    rw [mAsg_ap, mLst_ap, mCons_ap, p1, bind_ok, mCons_ap, p2, bind_ok, mCons_ap, p3, bind_ok, mNil_ap, bind_ok, bind_ok, bind_ok, bind_ok, if_pos (by rw [sizeLine_eq]; simp), hLl, h2]
    rfl
  obtain ⟨s3, h3⟩ : ∃ s3, s2 ++ [Cell.lst L7] = s3 := ⟨_, rfl⟩
  have X3 : Ex s2 s3 := h3 ▸ Ex.push
  have g3 : s3[s2.length]? = some (.lst L7) := h3 ▸ get_end
  obtain ⟨s4, h4⟩ : ∃ s4, s3 ++ [Cell.lst (L7 ++ Ll)] = s4 := ⟨_, rfl⟩
  have X4 : Ex s3 s4 := h4 ▸ Ex.push
  have g4 : s4[s3.length]? = some (.lst (L7 ++ Ll)) := h4 ▸ get_end
  have N4 : AllN s4 1 := ((N1.ex X2).ex X3).ex X4
  have tx : ∀ x ∈ L7 ++ Ll, ∃ t, x = .str t ∧ Tx t 6000 := by
    intro x hx
    rcases List.mem_append.mp hx with hx | hx
    · exact l7_ok x hx
    · rw [← hLl] at hx
      simp only [List.mem_cons, List.not_mem_nil, or_false] at hx
      rcases hx with rfl | rfl | rfl
      · exact ⟨_, rfl, (tx_a.app k1).more (by decide)⟩
      · exact ⟨_, rfl, (tx_ab.app k2).more (by decide)⟩
      · exact ⟨_, rfl, k3.more (by decide)⟩
  obtain ⟨σ4, s5, e5, X5, l5, v5⟩ := vals3 (n := 1) (q := s3.length) (all := L7 ++ Ll) (L7 ++ Ll) σ3 s4 (show (12 : Nat) < 13 by decide) rfl N4 (fun x hx s xs => by
    obtain ⟨t, rfl, k⟩ := tx x hx
    exact ⟨_, _, pv_str (N4.ex xs) k.ok k.le⟩) g4
  have A4 : mFor (mItL (mOp addF (mLst (mCons (mC (.str (Str.ofString "A1\n"))) (mCons (mC (.str (Str.ofString "A1:B2\n"))) (mCons (mC (.str (Str.ofString "\nA1"))) (mCons (mC (.str (Str.ofString "A1:\nB2"))) (mCons (mC (.str (Str.ofString "A1\n:B2"))) (mCons (mC (.str (Str.ofString "A+1"))) (mCons (mC (.str (Str.ofString "A+1:B2"))) mNil)))))))) (mVar 11))) (gNm 12) L3_f_law σ3 s2 = .nx σ4 s5 := by
    have li : mLst (mCons (mC (.str (Str.ofString "A1\n"))) (mCons (mC (.str (Str.ofString "A1:B2\n"))) (mCons (mC (.str (Str.ofString "\nA1"))) (mCons (mC (.str (Str.ofString "A1:\nB2"))) (mCons (mC (.str (Str.ofString "A1\n:B2"))) (mCons (mC (.str (Str.ofString "A+1"))) (mCons (mC (.str (Str.ofString "A+1:B2"))) mNil))))))) σ3 s2 = .ok (.ref s2.length) s3 := by
      rw [← h3]
      rfl
    have ad : addF (.ref s2.length) (.ref s1.length) s3 = .ok (.ref s3.length) s4 := by
      rw [add_ref, getM_lst g3, getM_lst (X3.get g2)]
      dsimp only
      unfold newL
      rw [if_pos (by rw [sizeLine_eq, ← hLl]; simp), h4]
    have it : mOp addF (mLst (mCons (mC (.str (Str.ofString "A1\n"))) (mCons (mC (.str (Str.ofString "A1:B2\n"))) (mCons (mC (.str (Str.ofString "\nA1"))) (mCons (mC (.str (Str.ofString "A1:\nB2"))) (mCons (mC (.str (Str.ofString "A1\n:B2"))) (mCons (mC (.str (Str.ofString "A+1"))) (mCons (mC (.str (Str.ofString "A+1:B2"))) mNil)))))))) (mVar 11) σ3 s2 = .ok (.ref s3.length) s4 := by
      rw [mOp_ap, li, bind_ok, show mVar 11 σ3 s3 = .ok (.ref s1.length) s3 from rfl, bind_ok, ad]
    rw [mFor_ap, mItL_ap, it, bind_ok]
    dsimp only
    rw [getL_lst g4, fl_ok]
    exact e5
  obtain ⟨σ5, s6, e6⟩ := last_ap (n := 1) (σ := σ4) (st := s5) (by rw [l5]; exact (show (12 : Nat) < 13 by decide)) v5 (N4.ex X5)
  refine ⟨s6, ?_⟩
  show gOf N_f_law m_f_law [.ref 0] _ = _
  unfold gOf m_f_law
  rw [show startS N_f_law [.ref 0] = [some (.ref 0), none, none, none, none, none, none, none, none, none, none, none, none] from rfl, mSeq_ap, A1]
  dsimp only
  rw [mSeq_ap, A2]
  dsimp only
  rw [mSeq_ap, A3]
  dsimp only
  rw [mSeq_ap, A4]
  dsimp only
  rw [mSeq_ap, e6]
  rfl
end K01

open PySem PySem.W PyProof.Rows
set_option maxHeartbeats 0 in
theorem PySem.Challenge.cw_spillsheet_k01_names_of_cells_and_areas_holds : PySem.Challenge.rw_spillsheet_k01_names_of_cells_and_areas.Holds := by
  w_on; o_law; k_head; (case hw => w_witness2)
  k_fill
  refine Sm.walkGc ["BadAddress", "BadFormula"] (l := PySem.Challenge.rw_spillsheet_k01_names_of_cells_and_areas) (n := 63) (k := 8) (fa := fun _ _ => 0) (clo := fun _ _ _ _ _ => False) (x := "script") (g := K01.g_f_law) rfl (by decide) rfl ⟨rfl, by decide, by decide⟩ (fun w h Y => PySem.W.kIn_of Y) ?F (fun ns hl hb => K01.law_true ns hl hb)
  case F =>
    intro w mg fa h KX G hmg
    refine' K01.all_mk KX G hmg ?a0 ?l0 ?c0 ?k0 ?a1 ?l1 ?c1 ?k1 ?a2 ?l2 ?c2 ?k2 ?a3 ?l3 ?c3 ?k3 ?a4 ?l4 ?c4 ?k4 ?a5 ?l5 ?c5 ?k5 ?a6 ?l6 ?c6 ?k6 ?a7 ?l7 ?c7 ?k7 ?a8 ?l8 ?c8 ?k8 ?a9 ?l9 ?c9 ?k9 ?a10 ?l10 ?c10 ?k10 ?a11 ?l11 ?c11 ?k11 ?a12 ?l12 ?c12 ?k12 ?a13 ?l13 ?c13 ?k13 ?a14 ?l14 ?c14 ?k14 ?a15 ?l15 ?c15 ?k15 ?a16 ?l16 ?c16 ?k16 ?a17 ?l17 ?c17 ?k17 ?a18 ?l18 ?c18 ?k18 ?z_ValueError ?z_all ?z_bool ?z_int ?z_isinstance ?z_len ?z_max ?z_min ?z_range ?z_repr ?z_str ?z_tuple ?q_GRID_SIZE ?q_LETTERS ?q_COLUMN_NAMES ?ql_COLUMN_NAMES ?qz_COLUMN_NAMES ?qv_COLUMN_NAMES ?q_ROW_NAMES ?ql_ROW_NAMES ?qz_ROW_NAMES ?qv_ROW_NAMES ?qd_COLUMN_NAMES ?qd_ROW_NAMES ?ea0 ?ea1 ?ba ?bg ?br ?bv ?hn ?xu ?xc ?xt ?ht ?ex0 ?er0 ?es0 ?eg0 ?eh0 ?en0 ?ei0 ?et0 ?ek0 ?eu0 ?ey0 ?ed0 ?ec0 ?eq0 ?em0 ?fl0 ?fc0 ?fk0 ?xm0 ?kt0_BadAddress ?kt0_BadFormula ?kt0_ValueError
    (case a0 => k_is)
    (case l0 => k_is)
    (case c0 => k_is)
    (case k0 => k_is)
    (case a1 => k_is)
    (case l1 => k_is)
    (case c1 => k_is)
    (case k1 => k_is)
    (case a2 => k_is)
    (case l2 => k_is)
    (case c2 => k_is)
    (case k2 => k_is)
    (case a3 => k_is)
    (case l3 => k_is)
    (case c3 => k_is)
    (case k3 => k_is)
    (case a4 => k_is)
    (case l4 => k_is)
    (case c4 => k_is)
    (case k4 => k_is)
    (case a5 => k_is)
    (case l5 => k_is)
    (case c5 => k_is)
    (case k5 => k_is)
    (case a6 => k_is)
    (case l6 => k_is)
    (case c6 => k_is)
    (case k6 => k_is)
    (case a7 => k_is)
    (case l7 => k_is)
    (case c7 => k_is)
    (case k7 => k_is)
    (case a8 => k_is)
    (case l8 => k_is)
    (case c8 => k_is)
    (case k8 => k_is)
    (case a9 => k_is)
    (case l9 => k_is)
    (case c9 => k_is)
    (case k9 => k_is)
    (case a10 => k_is)
    (case l10 => k_is)
    (case c10 => k_is)
    (case k10 => k_is)
    (case a11 => k_is)
    (case l11 => k_is)
    (case c11 => k_is)
    (case k11 => k_is)
    (case a12 => k_is)
    (case l12 => k_is)
    (case c12 => k_is)
    (case k12 => k_is)
    (case a13 => k_is)
    (case l13 => k_is)
    (case c13 => k_is)
    (case k13 => k_is)
    (case a14 => k_is)
    (case l14 => k_is)
    (case c14 => k_is)
    (case k14 => k_is)
    (case a15 => k_is)
    (case l15 => k_is)
    (case c15 => k_is)
    (case k15 => k_is)
    (case a16 => k_is)
    (case l16 => k_is)
    (case c16 => k_is)
    (case k16 => k_is)
    (case a17 => k_is)
    (case l17 => k_is)
    (case c17 => k_is)
    (case k17 => k_is)
    (case a18 => k_is)
    (case l18 => k_is)
    (case c18 => k_is)
    (case k18 => k_is)
    (case z_ValueError => k_is)
    (case z_all => k_is)
    (case z_bool => k_is)
    (case z_int => k_is)
    (case z_isinstance => k_is)
    (case z_len => k_is)
    (case z_max => k_is)
    (case z_min => k_is)
    (case z_range => k_is)
    (case z_repr => k_is)
    (case z_str => k_is)
    (case z_tuple => k_is)
    (case q_GRID_SIZE => k_is)
    (case q_LETTERS => k_is)
    (case q_COLUMN_NAMES => k_is)
    (case ql_COLUMN_NAMES => k_is)
    (case qz_COLUMN_NAMES => decide)
    (case qv_COLUMN_NAMES => exact .cons ⟨_, rfl⟩ (.cons ⟨_, rfl⟩ (.cons ⟨_, rfl⟩ (.cons ⟨_, rfl⟩ (.cons ⟨_, rfl⟩ (.cons ⟨_, rfl⟩ (.cons ⟨_, rfl⟩ (.cons ⟨_, rfl⟩ (.cons ⟨_, rfl⟩ (.cons ⟨_, rfl⟩ (.cons ⟨_, rfl⟩ (.cons ⟨_, rfl⟩ (.nil)))))))))))))
    (case q_ROW_NAMES => k_is)
    (case ql_ROW_NAMES => k_is)
    (case qz_ROW_NAMES => decide)
    (case qv_ROW_NAMES => exact .cons ⟨_, rfl⟩ (.cons ⟨_, rfl⟩ (.cons ⟨_, rfl⟩ (.cons ⟨_, rfl⟩ (.cons ⟨_, rfl⟩ (.cons ⟨_, rfl⟩ (.cons ⟨_, rfl⟩ (.cons ⟨_, rfl⟩ (.cons ⟨_, rfl⟩ (.cons ⟨_, rfl⟩ (.cons ⟨_, rfl⟩ (.cons ⟨_, rfl⟩ (.nil)))))))))))))
    (case qd_COLUMN_NAMES => rfl)
    (case qd_ROW_NAMES => rfl)
    (case ea0 => k_is)
    (case ea1 => k_is)
    (case ba => k_is)
    (case bg => k_is)
    (case br => k_is)
    (case bv => k_is)
    (case hn => k_is)
    (case xu => k_is)
    (case xc => k_is)
    (case xt => k_is)
    (case ht => k_is)
    (case ex0 => k_is)
    (case er0 => first | rfl | decide +kernel)
    (case es0 => k_is)
    (case eg0 => k_is)
    (case eh0 => k_is)
    (case en0 => k_is)
    (case ei0 => k_is)
    (case et0 => k_is)
    (case ek0 => k_is)
    (case eu0 => k_is)
    (case ey0 => k_is)
    (case ed0 => k_is)
    (case ec0 => k_is)
    (case eq0 => k_is)
    (case em0 => k_is)
    (case fl0 => k_is)
    (case fc0 => k_is)
    (case fk0 => k_is)
    (case xm0 => k_is)
    (case kt0_BadAddress => first | rfl | k_is)
    (case kt0_BadFormula => first | rfl | k_is)
    (case kt0_ValueError => first | rfl | k_is)

