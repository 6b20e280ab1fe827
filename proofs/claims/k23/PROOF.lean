import PyProof.Rows.All
import Wide.All
import OpenK.AllK
import Wide.FinOn
import HandS.ForExc
import HandS.ExcInit
import HandS.TryMany
import HandS.Flow
import HandS.Comp
import HandS.Iter
import HandS.TupAny
import HandS.Deep
import HandS.Conv
import PyProof.MinMaxWalk
import PyProof.WalkInts
import HandS.List
import HandS.Call
import KE.KTupSum
import HandS.TupMul
import HandS.Style
import KE.KRevSl
import HandS.Zip
import KE.GoesEnum
import HandS.SetKeys
import HandS.More
import PyProof.DictMoreH
import HandS.TryOnly
import HandS.ExcIs
import HandS.IsInst
import HandS.TupSets
import HandS.Defaults
import HandS.Ends
import HandS.HeadEnd
import HandS.HeadHook1
import HandS.HeadHook2
import HandS.HeadHook4
import HandS.Head2
import PySem.Challenge.RW_fourlooks_k23_pushes_and_quarters_by_han
set_option Elab.async false
set_option linter.all false
set_option maxRecDepth 100000
set_option maxHeartbeats 2000000
namespace Mi
open PySem PySem.Spec PyProof.Rows L2

/-! ### plain values -/
/-- a value: tuples and read-only lists by value, lists by their cell -/
inductive D where
  | non | bl (b : Bool) | int (i : Int) | str (x : Str) | tup (xs : List D) | lk (xs : List D) | ref (n : Nat) | fn (n : Nat) | err (n : Nat) (ns : List Str) (fs : List D)
inductive Cell where
  | lst (xs : List D)
  /-- keys: tuples of numbers -/
  | dct (kvs : List (List Int × D))
abbrev Cells := List Cell
abbrev Env := List (Option D)

section
variable (K : PySem.W.Frag) (fa : Nat → Option Addr)
/-- a list that is only read: locked, or of the module -/
def SqF (H : Hp) (a : Addr) (xs : List V) : Prop :=
  (∃ o, H a = some (.frz o (.lst xs))) ∨
    ∃ (o : Obj) (its : Array Value) (n : Nat), K.lookup a = some o ∧ o.cls = .type "list" ∧ o.dict = none ∧ o.data = .seq its n ∧ its.size ≤ sizeLine ∧ Vals xs its.toList
mutual
/-- v stands for d -/
def Rp (H : Hp) (m : List Addr) : D → V → Prop
  | .non, v => v = .non
  | .bl b, v => v = .bl b
  | .int i, v => v = .int i
  | .str x, v => v = .str x
  | .tup ds, v => ∃ a vs, v = .ref a ∧ SqT K H a vs ∧ RpL H m ds vs
  | .lk ds, v => ∃ a vs, v = .ref a ∧ SqF K H a vs ∧ RpL H m ds vs
  | .ref n, v => ∃ a, v = .ref a ∧ m[n]? = some a
  | .fn n, v => ∃ a, v = .ref a ∧ fa n = some a
  | .err n ns ds, v => ∃ a, v = .ref a ∧ fa n = some a ∧ ((ds = [] ∧ fa (n + 1) = none) ∨ ∃ dd vs, fa (n + 1) = some dd ∧ H dd = some (.xd (ns.zip vs)) ∧ RpL H m ds vs)
def RpL (H : Hp) (m : List Addr) : List D → List V → Prop
  | [], vs => vs = []
  | d :: ds, vs => ∃ v r, vs = v :: r ∧ Rp H m d v ∧ RpL H m ds r
end
/-- what stays: tuples, locked things, the cells' places -/
structure LeW (H : Hp) (m : List Addr) (H' : Hp) (m' : List Addr) : Prop where
  tup : ∀ a xs, H a = some (.tup xs) → H' a = some (.tup xs)
  frz : ∀ a o u, H a = some (.frz o u) → H' a = some (.frz o u)
  xd : ∀ a fs, H a = some (.xd fs) → H' a = some (.xd fs)
  pre : ∃ t, m' = m ++ t
/-- beside that: only own cells turn, new cells are new -/
structure Le (H : Hp) (m : List Addr) (H' : Hp) (m' : List Addr) : Prop where
  w : LeW H m H' m'
  fresh : ∀ t, m' = m ++ t → ∀ a ∈ t, H a = none
  frame : ∀ a o, a ∉ m → H a = some o → H' a = some o
  dom : ∀ a, H a ≠ none → H' a ≠ none
variable {K fa}
variable {H H' H2 : Hp} {m m' m2 : List Addr}
theorem LeW.refl : LeW H m H m := ⟨fun _ _ h => h, fun _ _ _ h => h, fun _ _ h => h, [], (List.append_nil _).symm⟩
theorem LeW.trans (a : LeW H m H' m') (b : LeW H' m' H2 m2) : LeW H m H2 m2 :=
  ⟨fun x y h => b.tup x y (a.tup x y h), fun x y z h => b.frz x y z (a.frz x y z h), fun x y h => b.xd x y (a.xd x y h), by
    obtain ⟨t, e⟩ := a.pre
    obtain ⟨u, e2⟩ := b.pre
    exact ⟨t ++ u, by rw [e2, e, List.append_assoc]⟩⟩
theorem Le.tup (l : Le H m H' m') : ∀ a xs, H a = some (.tup xs) → H' a = some (.tup xs) := l.w.tup
theorem Le.frz (l : Le H m H' m') : ∀ a o u, H a = some (.frz o u) → H' a = some (.frz o u) := l.w.frz
theorem Le.xd (l : Le H m H' m') : ∀ a fs, H a = some (.xd fs) → H' a = some (.xd fs) := l.w.xd
theorem Le.pre (l : Le H m H' m') : ∃ t, m' = m ++ t := l.w.pre
theorem Le.refl : Le H m H m := ⟨LeW.refl, fun t e a ha => (by
  have : t = [] := by
    have := congrArg List.length e
    rw [List.length_append] at this
    exact List.length_eq_zero_iff.mp (by omega)
  subst this
  exact nomatch ha), fun _ _ _ h => h, fun _ h => h⟩
theorem Le.trans (a : Le H m H' m') (b : Le H' m' H2 m2) : Le H m H2 m2 where
  w := a.w.trans b.w
  fresh := fun t e x hx => by
    obtain ⟨t1, e1⟩ := a.pre
    obtain ⟨t2, e2⟩ := b.pre
    have et : t = t1 ++ t2 := by
      rw [e2, e1, List.append_assoc] at e
      exact (List.append_cancel_left e).symm
    rw [et, List.mem_append] at hx
    rcases hx with hx | hx
    · exact a.fresh t1 e1 x hx
    · have q := b.fresh t2 e2 x hx
      cases z : H x with
      | none => rfl
      | some o => exact absurd q (a.dom x (by rw [z]; exact fun y => nomatch y))
  frame := fun x o hx h => b.frame x o (fun hm => by
    obtain ⟨t1, e1⟩ := a.pre
    rw [e1, List.mem_append] at hm
    rcases hm with hm | hm
    · exact hx hm
    · rw [a.fresh t1 e1 x hm] at h; cases h) (a.frame x o hx h)
  dom := fun x h => b.dom x (a.dom x h)
theorem LeW.get (a : LeW H m H' m') {n : Nat} {x : Addr} (h : m[n]? = some x) : m'[n]? = some x := by
  obtain ⟨t, e⟩ := a.pre
  rw [e]
  have hn : n < m.length := by
    rcases Nat.lt_or_ge n m.length with q | q
    · exact q
    · rw [List.getElem?_eq_none q] at h; cases h
  rw [List.getElem?_append_left hn]
  exact h
theorem LeW.len (a : LeW H m H' m') : m.length ≤ m'.length := by
  obtain ⟨t, e⟩ := a.pre
  rw [e, List.length_append]; omega
theorem LeW.sqT (a : LeW H m H' m') {p : Addr} {xs : List V} (h : SqT K H p xs) : SqT K H' p xs := by
  rcases h with (h | ⟨o, h⟩) | h
  · exact .inl (.inl (a.tup _ _ h))
  · exact .inl (.inr ⟨o, a.frz _ _ _ h⟩)
  · exact .inr h
theorem LeW.sqF (a : LeW H m H' m') {p : Addr} {xs : List V} (h : SqF K H p xs) : SqF K H' p xs := by
  rcases h with ⟨o, h⟩ | h
  · exact .inl ⟨o, a.frz _ _ _ h⟩
  · exact .inr h
theorem Le.get (a : Le H m H' m') {n : Nat} {x : Addr} (h : m[n]? = some x) : m'[n]? = some x := a.w.get h
theorem Le.len (a : Le H m H' m') : m.length ≤ m'.length := a.w.len
theorem Le.sqT (a : Le H m H' m') {p : Addr} {xs : List V} (h : SqT K H p xs) : SqT K H' p xs := a.w.sqT h
theorem Le.sqF (a : Le H m H' m') {p : Addr} {xs : List V} (h : SqF K H p xs) : SqF K H' p xs := a.w.sqF h
theorem SqF.l {p : Addr} {xs : List V} (h : SqF K H p xs) : SqL K H p xs := by
  rcases h with ⟨o, h⟩ | h
  · exact .inl (.inr ⟨o, h⟩)
  · exact .inr h
mutual
theorem Rp.leW (a : LeW H m H' m') : ∀ {d : D} {v : V}, Rp K fa H m d v → Rp K fa H' m' d v
  | .non, _, h => h
  | .bl _, _, h => h
  | .int _, _, h => h
  | .str _, _, h => h
  | .tup _, _, h => by
    obtain ⟨p, vs, e, q, r⟩ := h
    exact ⟨p, vs, e, a.sqT q, RpL.leW a r⟩
  | .lk _, _, h => by
    obtain ⟨p, vs, e, q, r⟩ := h
    exact ⟨p, vs, e, a.sqF q, RpL.leW a r⟩
  | .ref _, _, h => by
    obtain ⟨p, e, q⟩ := h
    exact ⟨p, e, a.get q⟩
  | .fn _, _, h => h
  | .err _ _ _, _, h => by
    obtain ⟨p, e, q, z⟩ := h
    refine ⟨p, e, q, z.elim .inl fun ⟨dd, vs, z1, z2, z3⟩ => .inr ⟨dd, vs, z1, a.xd _ _ z2, RpL.leW a z3⟩⟩
theorem RpL.leW (a : LeW H m H' m') : ∀ {ds : List D} {vs : List V}, RpL K fa H m ds vs → RpL K fa H' m' ds vs
  | [], _, h => h
  | d :: ds, _, h => by
    obtain ⟨v, r, e, q, q2⟩ := h
    exact ⟨v, r, e, Rp.leW a q, RpL.leW a q2⟩
end
theorem Rp.le (a : Le H m H' m') {d : D} {v : V} (h : Rp K fa H m d v) : Rp K fa H' m' d v := h.leW a.w
theorem RpL.le (a : Le H m H' m') {ds : List D} {vs : List V} (h : RpL K fa H m ds vs) : RpL K fa H' m' ds vs := h.leW a.w
theorem RpL.length : ∀ {ds : List D} {vs : List V}, RpL K fa H m ds vs → ds.length = vs.length
  | [], _, h => by rw [show _ = [] from h]; rfl
  | d :: ds, _, h => by
    obtain ⟨v, r, e, q, q2⟩ := h
    rw [e, List.length_cons, List.length_cons, RpL.length q2]
theorem RpL.get : ∀ {ds : List D} {vs : List V} {i : Nat} {d : D}, RpL K fa H m ds vs → ds[i]? = some d → ∃ v, vs[i]? = some v ∧ Rp K fa H m d v
  | [], _, _, _, _, h => by simp at h
  | d :: ds, _, 0, x, h, e => by
    obtain ⟨v, r, rfl, q, q2⟩ := h
    simp at e; subst e
    exact ⟨v, rfl, q⟩
  | d :: ds, _, i + 1, x, h, e => by
    obtain ⟨v, r, rfl, q, q2⟩ := h
    obtain ⟨w, h1, h2⟩ := RpL.get (i := i) q2 (by simpa using e)
    exact ⟨w, by simpa using h1, h2⟩
theorem RpL.get' : ∀ {ds : List D} {vs : List V} {i : Nat} {v : V}, RpL K fa H m ds vs → vs[i]? = some v → ∃ d, ds[i]? = some d ∧ Rp K fa H m d v
  | [], _, _, _, h, e => by rw [show _ = [] from h] at e; simp at e
  | d :: ds, _, 0, x, h, e => by
    obtain ⟨v, r, rfl, q, q2⟩ := h
    simp at e; subst e
    exact ⟨d, rfl, q⟩
  | d :: ds, _, i + 1, x, h, e => by
    obtain ⟨v, r, rfl, q, q2⟩ := h
    obtain ⟨w, h1, h2⟩ := RpL.get' (i := i) q2 (by simpa using e)
    exact ⟨w, by simpa using h1, h2⟩
theorem RpL.append : ∀ {ds es : List D} {vs ws : List V}, RpL K fa H m ds vs → RpL K fa H m es ws → RpL K fa H m (ds ++ es) (vs ++ ws)
  | [], _, _, _, h, k => by rw [show _ = [] from h]; exact k
  | d :: ds, _, _, _, h, k => by
    obtain ⟨v, r, rfl, q, q2⟩ := h
    exact ⟨v, _, rfl, q, RpL.append q2 k⟩
theorem RpL.drop : ∀ {ds : List D} {vs : List V} (n : Nat), RpL K fa H m ds vs → RpL K fa H m (ds.drop n) (vs.drop n)
  | _, _, 0, h => h
  | [], _, n + 1, h => by rw [show _ = [] from h]; rfl
  | d :: ds, _, n + 1, h => by
    obtain ⟨v, r, rfl, q, q2⟩ := h
    exact RpL.drop n q2
theorem RpL.take : ∀ {ds : List D} {vs : List V} (n : Nat), RpL K fa H m ds vs → RpL K fa H m (ds.take n) (vs.take n)
  | _, _, 0, h => rfl
  | [], _, n + 1, h => by rw [show _ = [] from h]; rfl
  | d :: ds, _, n + 1, h => by
    obtain ⟨v, r, rfl, q, q2⟩ := h
    exact ⟨v, _, rfl, q, RpL.take n q2⟩
theorem RpL.set : ∀ {ds : List D} {vs : List V} {d : D} {v : V} (n : Nat), RpL K fa H m ds vs → Rp K fa H m d v → RpL K fa H m (ds.set n d) (vs.set n v)
  | [], _, _, _, n, h, _ => by rw [show _ = [] from h]; rfl
  | d :: ds, _, _, _, 0, h, k => by
    obtain ⟨v, r, rfl, q, q2⟩ := h
    exact ⟨_, _, rfl, k, q2⟩
  | d :: ds, _, _, _, n + 1, h, k => by
    obtain ⟨v, r, rfl, q, q2⟩ := h
    exact ⟨v, _, rfl, q, RpL.set n q2 k⟩
theorem RpL.one {d : D} {v : V} (h : Rp K fa H m d v) : RpL K fa H m [d] [v] := ⟨v, [], rfl, h, rfl⟩
theorem RpL.ints : ∀ {ns : List Int}, RpL K fa H m (ns.map D.int) (ns.map V.int)
  | [] => rfl
  | n :: ns => ⟨.int n, _, rfl, rfl, RpL.ints⟩

/-! ### the cells -/
variable {c : Cells}
def keyK (k : List Int) : List L2.Key := k.map Sum.inl
def dV (kvs : List (List Int × D)) (vs : List V) : List (List L2.Key × V) := (kvs.map fun p => keyK p.1).zip vs
def CellOk (K : PySem.W.Frag) (fa : Nat → Option Addr) (H : Hp) (m : List Addr) (a : Addr) : Cell → Prop
  | .lst xs => ∃ vs, H a = some (.lst vs) ∧ RpL K fa H m xs vs
  | .dct kvs => ∃ vs, H a = some (.dT (dV kvs vs)) ∧ RpL K fa H m (kvs.map (·.2)) vs
structure Rel (K : PySem.W.Frag) (fa : Nat → Option Addr) (H : Hp) (m : List Addr) (c : Cells) : Prop where
  len : m.length = c.length
  nd : m.Nodup
  ok : ∀ (n : Nat) (a : Addr) (x : Cell), m[n]? = some a → c[n]? = some x → CellOk K fa H m a x
theorem CellOk.at {a : Addr} {x : Cell} (h : CellOk K fa H m a x) : H a ≠ none := by
  cases x with
  | lst xs =>
    obtain ⟨vs, e, _⟩ := h
    rw [e]; exact fun z => nomatch z
  | dct kvs =>
    obtain ⟨vs, e, _⟩ := h
    rw [e]; exact fun z => nomatch z
theorem Rel.got (R : Rel K fa H m c) {n : Nat} {x : Cell} (h : c[n]? = some x) : ∃ a, m[n]? = some a ∧ CellOk K fa H m a x := by
  have hn : n < m.length := by
    rw [R.len]
    rcases Nat.lt_or_ge n c.length with q | q
    · exact q
    · rw [List.getElem?_eq_none q] at h; cases h
  exact ⟨m[n], List.getElem?_eq_getElem hn, R.ok n _ x (List.getElem?_eq_getElem hn) h⟩
theorem Rel.tracked (R : Rel K fa H m c) {n : Nat} {a : Addr} (h : m[n]? = some a) : H a ≠ none := by
  have hn : n < c.length := by
    rw [← R.len]
    rcases Nat.lt_or_ge n m.length with q | q
    · exact q
    · rw [List.getElem?_eq_none q] at h; cases h
  exact (R.ok n a _ h (List.getElem?_eq_getElem hn)).at
theorem Rel.mem (R : Rel K fa H m c) {a : Addr} (h : a ∈ m) : H a ≠ none := by
  obtain ⟨n, hn, e⟩ := List.getElem_of_mem h
  exact R.tracked (n := n) (by rw [List.getElem?_eq_getElem hn, e])
theorem leW_new {p : Addr} {o : HO} (h : H p = none) : LeW H m (upd H p o) m :=
  ⟨fun a xs e => by rw [upd_ne (ne_of_none e h)]; exact e, fun a o' u e => by rw [upd_ne (ne_of_none e h)]; exact e, fun a fs e => by rw [upd_ne (ne_of_none e h)]; exact e, [], (List.append_nil _).symm⟩
theorem upd_dom {p : Addr} {o : HO} : ∀ a, H a ≠ none → upd H p o a ≠ none := fun a h => by
  by_cases e : a = p
  · rw [e, upd_same]; exact fun z => nomatch z
  · rw [upd_ne e]; exact h
theorem le_new {p : Addr} {o : HO} (h : H p = none) : Le H m (upd H p o) m :=
  ⟨leW_new h, Le.refl.fresh, fun a o' _ e => by rw [upd_ne (ne_of_none e h)]; exact e, upd_dom⟩
theorem le_newc {p : Addr} {o : HO} (h : H p = none) : Le H m (upd H p o) (m ++ [p]) :=
  ⟨⟨fun a xs e => by rw [upd_ne (ne_of_none e h)]; exact e, fun a o' u e => by rw [upd_ne (ne_of_none e h)]; exact e, fun a fs e => by rw [upd_ne (ne_of_none e h)]; exact e, [p], rfl⟩,
    fun t e a ha => by
      have : t = [p] := (List.append_cancel_left e).symm
      rw [this, List.mem_singleton] at ha
      rw [ha]; exact h,
    fun a o' _ e => by rw [upd_ne (ne_of_none e h)]; exact e, upd_dom⟩
theorem CellOk.new {p a : Addr} {o : HO} {x : Cell} (h : H p = none) (l : Le H m (upd H p o) m') (q : CellOk K fa H m a x) : CellOk K fa (upd H p o) m' a x := by
  cases x with
  | lst xs =>
    obtain ⟨vs, e, r⟩ := q
    exact ⟨vs, by rw [upd_ne (ne_of_none e h)]; exact e, r.le l⟩
  | dct kvs =>
    obtain ⟨vs, e, r⟩ := q
    exact ⟨vs, by rw [upd_ne (ne_of_none e h)]; exact e, r.le l⟩
/-- a new object that is no cell -/
theorem Rel.new (R : Rel K fa H m c) {p : Addr} {o : HO} (h : H p = none) : Rel K fa (upd H p o) m c :=
  ⟨R.len, R.nd, fun n a x e1 e2 => (R.ok n a x e1 e2).new h (le_new h)⟩
/-- a new cell -/
theorem Rel.cellC (R : Rel K fa H m c) {p : Addr} {o : HO} {y : Cell} (h : H p = none) (r : CellOk K fa (upd H p o) (m ++ [p]) p y) : Rel K fa (upd H p o) (m ++ [p]) (c ++ [y]) where
  len := by rw [List.length_append, List.length_append, R.len]; rfl
  nd := by
    rw [List.nodup_append]
    refine ⟨R.nd, by simp, fun a ha b hb => ?_⟩
    have e : b = p := by simpa using hb
    subst e
    exact fun z => R.mem ha (by rw [z]; exact h)
  ok := fun n a x e1 e2 => by
    by_cases hn : n < m.length
    · rw [List.getElem?_append_left hn] at e1
      rw [List.getElem?_append_left (by rw [← R.len]; exact hn)] at e2
      exact (R.ok n a x e1 e2).new h (le_newc h)
    · have hc : c.length ≤ n := by rw [← R.len]; omega
      rw [List.getElem?_append_right (by omega)] at e1
      rw [List.getElem?_append_right hc] at e2
      rw [R.len] at e1
      cases k : n - c.length with
      | zero =>
        rw [k] at e1 e2
        simp at e1 e2
        subst e1; subst e2
        exact r
      | succ j => rw [k] at e1; simp at e1
/-- a new list -/
theorem Rel.cell (R : Rel K fa H m c) {p : Addr} {vs : List V} {xs : List D} (h : H p = none) (r : RpL K fa H m xs vs) : Rel K fa (upd H p (.lst vs)) (m ++ [p]) (c ++ [.lst xs]) :=
  R.cellC h ⟨vs, upd_same, r.le (le_newc h)⟩
/-- an object that may turn -/
def MutO : HO → Prop
  | .lst _ => True
  | .dT _ => True
  | _ => False
/-- a list is changed -/
theorem leW_mutC {p : Addr} {o o2 : HO} (h : H p = some o) (ho : MutO o) : LeW H m (upd H p o2) m :=
  ⟨fun a xs e => by rw [upd_ne (fun z => by subst z; rw [h] at e; cases e; exact ho)]; exact e, fun a o' u e => by rw [upd_ne (fun z => by subst z; rw [h] at e; cases e; exact ho)]; exact e, fun a fs e => by rw [upd_ne (fun z => by subst z; rw [h] at e; cases e; exact ho)]; exact e, [], (List.append_nil _).symm⟩
theorem le_mutC {n : Nat} {p : Addr} {o o2 : HO} (hm : m[n]? = some p) (h : H p = some o) (ho : MutO o) : Le H m (upd H p o2) m :=
  ⟨leW_mutC h ho, Le.refl.fresh, fun a o' hx e => by rw [upd_ne (fun z => hx (by rw [z]; exact List.mem_of_getElem? hm))]; exact e, upd_dom⟩
theorem le_mut {n : Nat} {p : Addr} {ws vs : List V} (hm : m[n]? = some p) (h : H p = some (.lst ws)) : Le H m (upd H p (.lst vs)) m := le_mutC hm h trivial
theorem Rel.mutC (R : Rel K fa H m c) {n : Nat} {p : Addr} {o o2 : HO} {y : Cell} (hm : m[n]? = some p) (h : H p = some o) (ho : MutO o) (r : CellOk K fa (upd H p o2) m p y) :
    Rel K fa (upd H p o2) m (c.set n y) where
  len := by rw [List.length_set]; exact R.len
  nd := R.nd
  ok := fun k a x e1 e2 => by
    by_cases hk : n = k
    · subst hk
      rw [hm] at e1
      cases e1
      have hn : n < c.length := by
        rw [← R.len]
        rcases Nat.lt_or_ge n m.length with q | q
        · exact q
        · rw [List.getElem?_eq_none q] at hm; cases hm
      rw [List.getElem?_set_self hn] at e2
      cases e2
      exact r
    · rw [List.getElem?_set_ne hk] at e2
      have q := R.ok k a x e1 e2
      have ne : a ≠ p := fun z => by
        subst z
        have hk1 : k < m.length := by
          rcases Nat.lt_or_ge k m.length with q | q
          · exact q
          · rw [List.getElem?_eq_none q] at e1; cases e1
        have hn1 : n < m.length := by
          rcases Nat.lt_or_ge n m.length with q | q
          · exact q
          · rw [List.getElem?_eq_none q] at hm; cases hm
        rw [List.getElem?_eq_getElem hk1] at e1
        rw [List.getElem?_eq_getElem hn1] at hm
        have pw := List.pairwise_iff_getElem.mp R.nd
        rcases Nat.lt_or_gt_of_ne hk with q | q
        · exact pw n k hn1 hk1 q ((Option.some.inj hm).trans (Option.some.inj e1).symm)
        · exact pw k n hk1 hn1 q ((Option.some.inj e1).trans (Option.some.inj hm).symm)
      cases x with
      | lst ys =>
        obtain ⟨us, e, r2⟩ := q
        exact ⟨us, by rw [upd_ne ne]; exact e, r2.leW (leW_mutC h ho)⟩
      | dct ys =>
        obtain ⟨us, e, r2⟩ := q
        exact ⟨us, by rw [upd_ne ne]; exact e, r2.leW (leW_mutC h ho)⟩
theorem Rel.mut (R : Rel K fa H m c) {n : Nat} {p : Addr} {ws vs : List V} {xs : List D} (hm : m[n]? = some p) (h : H p = some (.lst ws)) (r : RpL K fa H m xs vs) :
    Rel K fa (upd H p (.lst vs)) m (c.set n (.lst xs)) := R.mutC hm h trivial ⟨vs, upd_same, r.le (le_mut hm h)⟩
/-- the slots -/
def EnvR (K : PySem.W.Frag) (fa : Nat → Option Addr) (H : Hp) (m : List Addr) : L2.St → Env → Prop := fun σ ρ => σ.length = ρ.length ∧ ∀ (i : Nat) (d : D), ρ[i]? = some (some d) → ∃ v, σ[i]? = some (some v) ∧ Rp K fa H m d v
theorem EnvR.le {σ : L2.St} {ρ : Env} (a : Le H m H' m') (h : EnvR K fa H m σ ρ) : EnvR K fa H' m' σ ρ :=
  ⟨h.1, fun i d e => let ⟨v, e1, r⟩ := h.2 i d e; ⟨v, e1, r.le a⟩⟩
theorem EnvR.set {σ : L2.St} {ρ : Env} {d : D} {v : V} (h : EnvR K fa H m σ ρ) (i : Nat) (r : Rp K fa H m d v) : EnvR K fa H m (σ.set i (some v)) (ρ.set i (some d)) := by
  refine ⟨by rw [List.length_set, List.length_set]; exact h.1, fun j x e => ?_⟩
  by_cases hj : i = j
  · subst hj
    have hi : i < ρ.length := by
      rcases Nat.lt_or_ge i ρ.length with q | q
      · exact q
      · rw [List.getElem?_eq_none (by rw [List.length_set]; exact q)] at e; cases e
    rw [List.getElem?_set_self hi] at e
    cases e
    exact ⟨v, by rw [List.getElem?_set_self (by rw [h.1]; exact hi)], r⟩
  · rw [List.getElem?_set_ne hj] at e
    obtain ⟨w, e1, r1⟩ := h.2 j x e
    exact ⟨w, by rw [List.getElem?_set_ne hj]; exact e1, r1⟩
theorem EnvR.clear {σ : L2.St} {ρ : Env} (h : EnvR K fa H m σ ρ) (i : Nat) : EnvR K fa H m (σ.set i none) (ρ.set i none) := by
  refine ⟨by rw [List.length_set, List.length_set]; exact h.1, fun j x e => ?_⟩
  by_cases hj : i = j
  · subst hj
    have hi : i < ρ.length := by
      rcases Nat.lt_or_ge i ρ.length with q | q
      · exact q
      · rw [List.getElem?_eq_none (by rw [List.length_set]; exact q)] at e; cases e
    rw [List.getElem?_set_self hi] at e
    cases e
  · rw [List.getElem?_set_ne hj] at e
    obtain ⟨w, e1, r1⟩ := h.2 j x e
    exact ⟨w, by rw [List.getElem?_set_ne hj]; exact e1, r1⟩
end
end Mi

set_option linter.all false
set_option maxRecDepth 100000
set_option maxHeartbeats 2000000
namespace Mi
open PySem PySem.Spec PyProof.Rows L2

/-! ### the state: cells, and from which one on a cell may hold younger ones -/
mutual
/-- every cell named within is one of the first n -/
def refsLt (n : Nat) : D → Bool
  | .tup xs => refsLtL n xs
  | .lk xs => refsLtL n xs
  | .ref k => Nat.blt k n
  | .err _ _ fs => refsLtL n fs
  | _ => true
def refsLtL (n : Nat) : List D → Bool
  | [] => true
  | d :: ds => refsLt n d && refsLtL n ds
end
def cellLt (n : Nat) : Cell → Bool
  | .lst xs => refsLtL n xs
  | .dct kvs => refsLtL n (kvs.map (·.2))
structure S where
  l : List Cell
  e : Option Nat
/-- cell k is given something that names d -/
def S.note (s : S) (k : Nat) (d : D) : Option Nat := if refsLt (k + 1) d then s.e else match s.e with
  | none => some k
  | some j => some (if Nat.ble j k then j else k)

/-- an outcome -/
inductive R (α : Type) where
  | ok (a : α) (s : S)
  | ex (cls : Nat) (fs : List D) (s : S)
  | no
def R.bind {α β : Type} (r : R α) (f : α → S → R β) : R β := match r with
  | .ok a s => f a s
  | .ex x fs s => .ex x fs s
  | .no => .no

/-! ### operations by values -/
inductive Ty where
  | non | bl | int | str | tup | lst | dict | set | flt
  deriving DecidableEq
inductive Prim where
  | add | sub | mul | fdiv | mod | pow | neg
  | lt | le | gt | ge | eq | ne | inn | notin | isN | notN
  | isExc | fld (k : Nat)
  | isTy (ts : List Ty) | lenSet | rev
  | dnew
  | chk | ix | sl | slFrom | slTo | tup | lst | len | abs | toInt | listOf | tupleOf | sum | min2 | max2 | all | any
  deriving DecidableEq

/-- the items of a thing that can be walked -/
def itemsOf (s : S) : D → Option (List D)
  | .tup xs => some xs
  | .lk xs => some xs
  | .ref n => match s.l[n]? with
    | some (.lst xs) => some xs
    | _ => none
  | _ => none
def newList (xs : List D) (s : S) : R D := if xs.length < 16777216 then .ok (.ref s.l.length) ⟨s.l ++ [.lst xs], s.e⟩ else .no
def intsOf : List D → Option (List Int)
  | [] => some []
  | .int i :: r => match intsOf r with
    | some is => some (i :: is)
    | none => none
  | _ :: _ => none
def boolsOf : List D → Option (List Bool)
  | [] => some []
  | .bl b :: r => match boolsOf r with
    | some bs => some (b :: bs)
    | none => none
  | _ :: _ => none
mutual
/-- as data, to a depth -/
def toP (l : List Cell) : Nat → D → Option PyData
  | 0, _ => none
  | n + 1, d => match d with
    | .non => some .none
    | .bl b => some (.bool b)
    | .int i => some (.int i)
    | .str x => some (.str x)
    | .tup xs => match toPs l n xs with
      | some ds => some (.tuple ds)
      | none => none
    | .lk xs => match toPs l n xs with
      | some ds => some (.list ds)
      | none => none
    | .ref k => match l[k]? with
      | some (.lst xs) => match toPs l n xs with
        | some ds => some (.list ds)
        | none => none
      | _ => none
    | .fn _ => none
    | .err _ _ _ => none
def toPs (l : List Cell) : Nat → List D → Option (List PyData)
  | 0, _ => none
  | _ + 1, [] => some []
  | n + 1, d :: ds => match toP l n d with
    | some x => match toPs l n ds with
      | some xs => some (x :: xs)
      | none => none
    | none => none
end
def eqD (l : List Cell) (a b : D) : Option Bool := match a, b with
  | .int i, .int j => some (decide (i = j))
  | _, _ => match toP l 400 a, toP l 400 b with
    | some x, some y => if SeqAt.shaped x && SeqAt.shaped y then some (PyData.eqv x y) else none
    | _, _ => none
def flatD : D → Bool
  | .non => true
  | .bl _ => true
  | .int _ => true
  | .str _ => true
  | _ => false
def isNonD : D → Bool
  | .non => true
  | _ => false
def eqF : D → D → Bool
  | .int i, .int j => decide (i = j)
  | .str i, .str j => decide (i = j)
  | .bl i, .bl j => decide (i = j)
  | .non, .non => true
  | .int i, .bl j => decide (i = if j then 1 else 0)
  | .bl i, .int j => decide ((if i then 1 else 0) = j)
  | _, _ => false
def inD (s : S) (x c : D) : Option Bool := match itemsOf s c with
  | none => none
  | some xs => if flatD x && xs.all flatD then some (xs.any fun y => eqF y x) else match c with
    | .ref _ => match toP s.l 400 x, toPs s.l 400 xs with
      | some d, some ds => if SeqAt.shaped d && SeqAt.shaped (.list ds) then some (ds.any fun z => PyData.eqv z d) else none
      | _, _ => none
    | _ => none
def ixOf (xs : List D) (i : Int) : Option D := atI xs i
def cutD (xs : List D) (lo hi : Option Int) : List D := (xs.drop (HT.sIx xs.length 0 lo)).take (HT.sIx xs.length xs.length hi - HT.sIx xs.length 0 lo)
def slD (s : S) (a : D) (lo hi : Option Int) : R D := match a with
  | .tup xs => .ok (.tup (cutD xs lo hi)) s
  | .lk xs => newList (cutD xs lo hi) s
  | .ref n => match s.l[n]? with
    | some (.lst xs) => newList (cutD xs lo hi) s
    | _ => .no
  | _ => .no
def tyOf : D → Option Ty
  | .non => some .non
  | .bl _ => some .bl
  | .int _ => some .int
  | .str _ => some .str
  | .tup _ => some .tup
  | .lk _ => some .lst
  | .ref _ => some .lst
  | _ => none
def isA (a b : Ty) : Bool := decide (a = b) || (decide (a = .bl) && decide (b = .int))
def tupsOf : List D → Option (List (List Int))
  | [] => some []
  | .tup xs :: r => match intsOf xs, tupsOf r with
    | some is, some iss => some (is :: iss)
    | _, _ => none
  | _ :: _ => none
def isLst : D → Bool
  | .lk _ => true
  | .ref _ => true
  | _ => false
/-- those that differ, as they come -/
def firsts : List Int → List Int → List Int
  | acc, [] => acc
  | acc, x :: r => firsts (if acc.any (fun y => decide (y = x)) then acc else acc ++ [x]) r
def sameIs : List Int → List Int → Bool
  | [], [] => true
  | x :: r, y :: s => decide (x = y) && sameIs r s
  | _, _ => false
def firstsT : List (List Int) → List (List Int) → List (List Int)
  | acc, [] => acc
  | acc, x :: r => firstsT (if acc.any (fun y => sameIs y x) then acc else acc ++ [x]) r
def isDct (s : S) (n : Nat) : Bool := match s.l[n]? with
  | some (.dct _) => true
  | _ => false
def dctD (s : S) : D → Bool
  | .ref n => isDct s n
  | _ => false
/-- what a dict has under a key -/
def dAt : List (List Int × D) → List Int → Option D
  | [], _ => none
  | p :: r, k => if sameIs p.1 k then some p.2 else dAt r k
/-- what a table of the module has under a number -/
def tabAt : List (Int × D) → Int → Option D
  | [], _ => none
  | p :: r, i => if decide (p.1 = i) then some p.2 else tabAt r i
def ob {α : Type} (o : Option α) (f : α → D) (s : S) : R D := match o with
  | some a => .ok (f a) s
  | none => .no
def prim (p : Prim) (ds : List D) (s : S) : R D := match p, ds with
  | .add, [.int i, .int j] => .ok (.int (i + j)) s
  | .add, [.tup a, .tup b] => if a.length + b.length < 16777216 then .ok (.tup (a ++ b)) s else .no
  | .add, [.ref a, .ref b] => match s.l[a]?, s.l[b]? with
    | some (.lst xs), some (.lst ys) => newList (xs ++ ys) s
    | _, _ => .no
  | .sub, [.int i, .int j] => .ok (.int (i - j)) s
  | .mul, [.int i, .int j] => if (decide (i.natAbs < 18446744073709551616)) || (decide (j.natAbs < 18446744073709551616)) then .ok (.int (i * j)) s else .no
  | .mul, [.ref a, .int k] => match s.l[a]? with
    | some (.lst xs) => if decide (-9223372036854775808 ≤ k) && decide (k < 9223372036854775808) && decide (xs.length * k.toNat ≤ 16777216) then newList (List.replicate k.toNat xs).flatten s else .no
    | _ => .no
  | .mul, [.tup xs, .int k] => if decide (2 ≤ k) && decide (k ≤ 1000) && decide (xs.length ≤ 1000) && !xs.isEmpty then .ok (.tup (List.replicate k.toNat xs).flatten) s else .no
  | .isTy ts, [d] => if dctD s d then .no else ob (tyOf d) (fun t => .bl (ts.any fun u => isA t u)) s
  | .lenSet, [a] => if isLst a then match itemsOf s a with
    | some xs => if xs.length < 64 then match intsOf xs with
      | some is => .ok (.int (firsts [] is).length) s
      | none => match tupsOf xs with
        | some ks => .ok (.int (firstsT [] ks).length) s
        | none => .no
      else .no
    | none => .no
    else .no
  | .rev, [.tup xs] => .ok (.tup xs.reverse) s
  | .rev, [.lk xs] => newList xs.reverse s
  | .rev, [.ref n] => match s.l[n]? with
    | some (.lst xs) => newList xs.reverse s
    | _ => .no
  | .fdiv, [.int i, .int j] => if decide (j ≠ 0) && decide (j.natAbs < 1073741824) then .ok (.int (i.fdiv j)) s else .no
  | .mod, [.int i, .int j] => if decide (j ≠ 0) then .ok (.int (i.fmod j)) s else .no
  | .pow, [.int i, .int j] => if decide (0 ≤ j) && decide (j ≤ 1000000) && decide (i.natAbs < 18446744073709551616) then .ok (.int (i ^ j.toNat)) s else .no
  | .neg, [.int i] => .ok (.int (-i)) s
  | .chk, [.int i] => .ok (.int i) s
  | .lt, [.int i, .int j] => .ok (.bl (decide (i < j))) s
  | .le, [.int i, .int j] => .ok (.bl (decide (i ≤ j))) s
  | .gt, [.int i, .int j] => .ok (.bl (decide (j < i))) s
  | .ge, [.int i, .int j] => .ok (.bl (decide (j ≤ i))) s
  | .lt, [.tup a, .tup b] => match intsOf a, intsOf b with
    | some x, some y => .ok (.bl (HT.lexLt x y)) s
    | _, _ => .no
  | .eq, [a, b] => ob (eqD s.l a b) (fun k => .bl k) s
  | .ne, [a, b] => ob (eqD s.l a b) (fun k => .bl (!k)) s
  | .inn, [a, b] => ob (inD s a b) (fun k => .bl k) s
  | .notin, [a, b] => ob (inD s a b) (fun k => .bl (!k)) s
  | .isN, [a, .non] => .ok (.bl (isNonD a)) s
  | .notN, [a, .non] => .ok (.bl (!isNonD a)) s
  | .isExc, [.err n _ _] => if n = 1000000 then .ok (.bl true) s else .no
  | .fld k, [.err _ _ fs] => ob fs[k]? id s
  | .ix, [a, .int i] => match itemsOf s a with
    | some xs => ob (ixOf xs i) id s
    | none => .no
  | .sl, [a, .int i, .int j] => slD s a (some i) (some j)
  | .slFrom, [a, .int i] => slD s a (some i) none
  | .slTo, [a, .int j] => slD s a none (some j)
  | .tup, xs => if xs.length < 16777216 then .ok (.tup xs) s else .no
  | .lst, xs => newList xs s
  | .len, [.str x] => if x.length < 16777216 then .ok (.int x.length) s else .no
  | .len, [a] => ob (itemsOf s a) (fun xs => .int xs.length) s
  | .abs, [.int i] => .ok (.int (if i < 0 then -i else i)) s
  | .toInt, [.int i] => .ok (.int i) s
  | .toInt, [.bl k] => .ok (.int (if k then 1 else 0)) s
  | .listOf, [a] => match itemsOf s a with
    | some xs => newList xs s
    | none => .no
  | .tupleOf, [.tup xs] => .ok (.tup xs) s
  | .tupleOf, [a] => ob (itemsOf s a) (fun xs => .tup xs) s
  | .sum, [.tup xs] => ob (intsOf xs) (fun is => .int is.sum) s
  | .sum, [.ref n] => match s.l[n]? with
    | some (.lst xs) => ob (intsOf xs) (fun is => .int is.sum) s
    | _ => .no
  | .min2, [.int i, .int j] => .ok (.int (if j < i then j else i)) s
  | .min2, [.tup a, .tup b] => match intsOf a, intsOf b with
    | some x, some y => .ok (if HT.lexLt y x then .tup b else .tup a) s
    | _, _ => .no
  | .dnew, [] => .ok (.ref s.l.length) ⟨s.l ++ [.dct []], s.e⟩
  | .max2, [.int i, .int j] => .ok (.int (if j > i then j else i)) s
  | .all, [.ref n] => match s.l[n]? with
    | some (.lst xs) => ob (boolsOf xs) (fun bs => .bl (bs.all id)) s
    | _ => .no
  | .any, [.ref n] => match s.l[n]? with
    | some (.lst xs) => ob (boolsOf xs) (fun bs => .bl (bs.any id)) s
    | _ => .no
  | _, _ => .no

/-! ### the program in short: names by place, defs by number -/
inductive Src where
  | seq | rng1 | rng2 | enum | zip | zip3
  deriving DecidableEq
mutual
inductive CE where
  | con (d : D)
  | var (i : Nat)
  | prim (p : Prim) (es : CEs)
  | and (a b : CE) | or (a b : CE) | not (a : CE)
  | ite (t a b : CE)
  | chain (p q : Prim) (a b c : CE)
  | call (f : Nat) (es : CEs)
  | callv (oks : List Nat) (e : CE) (es : CEs)
  | callp (f : Nat) (perm : List Nat) (es : CEs)
  | kget (tab : List (Int × D)) (e : CE)
  | dgetd (d e f : CE)
  | dsetd (d : CE) (es : CEs) (f : CE)
  | comp (elt : CE) (tg : CT) (src : Src) (es : CEs) (cond : CE) (vs : List Nat)
  | compN (elt : CE) (tg : CT) (src : Src) (es : CEs) (cond : CE) (r : CLs) (vs : List Nat)
inductive CLs where
  | nil
  | cons (tg : CT) (src : Src) (es : CEs) (cond : CE) (vs : List Nat) (r : CLs)
inductive CEs where
  | nil
  | cons (e : CE) (es : CEs)
inductive CT where
  | name (i : Nat)
  | tup (ts : CTs)
inductive CTs where
  | nil
  | cons (t : CT) (ts : CTs)
end
def isTup : D → Bool
  | .tup _ => true
  | _ => false
/-- item i of what is walked: none: it can't; some none: there is no more -/
def itemAt (src : Src) (ds : List D) (i : Nat) (s : S) : Option (Option D) := match src, ds with
  | .seq, [a] => match itemsOf s a with
    | some xs => some xs[i]?
    | none => none
  | .rng1, [.int j] => if decide (j.natAbs < 4611686018427387904) then some (if (i : Int) < j then some (.int i) else none) else none
  | .rng2, [.int lo, .int j] => if decide (lo.natAbs < 4611686018427387904) && decide (j.natAbs < 4611686018427387904) then some (if lo + (i : Int) < j then some (.int (lo + i)) else none) else none
  | .enum, [a] => if isTup a then none else match itemsOf s a with
    | some xs => some (match xs[i]? with | some x => some (.tup [.int i, x]) | none => none)
    | none => none
  | .zip, [a, b] => if isTup a != isTup b then none else match itemsOf s a, itemsOf s b with
    | some xs, some ys => some (match xs[i]?, ys[i]? with | some x, some y => some (.tup [x, y]) | _, _ => none)
    | _, _ => none
  | .zip3, [a, b, c] => match itemsOf s a, itemsOf s b, itemsOf s c with
    | some xs, some ys, some zs => some (match xs[i]?, ys[i]?, zs[i]? with | some x, some y, some z => some (.tup [x, y, z]) | _, _, _ => none)
    | _, _, _ => none
  | _, _ => none
def dropQ (xs : List D) : Nat → List D
  | 0 => xs
  | q + 1 => (dropQ xs q).drop 32
/-- item i, found in two steps -/
def getQ (xs : List D) (i : Nat) : Option D := (dropQ xs (i / 32))[i % 32]?
theorem dropQ_eq (xs : List D) : ∀ q, dropQ xs q = xs.drop (32 * q)
  | 0 => rfl
  | q + 1 => by
    show (dropQ xs q).drop 32 = _
    rw [dropQ_eq xs q, List.drop_drop]
    rfl
theorem getQ_eq (xs : List D) (i : Nat) : getQ xs i = xs[i]? := by
  unfold getQ
  rw [dropQ_eq, List.getElem?_drop, Nat.div_add_mod]
/-- the same as itemAt -/
def itemQ (src : Src) (ds : List D) (i : Nat) (s : S) : Option (Option D) := match src, ds with
  | .seq, [a] => match itemsOf s a with
    | some xs => some (getQ xs i)
    | none => none
  | src, ds => itemAt src ds i s
theorem itemQ_eq (src : Src) (ds : List D) : itemQ src ds = itemAt src ds := by
  funext i s
  unfold itemQ
  split
  · rename_i a
    show _ = (match itemsOf s a with
      | some xs => some xs[i]?
      | none => none)
    cases itemsOf s a with
    | none => rfl
    | some xs => exact congrArg some (getQ_eq xs i)
  · rfl
mutual
/-- what is stored where -/
def put : CT → D → Env → Option Env
  | .name i, d, ρ => some (ρ.set i (some d))
  | .tup ts, .tup xs, ρ => puts ts xs ρ
  | .tup _, _, _ => none
def puts : CTs → List D → Env → Option Env
  | .nil, [], ρ => some ρ
  | .cons t ts, d :: ds, ρ => match put t d ρ with
    | some ρ' => puts ts ds ρ'
    | none => none
  | _, _, _ => none
end
def clears : List Nat → Env → Env
  | [], ρ => ρ
  | v :: vs, ρ => (clears vs ρ).set v none
/-- a list is lengthened -/
def pushTo (n : Nat) (d : D) (s : S) : Option S := match s.l[n]? with
  | some (.lst xs) => if xs.length < 16777216 then some ⟨s.l.set n (.lst (xs ++ [d])), s.note n d⟩ else none
  | _ => none
/-- get -/
def getD (n : Nat) (y z : D) (s : S) : R D := match s.l[n]?, y with
  | some (.dct kvs), .tup ks => match intsOf ks with
    | some k => .ok ((dAt kvs k).getD z) s
    | none => .no
  | _, _ => .no
/-- setdefault -/
def setD (n : Nat) (ks : List D) (z : D) (s : S) : R D := match s.l[n]?, intsOf ks with
  | some (.dct kvs), some k => if kvs.length < 16777216 then match dAt kvs k with
    | some v => .ok v s
    | none => .ok z ⟨s.l.set n (.dct (kvs ++ [(k, z)])), s.note n z⟩
    else .no
  | _, _ => .no

def truth (s : S) : D → Option Bool
  | .bl b => some b
  | .non => some false
  | .int i => some (i != 0)
  | .ref n => match s.l[n]? with
    | some (.lst xs) => some (!xs.isEmpty)
    | _ => none
  | .tup xs => some (!xs.isEmpty)
  | .lk xs => some (!xs.isEmpty)
  | _ => none
/-- an outcome as a test's -/
def tst (r : R D) : R Bool := r.bind fun d s => match truth s d with
  | some b => .ok b s
  | none => .no
/-- the turns of a comprehension; acc: what is told so far, the last ahead -/
def compLoop (item : Nat → S → Option (Option D)) (tg : CT) (elt cond : Env → S → R D) (ρ : Env) : Nat → Nat → List D → S → R D
  | 0, _, _, _ => .no
  | k + 1, i, acc, s => match item i s with
    | none => .no
    | some none => .ok (.ref s.l.length) ⟨s.l ++ [.lst acc.reverse], s.e⟩
    | some (some d) => match put tg d ρ with
      | none => .no
      | some ρ' => match tst (cond ρ' s) with
        | .ok true s1 => match elt ρ' s1 with
          | .ok x s2 => compLoop item tg elt cond ρ k (i + 1) (x :: acc) s2
          | _ => .no
        | .ok false s1 => compLoop item tg elt cond ρ k (i + 1) acc s1
        | _ => .no
/-- what is told so far, the last ahead, and how many -/
structure Ac where
  n : Nat
  l : List D
/-- the turns of one clause of several; tail: what stands behind its tests -/
def loopN (item : Nat → S → Option (Option D)) (tg : CT) (cond : Env → S → R D) (tail : Env → Ac → S → Option (Ac × S)) (ρ : Env) : Nat → Nat → Ac → S → Option (Ac × S)
  | 0, _, _, _ => none
  | k + 1, i, acc, s => match item i s with
    | none => none
    | some none => some (acc, s)
    | some (some d) => match put tg d ρ with
      | none => none
      | some ρ' => match tst (cond ρ' s) with
        | .ok true s1 => match tail ρ' acc s1 with
          | some (acc2, s2) => loopN item tg cond tail ρ k (i + 1) acc2 s2
          | none => none
        | .ok false s1 => loopN item tg cond tail ρ k (i + 1) acc s1
        | _ => none
def permG : List Nat → List D → Option (List D)
  | [], _ => some []
  | i :: r, ds => match ds[i]?, permG r ds with
    | some d, some q => some (d :: q)
    | _, _ => none
/-- the values in another order -/
def permD (perm : List Nat) (ds : List D) : Option (List D) := if perm.length = ds.length then permG perm ds else none
abbrev Funs := Nat → List D → S → R D
mutual
def ev (F : Funs) : CE → Env → S → R D
  | .con d, _, s => .ok d s
  | .var i, ρ, s => match ρ[i]? with
    | some (some d) => .ok d s
    | _ => .no
  | .prim p es, ρ, s => (evs F es ρ s).bind fun ds s => prim p ds s
  | .and a b, ρ, s => (ev F a ρ s).bind fun d s1 => match truth s1 d with
    | some true => ev F b ρ s1
    | some false => .ok d s1
    | none => .no
  | .or a b, ρ, s => (ev F a ρ s).bind fun d s1 => match truth s1 d with
    | some true => .ok d s1
    | some false => ev F b ρ s1
    | none => .no
  | .not a, ρ, s => (tst (ev F a ρ s)).bind fun k s1 => .ok (.bl (!k)) s1
  | .ite t a b, ρ, s => (tst (ev F t ρ s)).bind fun k s1 => match k with
    | true => ev F a ρ s1
    | false => ev F b ρ s1
  | .chain p q a b c, ρ, s => (ev F a ρ s).bind fun x s1 => (ev F b ρ s1).bind fun y s2 => (prim p [x, y] s2).bind fun d s3 => match d with
    | .bl true => (ev F c ρ s3).bind fun z s4 => prim q [y, z] s4
    | .bl false => .ok (.bl false) s3
    | _ => .no
  | .call f es, ρ, s => (evs F es ρ s).bind fun ds s => F f ds s
  | .callv oks e es, ρ, s => (ev F e ρ s).bind fun d s => match d with
    | .fn f => if oks.contains f then (evs F es ρ s).bind fun ds s => F f ds s else .no
    | _ => .no
  | .callp f perm es, ρ, s => (evs F es ρ s).bind fun ds s => match permD perm ds with
    | some ds' => F f ds' s
    | none => .no
  | .kget tab e, ρ, s => (ev F e ρ s).bind fun d s => match d with
    | .int i => ob (tabAt tab i) id s
    | _ => .no
  | .dgetd d e f, ρ, s => (ev F d ρ s).bind fun x s1 => match x with
    | .ref n => if isDct s1 n then (ev F e ρ s1).bind fun y s2 => (ev F f ρ s2).bind fun z s3 => getD n y z s3 else .no
    | _ => .no
  | .dsetd d es f, ρ, s => (ev F d ρ s).bind fun x s1 => match x with
    | .ref n => if isDct s1 n then (evs F es ρ s1).bind fun ks s2 => if ks.length < 16777216 then (ev F f ρ s2).bind fun z s3 => setD n ks z s3 else .no else .no
    | _ => .no
  | .comp elt tg src es cond vs, ρ, s => (evs F es ρ s).bind fun ds s =>
    compLoop (itemQ src ds) tg (ev F elt) (ev F cond) (clears vs ρ) 100000 0 [] s
  | .compN elt tg src es cond r vs, ρ, s => (evs F es ρ s).bind fun ds s =>
    match loopN (itemAt src ds) tg (ev F cond) (evT F (ev F elt) r) (clears vs ρ) 100000 0 ⟨0, []⟩ s with
    | some (a, s') => .ok (.ref s'.l.length) ⟨s'.l ++ [.lst a.l.reverse], s'.e⟩
    | none => .no
def evT (F : Funs) (el : Env → S → R D) : CLs → Env → Ac → S → Option (Ac × S)
  | .nil, ρ, acc, s => match el ρ s with
    | .ok x s1 => if Nat.ble acc.n 16777215 then some (⟨acc.n + 1, x :: acc.l⟩, s1) else none
    | _ => none
  | .cons tg src es cond vs r, ρ, acc, s => match evs F es ρ s with
    | .ok ds s1 => loopN (itemAt src ds) tg (ev F cond) (evT F el r) (clears vs ρ) 100000 0 acc s1
    | _ => none
def evs (F : Funs) : CEs → Env → S → R (List D)
  | .nil, _, s => .ok [] s
  | .cons e es, ρ, s => (ev F e ρ s).bind fun d s => (evs F es ρ s).bind fun ds s => .ok (d :: ds) s
end

/-! ### statements -/
mutual
inductive CS where
  | set (t : CT) (e : CE)
  | setU (ts : CTs) (e : CE)
  | aug (i : Nat) (neg : Bool) (e : CE)
  | put (o i e : CE)
  | push (o e : CE)
  | drop (e : CE)
  | ret (e : CE)
  | retN
  | cond (t : CE) (a b : CSs)
  | each (tg : CT) (src : Src) (es : CEs) (body : CSs)
  | loop (t : CE) (body : CSs)
  | brk | cont | skip
  | raise (cls : Nat) (es : CEs)
  | tryx (body : CSs) (hs : CHs)
inductive CSs where
  | nil
  | cons (st : CS) (sts : CSs)
inductive CHs where
  | nil
  | cons (cls : List Nat) (slot : Option Nat) (ns : List Str) (body : CSs) (hs : CHs)
end
/-- how statements end -/
inductive Fl where
  | nx (ρ : Env) | rt (d : D) | bk (ρ : Env) | ct (ρ : Env)
/-- an outcome of statements: an exception knows the slots as they were -/
inductive RS where
  | ok (f : Fl) (s : S)
  | ex (cls : Nat) (fs : List D) (ρ : Env) (s : S)
  | no
def RS.of {α : Type} (r : R α) (ρ : Env) (f : α → S → RS) : RS := match r with
  | .ok a s => f a s
  | .ex x fs s => .ex x fs ρ s
  | .no => .no
def setAt (n : Nat) (i : Int) (d : D) (s : S) : Option S := match s.l[n]? with
  | some (.lst xs) => match ixN xs.length i with
    | some j => some ⟨s.l.set n (.lst (xs.set j d)), s.note n d⟩
    | none => none
  | _ => none
mutual
/-- nothing of a caught error is within -/
def noE : D → Bool
  | .err _ _ _ => false
  | .fn n => Nat.blt n 999999
  | .tup xs => noEL xs
  | .lk xs => noEL xs
  | _ => true
def noEL : List D → Bool
  | [] => true
  | d :: ds => noE d && noEL ds
end
def noES (s : S) : Bool := s.l.all fun x => match x with | .lst xs => noEL xs | .dct kvs => noEL (kvs.map (·.2))
def noEE (ρ : Env) : Bool := ρ.all fun x => match x with | some d => noE d | none => true
/-- the end of an except clause without a name -/
def calmS : RS → RS
  | .ok f s => .ok f s
  | _ => .no
/-- the end of an except clause that named the error in slot i -/
def gone (i : Nat) : RS → RS
  | .ok (.nx ρ) s => if noES s && noEE (ρ.set i none) then .ok (.nx (ρ.set i none)) s else .no
  | .ok (.bk ρ) s => if noES s && noEE (ρ.set i none) then .ok (.bk (ρ.set i none)) s else .no
  | .ok (.ct ρ) s => if noES s && noEE (ρ.set i none) then .ok (.ct (ρ.set i none)) s else .no
  | .ok (.rt d) s => if noES s && noE d then .ok (.rt d) s else .no
  | _ => .no
def eachLoop (item : Nat → S → Option (Option D)) (tg : CT) (body : Env → S → RS) : Nat → Nat → Env → S → RS
  | 0, _, _, _ => .no
  | k + 1, i, ρ, s => match item i s with
    | none => .no
    | some none => .ok (.nx ρ) s
    | some (some d) => match Mi.put tg d ρ with
      | none => .no
      | some ρ' => match body ρ' s with
        | .ok (.nx ρ2) s2 => eachLoop item tg body k (i + 1) ρ2 s2
        | .ok (.ct ρ2) s2 => eachLoop item tg body k (i + 1) ρ2 s2
        | .ok (.bk ρ2) s2 => .ok (.nx ρ2) s2
        | r => r
def whileLoop (test : Env → S → R D) (body : Env → S → RS) : Nat → Env → S → RS
  | 0, _, _ => .no
  | k + 1, ρ, s => match tst (test ρ s) with
    | .ok true s1 => match body ρ s1 with
      | .ok (.nx ρ2) s2 => whileLoop test body k ρ2 s2
      | .ok (.ct ρ2) s2 => whileLoop test body k ρ2 s2
      | .ok (.bk ρ2) s2 => .ok (.nx ρ2) s2
      | r => r
    | .ok false s1 => .ok (.nx ρ) s1
    | .ex x fs s1 => .ex x fs ρ s1
    | _ => .no
mutual
def ex (F : Funs) : CS → Env → S → RS
  | .set t e, ρ, s => RS.of (ev F e ρ s) ρ fun d s => match put t d ρ with
    | some ρ' => .ok (.nx ρ') s
    | none => .no
  | .setU ts e, ρ, s => RS.of (ev F e ρ s) ρ fun d s => match itemsOf s d with
    | some xs => match puts ts xs ρ with
      | some ρ' => .ok (.nx ρ') s
      | none => .no
    | none => .no
  | .aug i neg e, ρ, s => match ρ[i]? with
    | some (some x) => RS.of (ev F e ρ s) ρ fun d s => match x, d with
      | .int a, .int b => .ok (.nx (ρ.set i (some (.int (if neg then a - b else a + b))))) s
      | _, _ => .no
    | _ => .no
  | .put o i e, ρ, s => RS.of (ev F e ρ s) ρ fun d s => RS.of (ev F o ρ s) ρ fun x s => RS.of (ev F i ρ s) ρ fun j s => match x, j with
    | .ref n, .int k => match setAt n k d s with
      | some s => .ok (.nx ρ) s
      | none => .no
    | _, _ => .no
  | .push o e, ρ, s => RS.of (ev F o ρ s) ρ fun x s => match x with
    | .ref n => match s.l[n]? with
      | some (.lst _) => RS.of (ev F e ρ s) ρ fun d s => match pushTo n d s with
        | some s => .ok (.nx ρ) s
        | none => .no
      | _ => .no
    | _ => .no
  | .drop e, ρ, s => RS.of (ev F e ρ s) ρ fun _ s => .ok (.nx ρ) s
  | .ret e, ρ, s => RS.of (ev F e ρ s) ρ fun d s => .ok (.rt d) s
  | .retN, ρ, s => .ok (.rt .non) s
  | .cond t a b, ρ, s => RS.of (tst (ev F t ρ s)) ρ fun k s => match k with
    | true => exs F a ρ s
    | false => exs F b ρ s
  | .each tg src es body, ρ, s => RS.of (evs F es ρ s) ρ fun ds s => eachLoop (itemAt src ds) tg (exs F body) 100000 0 ρ s
  | .loop t body, ρ, s => whileLoop (ev F t) (exs F body) 100000 ρ s
  | .brk, ρ, s => .ok (.bk ρ) s
  | .cont, ρ, s => .ok (.ct ρ) s
  | .skip, ρ, s => .ok (.nx ρ) s
  | .raise x es, ρ, s => RS.of (evs F es ρ s) ρ fun ds s => .ex x ds ρ s
  | .tryx body hs, ρ, s => match exs F body ρ s with
    | .ex x fs ρ2 s2 => exh F hs x fs ρ2 s2
    | r => r
def exs (F : Funs) : CSs → Env → S → RS
  | .nil, ρ, s => .ok (.nx ρ) s
  | .cons st sts, ρ, s => match ex F st ρ s with
    | .ok (.nx ρ2) s2 => exs F sts ρ2 s2
    | r => r
def exh (F : Funs) : CHs → Nat → List D → Env → S → RS
  | .nil, x, fs, ρ, s => .ex x fs ρ s
  | .cons cls slot ns body hs, x, fs, ρ, s => if cls.contains x then match slot with
    | none => calmS (exs F body ρ s)
    | some i => gone i (exs F body (ρ.set i (some (.err 1000000 ns fs))) s)
    else exh F hs x fs ρ s
end

/-! ### defs -/
/-- no cell below n may hold a younger one -/
def cleanTo (n : Nat) : Option Nat → Bool
  | none => true
  | some k => Nat.ble n k
/-- behind a call the cells that were made within go, where nothing names them -/
def gc (n : Nat) (d : D) (s : S) : R D :=
  if cleanTo n s.e then
    if refsLt n d then .ok d ⟨s.l.take n, none⟩ else match d with
      | .ref k => match s.l[k]? with
        | some x => if cellLt n x then .ok (.ref n) ⟨s.l.take n ++ [x], none⟩ else .ok d s
        | none => .ok d s
      | _ => .ok d s
  else .ok d s
structure Fn where
  slots : Nat
  pars : Nat
  body : CSs
def runDef (F : Funs) (fn : Fn) (ds : List D) (s : S) : R D :=
  if ds.length = fn.pars ∧ fn.pars ≤ fn.slots then match exs F fn.body (ds.map some ++ List.replicate (fn.slots - fn.pars) none) s with
    | .ok (.rt d) s2 => gc s.l.length d s2
    | .ok (.nx _) s2 => gc s.l.length .non s2
    | .ex x fs _ s2 => .ex x fs s2
    | _ => .no
  else .no
/-- calls to a depth -/
def run (T : List Fn) : Nat → Funs
  | 0, _, _, _ => .no
  | k + 1, f, ds, s => match T[f]? with
    | some fn => runDef (run T k) fn ds s
    | none => .no
end Mi

set_option linter.all false
set_option maxRecDepth 100000
set_option maxHeartbeats 2000000
namespace Mi
open PySem PySem.Spec PyProof.Rows L2

section
variable (K : PySem.W.Frag) (fa : Nat → Option Addr)
/-- the state is held -/
structure RelS (H : Hp) (m : List Addr) (s : S) : Prop where
  rel : Rel K fa H m s.l
  low : ∀ (k : Nat) (x : Cell), s.l[k]? = some x → (∀ e, s.e = some e → k < e) → cellLt (k + 1) x = true
variable {K fa}
variable {H H' H2 : Hp} {m m' m2 : List Addr} {s : S}
mutual
theorem refs_of {n : Nat} (hn : m.length ≤ n) : ∀ {d : D} {v : V}, Rp K fa H m d v → refsLt n d = true
  | .non, _, _ => rfl
  | .bl _, _, _ => rfl
  | .int _, _, _ => rfl
  | .str _, _, _ => rfl
  | .fn _, _, _ => rfl
  | .err _ _ [], _, _ => rfl
  | .err _ _ (x :: xs), _, h => by
    obtain ⟨p, e, q, z⟩ := h
    rcases z with z | ⟨dd, vs, z1, z2, z3⟩
    · cases z.1
    · exact refsL_of hn z3
  | .tup _, _, h => by
    obtain ⟨p, vs, e, q, r⟩ := h
    exact refsL_of hn r
  | .lk _, _, h => by
    obtain ⟨p, vs, e, q, r⟩ := h
    exact refsL_of hn r
  | .ref k, _, h => by
    obtain ⟨p, e, q⟩ := h
    have hk : k < m.length := by
      rcases Nat.lt_or_ge k m.length with z | z
      · exact z
      · rw [List.getElem?_eq_none z] at q; cases q
    exact Nat.ble_eq_true_of_le (Nat.lt_of_lt_of_le hk hn)
theorem refsL_of {n : Nat} (hn : m.length ≤ n) : ∀ {ds : List D} {vs : List V}, RpL K fa H m ds vs → refsLtL n ds = true
  | [], _, _ => rfl
  | d :: ds, _, h => by
    obtain ⟨v, r, e, q, q2⟩ := h
    unfold refsLtL
    rw [refs_of hn q, refsL_of hn q2]; rfl
end
mutual
theorem refs_mono {a b : Nat} (hn : a ≤ b) : ∀ {d : D}, refsLt a d = true → refsLt b d = true
  | .non, _ => rfl
  | .bl _, _ => rfl
  | .int _, _ => rfl
  | .str _, _ => rfl
  | .fn _, _ => rfl
  | .err _ _ _, h => refsL_mono hn h
  | .tup _, h => refsL_mono hn h
  | .lk _, h => refsL_mono hn h
  | .ref k, h => Nat.ble_eq_true_of_le (Nat.le_trans (Nat.le_of_ble_eq_true h) hn)
theorem refsL_mono {a b : Nat} (hn : a ≤ b) : ∀ {ds : List D}, refsLtL a ds = true → refsLtL b ds = true
  | [], _ => rfl
  | d :: ds, h => by
    unfold refsLtL at h ⊢
    rw [Bool.and_eq_true] at h
    rw [refs_mono hn h.1, refsL_mono hn h.2]; rfl
end
theorem refsL_append {n : Nat} : ∀ {xs ys : List D}, refsLtL n (xs ++ ys) = (refsLtL n xs && refsLtL n ys)
  | [], _ => rfl
  | x :: xs, ys => by
    show (refsLt n x && refsLtL n (xs ++ ys)) = _
    rw [refsL_append]
    show _ = (refsLt n x && refsLtL n xs && refsLtL n ys)
    rw [Bool.and_assoc]
theorem refsL_set {n : Nat} {d : D} (hd : refsLt n d = true) : ∀ {xs : List D} {j : Nat}, refsLtL n xs = true → refsLtL n (xs.set j d) = true
  | [], _, h => h
  | x :: xs, 0, h => by
    have h : (refsLt n x && refsLtL n xs) = true := h
    rw [Bool.and_eq_true] at h
    show (refsLt n d && refsLtL n xs) = true
    rw [hd, h.2]; rfl
  | x :: xs, j + 1, h => by
    have h : (refsLt n x && refsLtL n xs) = true := h
    rw [Bool.and_eq_true] at h
    show (refsLt n x && refsLtL n (xs.set j d)) = true
    rw [h.1, refsL_set hd h.2]; rfl
theorem RelS.new (R : RelS K fa H m s) {p : Addr} {o : HO} (h : H p = none) : RelS K fa (upd H p o) m s := ⟨R.rel.new h, R.low⟩
theorem RelS.cell (R : RelS K fa H m s) {p : Addr} {vs : List V} {xs : List D} (h : H p = none) (r : RpL K fa H m xs vs) : RelS K fa (upd H p (.lst vs)) (m ++ [p]) ⟨s.l ++ [.lst xs], s.e⟩ where
  rel := R.rel.cell h r
  low := fun k x e1 e2 => by
    by_cases hk : k < s.l.length
    · rw [List.getElem?_append_left hk] at e1
      exact R.low k x e1 e2
    · rw [List.getElem?_append_right (by omega)] at e1
      cases q : k - s.l.length with
      | zero =>
        rw [q] at e1
        simp at e1
        subst e1
        exact refsL_of (by rw [R.rel.len]; omega) r
      | succ j => rw [q] at e1; simp at e1
/-- behind a store of d into cell n -/
theorem RelS.storeC (R : RelS K fa H m s) {n : Nat} {p : Addr} {o o2 : HO} {yc zc : Cell} {d : D} (hm : m[n]? = some p) (h : H p = some o) (ho : MutO o) (r : CellOk K fa (upd H p o2) m p yc) (hz : s.l[n]? = some zc)
    (hx : ∀ k, cellLt k zc = true → refsLt k d = true → cellLt k yc = true) : RelS K fa (upd H p o2) m ⟨s.l.set n yc, s.note n d⟩ where
  rel := R.rel.mutC hm h ho r
  low := fun k x e1 e2 => by
    have e2 : ∀ e, s.note n d = some e → k < e := e2
    have old : ∀ e, s.e = some e → k < e ∨ (refsLt (n + 1) d = false ∧ ¬ k < e) := fun e he => by
      by_cases q : refsLt (n + 1) d = true
      · exact .inl (e2 e (by unfold S.note; rw [if_pos q]; exact he))
      · by_cases z : k < e
        · exact .inl z
        · exact .inr ⟨by simpa using q, z⟩
    have noted : ∀ e, s.e = some e → k < e := fun e he => by
      by_cases q : refsLt (n + 1) d = true
      · exact e2 e (by unfold S.note; rw [if_pos q]; exact he)
      · have z := e2 (if Nat.ble e n then e else n) (by unfold S.note; rw [if_neg q, he])
        by_cases b : Nat.ble e n = true
        · rw [if_pos b] at z; exact z
        · rw [if_neg b] at z
          have : n < e := by
            rcases Nat.lt_or_ge n e with y | y
            · exact y
            · exact absurd (Nat.ble_eq_true_of_le y) b
          omega
    by_cases hk : n = k
    · subst hk
      have hn : n < s.l.length := by
        rcases Nat.lt_or_ge n s.l.length with q | q
        · exact q
        · rw [List.getElem?_eq_none q] at hz; cases hz
      have e1 : (s.l.set n yc)[n]? = some x := e1
      rw [List.getElem?_set_self hn] at e1
      cases e1
      refine hx (n + 1) (R.low n _ hz noted) ?_
      by_cases q : refsLt (n + 1) d = true
      · exact q
      · exfalso
        cases he : s.e with
        | none =>
          have z := e2 n (by unfold S.note; rw [if_neg q, he])
          omega
        | some e =>
          have z := e2 (if Nat.ble e n then e else n) (by unfold S.note; rw [if_neg q, he])
          by_cases b : Nat.ble e n = true
          · rw [if_pos b] at z
            have := Nat.le_of_ble_eq_true b
            omega
          · rw [if_neg b] at z; omega
    · have e1 : (s.l.set n yc)[k]? = some x := e1
      rw [List.getElem?_set_ne hk] at e1
      exact R.low k x e1 noted
theorem RelS.store (R : RelS K fa H m s) {n : Nat} {p : Addr} {ws vs : List V} {xs zs : List D} {d : D} (hm : m[n]? = some p) (h : H p = some (.lst ws)) (r : RpL K fa H m xs vs) (hz : s.l[n]? = some (.lst zs))
    (hx : ∀ k, refsLtL k zs = true → refsLt k d = true → refsLtL k xs = true) : RelS K fa (upd H p (.lst vs)) m ⟨s.l.set n (.lst xs), s.note n d⟩ :=
  R.storeC hm h trivial ⟨vs, upd_same, r.le (le_mut hm h)⟩ hz hx
end

/-! ### what is wanted of an outcome -/
section
variable (K : PySem.W.Frag) (fa : Nat → Option Addr) (XR : Nat → List D → Value → Option Addr → Hp → List Addr → Prop)
def Post {α β : Type} (Re : Hp → List Addr → α → β → Prop) (W : WX) (σ : L2.St) (H : Hp) (m : List Addr) (r : R α) (Q : β → Hp → Prop) : Prop := match r with
  | .ok a s => ∀ b H' m', Le H m H' m' → RelS K fa H' m' s → Re H' m' a b → Q b H'
  | .ex x fs s => ∀ cls d H' m', Le H m H' m' → RelS K fa H' m' s → XR x fs cls d H' m' → W cls d σ H'
  | .no => False
variable {K fa XR}
variable {α β γ δ : Type} {Re : Hp → List Addr → α → β → Prop} {Re2 : Hp → List Addr → γ → δ → Prop} {W : WX} {σ : L2.St} {H H' : Hp} {m m' : List Addr}
theorem Post.le {r : R α} {Q : β → Hp → Prop} (l : Le H m H' m') (h : Post K fa XR Re W σ H m r Q) : Post K fa XR Re W σ H' m' r Q := by
  cases r with
  | ok a s => exact fun b H2 m2 l2 R re => h b H2 m2 (l.trans l2) R re
  | ex x fs s => exact fun cls d H2 m2 l2 R re => h cls d H2 m2 (l.trans l2) R re
  | no => exact h
theorem Post.bind {r : R α} {f : α → S → R γ} {Q : δ → Hp → Prop} (h : Post K fa XR Re2 W σ H m (r.bind f) Q) :
    Post K fa XR Re W σ H m r (fun b H1 => ∃ m1 a s1, Le H m H1 m1 ∧ RelS K fa H1 m1 s1 ∧ Re H1 m1 a b ∧ r = .ok a s1 ∧ Post K fa XR Re2 W σ H1 m1 (f a s1) Q) := by
  cases r with
  | ok a s => exact fun b H1 m1 l R re => ⟨m1, a, s, l, R, re, rfl, Post.le (r := f a s) l h⟩
  | ex x fs s => exact h
  | no => exact h
theorem Post.imp {r : R α} {Q Q' : β → Hp → Prop} (h : Post K fa XR Re W σ H m r Q) (hq : ∀ b H1, Q b H1 → Q' b H1) : Post K fa XR Re W σ H m r Q' := by
  cases r with
  | ok a s => exact fun b H1 m1 l R re => hq _ _ (h b H1 m1 l R re)
  | ex x fs s => exact h
  | no => exact h
end

/-! ### the operations, one by one -/
section
variable {K : PySem.W.Frag} {fa : Nat → Option Addr} {XR : Nat → List D → Value → Option Addr → Hp → List Addr → Prop} {W : WX} {σ : L2.St} {H H' : Hp} {m m' : List Addr} {s : S}
theorem post_ok {d : D} {v : V} {Q : VK} (h : Post K fa XR (Rp K fa) W σ H m (.ok d s) Q) (R : RelS K fa H m s) (r : Rp K fa H m d v) : Q v H := h v H m Le.refl R r
theorem post_new {xs : List D} {vs : List V} {Q : VK} (h : Post K fa XR (Rp K fa) W σ H m (newList xs s) Q) (R : RelS K fa H m s) (r : RpL K fa H m xs vs) :
    vs.length ≤ sizeLine ∧ ∀ p, H p = none → Q (.ref p) (upd H p (.lst vs)) := by
  unfold newList at h
  split at h
  · rename_i hz
    rw [r.length] at hz
    refine ⟨Nat.le_of_lt (by rw [sizeLine_eq]; exact hz), fun p hp => ?_⟩
    refine h (.ref p) _ (m ++ [p]) (le_newc hp) (R.cell hp r) ⟨p, rfl, ?_⟩
    rw [← R.rel.len, List.getElem?_append_right (Nat.le_refl _), Nat.sub_self]
    rfl
  · exact h.elim
theorem post_ob {α : Type} {o : Option α} {f : α → D} {Q : VK} (h : Post K fa XR (Rp K fa) W σ H m (ob o f s) Q) : ∃ a, o = some a ∧ Post K fa XR (Rp K fa) W σ H m (.ok (f a) s) Q := by
  cases o with
  | none => exact h.elim
  | some a => exact ⟨a, rfl, h⟩
/-- what can be walked, by its values -/
theorem items_of {d : D} {v : V} {xs : List D} (R : RelS K fa H m s) (r : Rp K fa H m d v) (e : itemsOf s d = some xs) : ∃ a vs, v = .ref a ∧ (SqL K H a vs ∨ SqT K H a vs) ∧ RpL K fa H m xs vs := by
  cases d with
  | tup ds =>
    cases e
    obtain ⟨a, vs, rfl, q, z⟩ := r
    exact ⟨a, vs, rfl, .inr q, z⟩
  | lk ds =>
    cases e
    obtain ⟨a, vs, rfl, q, z⟩ := r
    exact ⟨a, vs, rfl, .inl q.l, z⟩
  | ref n =>
    obtain ⟨a, rfl, q⟩ := r
    simp only [itemsOf] at e
    split at e
    · rename_i ys hy
      cases e
      obtain ⟨b, hb, vs, e1, z⟩ := R.rel.got hy
      rw [q] at hb
      cases hb
      exact ⟨_, vs, rfl, .inl (.inl (.inl e1)), z⟩
    · cases e
  | non => cases e
  | bl _ => cases e
  | int _ => cases e
  | str _ => cases e
  | fn _ => cases e
  | err _ _ _ => cases e
theorem cell_of {n : Nat} {v : V} {xs : List D} (R : RelS K fa H m s) (r : Rp K fa H m (.ref n) v) (e : s.l[n]? = some (.lst xs)) : ∃ a vs, v = .ref a ∧ m[n]? = some a ∧ H a = some (.lst vs) ∧ RpL K fa H m xs vs := by
  obtain ⟨a, rfl, q⟩ := r
  obtain ⟨b, hb, vs, e1, z⟩ := R.rel.got e
  rw [q] at hb
  cases hb
  exact ⟨_, vs, rfl, q, e1, z⟩
theorem rp_ints : ∀ {xs : List D} {is : List Int} {vs : List V}, intsOf xs = some is → RpL K fa H m xs vs → vs = is.map V.int
  | [], _, _, e, r => by cases e; rw [show _ = [] from r]; rfl
  | .int i :: xs, _, _, e, r => by
    obtain ⟨v, w, rfl, q, q2⟩ := r
    unfold intsOf at e
    split at e
    · rename_i js hj
      cases e
      rw [show v = .int i from q, rp_ints hj q2]; rfl
    · cases e
  | .non :: _, _, _, e, _ => by cases e
  | .bl _ :: _, _, _, e, _ => by cases e
  | .str _ :: _, _, _, e, _ => by cases e
  | .tup _ :: _, _, _, e, _ => by cases e
  | .lk _ :: _, _, _, e, _ => by cases e
  | .ref _ :: _, _, _, e, _ => by cases e
  | .fn _ :: _, _, _, e, _ => by cases e
  | .err _ _ _ :: _, _, _, e, _ => by cases e
theorem rp_bools : ∀ {xs : List D} {is : List Bool} {vs : List V}, boolsOf xs = some is → RpL K fa H m xs vs → vs = is.map V.bl
  | [], _, _, e, r => by cases e; rw [show _ = [] from r]; rfl
  | .bl i :: xs, _, _, e, r => by
    obtain ⟨v, w, rfl, q, q2⟩ := r
    unfold boolsOf at e
    split at e
    · rename_i js hj
      cases e
      rw [show v = .bl i from q, rp_bools hj q2]; rfl
    · cases e
  | .non :: _, _, _, e, _ => by cases e
  | .int _ :: _, _, _, e, _ => by cases e
  | .str _ :: _, _, _, e, _ => by cases e
  | .tup _ :: _, _, _, e, _ => by cases e
  | .lk _ :: _, _, _, e, _ => by cases e
  | .ref _ :: _, _, _, e, _ => by cases e
  | .fn _ :: _, _, _, e, _ => by cases e
  | .err _ _ _ :: _, _, _, e, _ => by cases e
mutual
theorem dp_of (R : RelS K fa H m s) : ∀ (n : Nat) {d : D} {v : V} {x : PyData}, toP s.l n d = some x → Rp K fa H m d v → Dp K H v x
  | 0, _, _, _, e, _ => by cases e
  | n + 1, .non, _, _, e, r => by cases e; rw [show _ = V.non from r]; exact .non
  | n + 1, .bl b, _, _, e, r => by cases e; rw [show _ = V.bl b from r]; exact .bl b
  | n + 1, .int b, _, _, e, r => by cases e; rw [show _ = V.int b from r]; exact .int b
  | n + 1, .str b, _, _, e, r => by cases e; rw [show _ = V.str b from r]; exact .str b
  | n + 1, .tup xs, _, _, e, r => by
    obtain ⟨a, vs, rfl, q, z⟩ := r
    unfold toP at e
    simp only at e
    split at e
    · rename_i ds hd
      cases e
      exact .tup q (dps_of R n hd z)
    · cases e
  | n + 1, .lk xs, _, _, e, r => by
    obtain ⟨a, vs, rfl, q, z⟩ := r
    unfold toP at e
    simp only at e
    split at e
    · rename_i ds hd
      cases e
      exact .lst q.l (dps_of R n hd z)
    · cases e
  | n + 1, .ref k, _, _, e, r => by
    unfold toP at e
    simp only at e
    split at e
    · rename_i xs hx
      obtain ⟨a, vs, rfl, _, h1, z⟩ := cell_of R r hx
      split at e
      · rename_i ds hd
        cases e
        exact .lst (.inl (.inl h1)) (dps_of R n hd z)
      · cases e
    · cases e
  | n + 1, .fn k, _, _, e, r => by cases e
  | n + 1, .err _ _ _, _, _, e, r => by cases e
theorem dps_of (R : RelS K fa H m s) : ∀ (n : Nat) {ds : List D} {vs : List V} {xs : List PyData}, toPs s.l n ds = some xs → RpL K fa H m ds vs → DpAll K H vs xs
  | 0, _, _, _, e, _ => by cases e
  | n + 1, [], _, _, e, r => by cases e; rw [show _ = [] from r]; exact .nil
  | n + 1, d :: ds, _, _, e, r => by
    obtain ⟨v, w, rfl, q, q2⟩ := r
    unfold toPs at e
    split at e
    · rename_i x hx
      split at e
      · rename_i xs hxs
        cases e
        exact .cons (dp_of R n hx q) (dps_of R n hxs q2)
      · cases e
    · cases e
end
end
end Mi

set_option linter.all false
set_option maxRecDepth 100000
set_option maxHeartbeats 2000000
namespace Mi
open PySem PySem.Spec PyProof.Rows L2

/-! ### min of two tuples of numbers: what is compared stands in the heap -/
section
variable {prog : Program} {w : World} {A : Around} {R : Result → Shared → Prop} {I : Addr} {fp wr : List Addr} {n : Nat} {P : Nat → Value → Prop} {St : Nat → Heap → Prop} {Hf : Heap → Prop}
def CmpH (prog : Program) (w : World) (A : Around) (Hf : Heap → Prop) (P : Nat → Value → Prop) (n : Nat) (bt : Nat → Nat → Bool) : Prop :=
  ∀ i j vi vj (s : Shared) (Q : Value → Shared → Prop) (E : Value → Shared → Prop), j < i → i < n → Hf s.heap → P i vi → P j vj → Q (.bool (bt i j)) s → wpAny (model prog w) A (richCompare .Lt vi vj) Q E s
theorem argBest_le (bt : Nat → Nat → Bool) : ∀ k, argBest bt k ≤ k
  | 0 => Nat.le_refl _
  | k + 1 => by
    unfold argBest
    split
    · exact Nat.le_refl _
    · exact Nat.le_succ_of_le (argBest_le bt k)
theorem codeAny_min_loopH (W : Walks prog w A.in1 I fp wr n P St) (bt : Nat → Nat → Bool) (hcmp : CmpH prog w A.in1 Hf P n bt) (S : Addr) (hSf : S ∉ fp) (hkeep : ∀ h h' : Heap, (∀ b o, b ∉ wr → b ≠ S → h.get? b = some o → h'.get? b = some o) → Hf h → Hf h') :
    ∀ (k j : Nat) (s : Shared) (vb : Value) (c : Nat), n - (j + 1) = k → j + 1 ≤ n → St (j + 1) s.heap → P (argBest bt j) vb → Hf s.heap →
    s.heap.get? S = some { cls := .type "list", dict := none, data := .seq #[vb, vb] c, slots := #[] } →
    (∀ v h' tk, P (argBest bt (n - 1)) v → (∀ b o, b ∉ wr → b ≠ S → s.heap.get? b = some o → h'.get? b = some o) → R (.ok (.ret v)) { s with heap := h', toks := tk }) →
    codeAny (model prog w) A (.builtin "min.loop" ⟨[.ref I, .none, .ref S], []⟩) R s := by
  have hSw : S ∉ wr := fun h => hSf (W.sub _ h)
  have hname : (toString "min" ++ toString ".loop" : String) = "min.loop" := by decide
  intro k
  induction k with
  | zero =>
    intro j s vb c hk hj hst hPb hH hS hR
    have hin : j + 1 = n := by omega
    refine codeAny_builtin F.entry_min_loop ?_
    rw [Around.under_plainId F.plain_min_loop _]
    show wpAny _ A.in1 (seqItems? (.ref S) >>= _) _ _ s
    refine wpAny_bind (wpAny_seqItems hS rfl ?_)
    show wpAny _ A.in1 (tryCatch (pyNext (.ref I)) _ >>= _) _ _ s
    refine wpAny_bind (wpAny_tryCatch (W.done s _ _ (hin ▸ hst) fun h' tk hk' => ?_))
    have hS' := hk' S _ hSw hS
    show wpAny _ A.in1 (updateSeq S (fun _ => #[]) >>= _) _ _ _
    refine wpAny_bind ?_
    refine wpAny_updateSeq hS' rfl (wpAny_bind (wpAny_letGo (wpAny_pure ?_)))
    refine hR vb _ tk (by rw [← hin]; exact hPb) fun b o hbw hbS e => (Heap.get?_update_other _ _ (Ne.symm hbS)).trans (hk' b o hbw e)
  | succ k ih =>
    intro j s vb c hk hj hst hPb hH hS hR
    have hlt : j + 1 < n := by omega
    refine codeAny_builtin F.entry_min_loop ?_
    rw [Around.under_plainId F.plain_min_loop _]
    show wpAny _ A.in1 (seqItems? (.ref S) >>= _) _ _ s
    refine wpAny_bind (wpAny_seqItems hS rfl ?_)
    show wpAny _ A.in1 (tryCatch (pyNext (.ref I)) _ >>= _) _ _ s
    refine wpAny_bind (wpAny_tryCatch (W.item (j + 1) s _ _ hlt hst fun v h' tk hP hst' hk' => ?_))
    have hS' := hk' S _ hSw hS
    have hH' : Hf h' := hkeep _ _ (fun b o hb _ e => hk' b o hb e) hH
    show wpAny _ A.in1 (tryCatch (holding [v, v] (richCompare .Lt v vb >>= _)) _ >>= _) _ _ _
    refine wpAny_bind (wpAny_tryCatch (wpAny_holding (wpAny_bind (hcmp (j + 1) (argBest bt j) v vb _ _ _ (Nat.lt_succ_of_le (argBest_le bt j)) hlt hH' hP hPb ?_))))
    refine wpAny_bind (wpAny_holding (wpAny_truthy_bool ?_))
    refine wpAny_bind (wpAny_letGo (wpAny_pure ?_))
    cases hb : bt (j + 1) (argBest bt j) with
    | true =>
      simp only [if_true]
      refine wpAny_bind ?_
      refine wpAny_updateSeq hS' rfl (wpAny_bind (wpAny_letGo ?_))
      rw [hname]
      refine wpAny_pure ⟨plainId_quiet F.plain_min_loop _, ih (j + 1) _ v _ (by omega) hlt (W.frame _ _ _ hst' fun b hbf o e => ?_) (by simp only [argBest, hb, if_true]; exact hP) (hkeep _ _ (fun b o _ hbS e => (Heap.get?_update_other _ _ (Ne.symm hbS)).trans e) hH') (Heap.get?_update_self _ hS' rfl)
        fun v' h'' tk'' hP' hk'' => ?_⟩
      · exact (Heap.get?_update_other _ _ (fun h : S = b => hSf (by rw [h]; exact hbf))).trans e
      · exact hR v' h'' tk'' hP' fun b o hbw hbS e => hk'' b o hbw hbS ((Heap.get?_update_other _ _ (Ne.symm hbS)).trans (hk' b o hbw e))
    | false =>
      simp only [Bool.false_eq_true, if_false]
      refine wpAny_bind (wpAny_letGo ?_)
      rw [hname]
      refine wpAny_pure ⟨plainId_quiet F.plain_min_loop _, ih (j + 1) _ vb c (by omega) hlt hst' (by simp only [argBest, hb, Bool.false_eq_true, if_false]; exact hPb) hH' hS' fun v' h'' tk'' hP' hk'' => ?_⟩
      exact hR v' h'' tk'' hP' fun b o hbw hbS e => hk'' b o hbw hbS (hk' b o hbw e)
theorem codeAny_min_loop_firstH (W : Walks prog w A.in1 I fp wr n P St) (bt : Nat → Nat → Bool) (hcmp : CmpH prog w A.in1 Hf P n bt) (S : Addr) (hSf : S ∉ fp) (hkeep : ∀ h h' : Heap, (∀ b o, b ∉ wr → b ≠ S → h.get? b = some o → h'.get? b = some o) → Hf h → Hf h') (hn : 0 < n) {s : Shared} {c : Nat} (hst : St 0 s.heap) (hH : Hf s.heap)
    (hS : s.heap.get? S = some { cls := .type "list", dict := none, data := .seq #[] c, slots := #[] })
    (hR : ∀ v h' tk, P (argBest bt (n - 1)) v → (∀ b o, b ∉ wr → b ≠ S → s.heap.get? b = some o → h'.get? b = some o) → R (.ok (.ret v)) { s with heap := h', toks := tk }) :
    codeAny (model prog w) A (.builtin "min.loop" ⟨[.ref I, .none, .ref S], []⟩) R s := by
  have hSw : S ∉ wr := fun h => hSf (W.sub _ h)
  have hname : (toString "min" ++ toString ".loop" : String) = "min.loop" := by decide
  refine codeAny_builtin F.entry_min_loop ?_
  rw [Around.under_plainId F.plain_min_loop _]
  show wpAny _ A.in1 (seqItems? (.ref S) >>= _) _ _ s
  refine wpAny_bind (wpAny_seqItems hS rfl ?_)
  show wpAny _ A.in1 (tryCatch (pyNext (.ref I)) _ >>= _) _ _ s
  refine wpAny_bind (wpAny_tryCatch (W.item 0 s _ _ hn hst fun v h' tk hP hst' hk' => ?_))
  have hS' := hk' S _ hSw hS
  have hH' : Hf h' := hkeep _ _ (fun b o hb _ e => hk' b o hb e) hH
  show wpAny _ A.in1 (updateSeq S (fun _ => #[v, v]) >>= _) _ _ _
  refine wpAny_bind ?_
  refine wpAny_updateSeq hS' rfl ?_
  rw [hname]
  refine wpAny_pure ⟨plainId_quiet F.plain_min_loop _, codeAny_min_loopH W bt hcmp S hSf hkeep _ 0 _ v _ rfl hn (W.frame _ _ _ hst' fun b hbf o e => ?_) hP (hkeep _ _ (fun b o _ hbS e => (Heap.get?_update_other _ _ (Ne.symm hbS)).trans e) hH') (Heap.get?_update_self _ hS' rfl) fun v' h'' tk'' hP' hk'' => ?_⟩
  · exact (Heap.get?_update_other _ _ (fun h : S = b => hSf (by rw [h]; exact hbf))).trans e
  · exact hR v' h'' tk'' hP' fun b o hbw hbS e => hk'' b o hbw hbS ((Heap.get?_update_other _ _ (Ne.symm hbS)).trans (hk' b o hbw e))
end
section
variable {prog : Program} {w : World} {A : Around} {E : Value → Shared → Prop} {s : Shared}
/-- min of two things that stand in the heap -/
theorem min_two_cmp {a b : Value} {k : Bool} {Q : Value → Shared → Prop} (hh : A.handled = none)
    (hcmp : ∀ (s' : Shared) (Q' : Value → Shared → Prop) (E' : Value → Shared → Prop), (∀ c o, s.heap.get? c = some o → s'.heap.get? c = some o) → Q' (.bool k) s' → wpAny (model prog w) A.in1 (richCompare .Lt b a) Q' E' s')
    (h : ∀ h' tk, (∀ c o, s.heap.get? c = some o → h'.get? c = some o) → Q (if k then b else a) { s with heap := h', toks := tk }) :
    wpAny (model prog w) A (call (.builtin "min") [a, b]) Q E s := by
  have hname : (toString "min" ++ toString ".loop" : String) = "min.loop" := by decide
  refine call_function_tree F.kind_min F.plain_min F.entry_min (F.args_min2 _ _) ?_
  show wpAny _ A.in1 (Builtin.Builtins.bindParams "min" ["key", "default"] 0 ⟨[], []⟩ >>= _) _ _ s
  refine wpAny_bind (wpAny_of_eq (show Builtin.Builtins.bindParams "min" ["key", "default"] 0 ⟨[], []⟩ = pure [none, none] from rfl) ?_)
  show wpAny _ A.in1 (newTuple [a, b] >>= _) _ _ s
  refine wpAny_bind (wpAny_newObj_type ?_)
  have hT : (s.heap.push { cls := .type "tuple", data := .seq #[a, b] }).IsTuple s.heap.objs.size #[a, b] := ⟨_, Heap.get?_push_size _ rfl, rfl, 0, rfl⟩
  have hsz : (s.heap.push { cls := .type "tuple", data := .seq #[a, b] }).objs.size = s.heap.objs.size + 1 := Heap.size_push ..
  refine wpAny_bind (wpAny_pyIter_tuple hT ?_)
  refine wpAny_bind (wpAny_newObj_type ?_)
  rw [hname]
  have hne : s.heap.objs.size ≠ (s.heap.push { cls := .type "tuple", data := .seq #[a, b] }).objs.size := by rw [hsz]; exact Nat.ne_of_lt (Nat.lt_succ_self _)
  have W := Walks.tuple (prog := prog) (w := w) (A := A.in1) hh (s.heap.push { cls := .type "tuple", data := .seq #[a, b] }).objs.size s.heap.objs.size hne #[a, b]
  generalize hI : (s.heap.push { cls := .type "tuple", data := .seq #[a, b] }).objs.size = I at W hne
  have hHf : ∀ (h1 h2 : Heap), (∀ c o, c ∉ [I] → c ≠ I + 1 → h1.get? c = some o → h2.get? c = some o) → (∀ c o, s.heap.get? c = some o → h1.get? c = some o) → ∀ c o, s.heap.get? c = some o → h2.get? c = some o := fun h1 h2 k0 k1 c o e => by
    have lt : c < s.heap.objs.size := Heap.lt_size e
    refine k0 c o (fun z => ?_) (fun z => ?_) (k1 c o e)
    · have z : c = I := by simpa using z
      rw [z, ← hI, hsz] at lt
      exact Nat.lt_irrefl _ (Nat.lt_of_succ_lt lt)
    · rw [z, ← hI, hsz] at lt
      exact Nat.lt_irrefl _ (Nat.lt_of_succ_lt (Nat.lt_of_succ_lt lt))
  have sz2 : ∀ ob : Obj, ((s.heap.push { cls := .type "tuple", data := .seq #[a, b] }).push ob).objs.size = I + 1 := fun ob => by rw [Heap.size_push, hI]
  refine wpAny_pure ⟨plainId_quiet F.plain_min_loop _, codeAny_min_loop_firstH (Hf := fun h1 => ∀ c o, s.heap.get? c = some o → h1.get? c = some o) W (fun i j => k) (fun i j vi vj s' Q' E' h1 h2 hH hi hj hq => ?_) _ ?_ (by rw [sz2]; exact hHf) (show 0 < 2 by decide) ?_ ?_ (Heap.get?_push_size _ rfl) ?_⟩
  · have h2 : i < 2 := h2
    have e1 : i = 1 := by omega
    have e2 : j = 0 := by omega
    subst e1; subst e2
    cases (show some b = some vi from hi)
    cases (show some a = some vj from hj)
    exact hcmp s' Q' E' hH hq
  · rw [sz2]
    intro z
    rcases List.mem_cons.mp z with z | z
    · exact absurd z (Nat.ne_of_gt (Nat.lt_succ_self _))
    · have z : I + 1 = s.heap.objs.size := by simpa using z
      rw [← hI, hsz] at z
      have : s.heap.objs.size + 1 + 1 ≠ s.heap.objs.size := by omega
      exact this z
  · refine ⟨⟨_, Heap.get?_push_of_some _ (by rw [← hI]; exact Heap.get?_push_size _ rfl), rfl, rfl⟩, ?_⟩
    exact hT.at fun o e => Heap.get?_push_of_some _ (Heap.get?_push_of_some _ e)
  · exact fun c o e => Heap.get?_push_of_some _ (Heap.get?_push_of_some _ (Heap.get?_push_of_some _ e))
  · intro v h' tk hP hk
    have hv : v = if k then b else a := by
      have hP : #[a, b][argBest (fun _ _ => k) 1]? = some v := hP
      cases k with
      | true => exact (Option.some.inj (show some b = some v from hP)).symm
      | false => exact (Option.some.inj (show some a = some v from hP)).symm
    rw [hv]
    refine h h' tk fun c o e => ?_
    rw [sz2] at hk
    exact hHf _ _ hk (fun c o e => Heap.get?_push_of_some _ (Heap.get?_push_of_some _ (Heap.get?_push_of_some _ e))) c o e
/-- min(t, u) of tuples of numbers -/
theorem call_minT {X : Cx} (hu : X.A.units + 1 < cLine) (hc : X.calm = true) : CallR X (.builtin "min") (fun xs H Q => ∃ a b ns ms, xs = [.ref a, .ref b] ∧ SqT X.K H a (ns.map V.int) ∧ SqT X.K H b (ms.map V.int) ∧ Q (.ref (if HT.lexLt ms ns then b else a)) H) := by
  intro pins s σ H xs us Q I r h
  obtain ⟨a, b, ns, ms, rfl, ha, hb, q⟩ := h
  obtain ⟨u, w', rfl, r1, r2⟩ := vals2 r
  cases r1
  cases r2
  obtain ⟨its, r1, p1, _⟩ := I.tuple ha
  obtain ⟨its2, r2, p2, _⟩ := I.tuple hb
  have i1 : IntsAre its.toArray.toList ns := intsAre_of r1
  have i2 : IntsAre its2.toArray.toList ms := intsAre_of r2
  refine min_two_cmp (k := HT.lexLt ms ns) (I.ok.hd hc) (fun s' Q' E' hk hq => ?_) fun h' tk k => ?_
  · have t1 : s'.heap.IsTuple a its.toArray := (show s.heap.IsTuple a its.toArray from p1).at fun o e => hk a o e
    have t2 : s'.heap.IsTuple b its2.toArray := (show s.heap.IsTuple b its2.toArray from p2).at fun o e => hk b o e
    exact HT.lt_tupInts t2 t1 i2 i1 hu hq
  · cases e : HT.lexLt ms ns with
    | true =>
      rw [e] at q
      exact ⟨.ref b, H, I.kept k, rfl, q⟩
    | false =>
      rw [e] at q
      exact ⟨.ref a, H, I.kept k, rfl, q⟩
theorem cr_sumT {X : Cx} (hc : X.calm = true) : CallR X (.builtin "sum") (fun vs H Q => ∃ (a : Addr) (ns : List Int), vs = [V.ref a] ∧ SqT X.K H a (ns.map V.int) ∧ Q (.int ns.sum) H) := by
  intro pins s σ H vs us Q I r h
  obtain ⟨a, ns, rfl, hs, q⟩ := h
  obtain ⟨its, rv, ht, _⟩ := I.tuple hs
  rw [Vals.ref1 r]
  have hi : IntsAre its ns := rv.ints
  obtain ⟨xs, e⟩ := hi.allInts.items
  have hn : numsOf (intItems xs).toList = ns := by rw [← e]; exact hi.numsOf
  rw [nums_intItems] at hn
  have hl : s.heap.IsTuple a its.toArray := ht
  rw [e] at hl
  refine PySem.W.ktm_sumG (I.ok.hd hc) hl fun h' tk t' hk => ⟨.int ns.sum, H, I.kept hk, ⟨t', ?_⟩, q⟩
  rw [preSum_eq, List.take_of_length_le (by simp), hn]
end
end Mi

set_option linter.all false
set_option maxRecDepth 100000
set_option maxHeartbeats 2000000
namespace Mi
open PySem PySem.Spec PyProof.Rows L2

/-- nothing is let out -/
abbrev W0 : WX := fun _ _ _ _ => False
section
variable (K : PySem.W.Frag) (fa : Nat → Option Addr) (XR : Nat → List D → Value → Option Addr → Hp → List Addr → Prop)
/-- a two-place operation by values -/
def oR (p : Prim) : R2 := fun x y H Q => ∃ m s d e, RelS K fa H m s ∧ Rp K fa H m d x ∧ Rp K fa H m e y ∧ Post K fa XR (Rp K fa) W0 [] H m (prim p [d, e] s) Q
def uR (p : Prim) : V → Hp → VK → Prop := fun x H Q => ∃ m s d, RelS K fa H m s ∧ Rp K fa H m d x ∧ Post K fa XR (Rp K fa) W0 [] H m (prim p [d] s) Q
def cR (p : Prim) : List V → Hp → VK → Prop := fun xs H Q => ∃ m s ds, RelS K fa H m s ∧ RpL K fa H m ds xs ∧ Post K fa XR (Rp K fa) W0 [] H m (prim p ds s) Q
end
section
variable {X : Cx} {fa : Nat → Option Addr} {XR : Nat → List D → Value → Option Addr → Hp → List Addr → Prop} {H : Hp} {m : List Addr} {s : S}
theorem rl2 {d e : D} {xs : List V} (h : RpL X.K fa H m [d, e] xs) : ∃ x y, xs = [x, y] ∧ Rp X.K fa H m d x ∧ Rp X.K fa H m e y := by
  obtain ⟨x, r, rfl, h1, y, r2, rfl, h2, h3⟩ := h
  rw [show r2 = [] from h3]
  exact ⟨x, y, rfl, h1, h2⟩
theorem rl3 {d e g : D} {xs : List V} (h : RpL X.K fa H m [d, e, g] xs) : ∃ x y z, xs = [x, y, z] ∧ Rp X.K fa H m d x ∧ Rp X.K fa H m e y ∧ Rp X.K fa H m g z := by
  obtain ⟨x, r, e1, h1, y, r2, e2, h2, z, r3, e3, h3, e4⟩ := h
  rw [show r3 = [] from e4] at e3
  subst e3; subst e2; subst e1
  exact ⟨x, y, z, rfl, h1, h2, h3⟩
theorem rl1 {d : D} {xs : List V} (h : RpL X.K fa H m [d] xs) : ∃ x, xs = [x] ∧ Rp X.K fa H m d x := by
  obtain ⟨x, r, rfl, h1, h3⟩ := h
  rw [show r = [] from h3]
  exact ⟨x, rfl, h1⟩

theorem big64 {i : Int} (h : i.natAbs < 18446744073709551616) : -(2 ^ 64) < i ∧ i < 2 ^ 64 := by omega
theorem o_add : OpR X (binaryOp .Add) (oR X.K fa XR .add) := by
  intro pins st σ H x y v u Q I rx ry ⟨m, s, d, e, R, hd, he, h⟩
  cases d <;> cases e <;> first
    | exact False.elim h
    | skip
  case int.int i j =>
    cases hd; cases he
    exact op_add pins st σ H _ _ v u Q I rx ry ⟨i, j, rfl, rfl, post_ok h R rfl⟩
  case tup.tup a b =>
    have h : Post X.K fa XR (Rp X.K fa) W0 [] H m (if a.length + b.length < 16777216 then .ok (.tup (a ++ b)) s else .no) Q := h
    split at h
    · rename_i hz
      obtain ⟨p, vs, rfl, hp, ra⟩ := hd
      obtain ⟨q, ws, rfl, hq, rb⟩ := he
      refine op_catA pins st σ H _ _ v u Q I rx ry ⟨p, q, vs, ws, rfl, rfl, hp, hq, by rw [← ra.length, ← rb.length, sizeLine_eq]; omega, fun e0 => ?_, fun _ e0 => ?_, fun _ _ t ht => ?_⟩
      · subst e0
        have ea : a = [] := List.length_eq_zero_iff.mp (by rw [ra.length]; rfl)
        subst ea
        exact post_ok h R ⟨q, ws, rfl, hq, rb⟩
      · subst e0
        have ea : b = [] := List.length_eq_zero_iff.mp (by rw [rb.length]; rfl)
        subst ea
        rw [List.append_nil] at h
        exact post_ok h R ⟨p, vs, rfl, hp, ra⟩
      · exact h (.ref t) _ m (le_new ht) (R.new ht) ⟨t, _, rfl, .inl (.inl upd_same), (ra.append rb).le (le_new ht)⟩
    · exact h.elim
  case ref.ref a b =>
    have h : Post X.K fa XR (Rp X.K fa) W0 [] H m (match s.l[a]?, s.l[b]? with
      | some (.lst xs), some (.lst ys) => newList (xs ++ ys) s
      | _, _ => .no) Q := h
    split at h
    · rename_i xs ys ha hb
      obtain ⟨p, vs, rfl, _, hp, ra⟩ := cell_of R hd ha
      obtain ⟨q, ws, rfl, _, hq, rb⟩ := cell_of R he hb
      have n := post_new h R (ra.append rb)
      exact op_cat pins st σ H _ _ v u Q I rx ry ⟨p, q, vs, ws, rfl, rfl, hp, hq, by rw [← List.length_append]; exact n.1, n.2⟩
    · exact h.elim
theorem o_sub : OpR X (binaryOp .Sub) (oR X.K fa XR .sub) := by
  intro pins st σ H x y v u Q I rx ry ⟨m, s, d, e, R, hd, he, h⟩
  cases d <;> cases e <;> first
    | exact False.elim h
    | skip
  case int.int i j =>
    cases hd; cases he
    exact op_sub pins st σ H _ _ v u Q I rx ry ⟨i, j, rfl, rfl, post_ok h R rfl⟩
theorem RpL.rep {ds : List Mi.D} {vs : List V} (r : RpL X.K fa H m ds vs) : ∀ k : Nat, RpL X.K fa H m (List.replicate k ds).flatten (List.replicate k vs).flatten
  | 0 => rfl
  | k + 1 => by
    rw [List.replicate_succ, List.replicate_succ, List.flatten_cons, List.flatten_cons]
    exact r.append (RpL.rep r k)
theorem o_mul : OpR X (binaryOp .Mult) (oR X.K fa XR .mul) := by
  intro pins st σ H x y v u Q I rx ry ⟨m, s, d, e, R, hd, he, h⟩
  cases d <;> cases e <;> first
    | exact False.elim h
    | skip
  case int.int i j =>
    cases hd; cases he
    have h : Post X.K fa XR (Rp X.K fa) W0 [] H m (if (decide (i.natAbs < 18446744073709551616)) || (decide (j.natAbs < 18446744073709551616)) then .ok (.int (i * j)) s else .no) Q := h
    split at h
    · rename_i hz
      rw [Bool.or_eq_true, decide_eq_true_eq, decide_eq_true_eq] at hz
      exact op_mul pins st σ H _ _ v u Q I rx ry ⟨i, j, rfl, rfl, hz.elim (fun z => .inl (big64 z)) (fun z => .inr (big64 z)), post_ok h R rfl⟩
    · exact h.elim
  case tup.int ds k =>
    cases he
    obtain ⟨p, vs, rfl, hq, r⟩ := hd
    have h : Post X.K fa XR (Rp X.K fa) W0 [] H m (if decide (2 ≤ k) && decide (k ≤ 1000) && decide (ds.length ≤ 1000) && !ds.isEmpty then .ok (.tup (List.replicate k.toNat ds).flatten) s else .no) Q := h
    split at h
    · rename_i hz
      rw [Bool.and_eq_true, Bool.and_eq_true, Bool.and_eq_true, decide_eq_true_eq, decide_eq_true_eq, decide_eq_true_eq] at hz
      obtain ⟨⟨⟨z1, z2⟩, z3⟩, z4⟩ := hz
      refine op_repT pins st σ H _ _ v u Q I rx ry ⟨p, k, vs, rfl, rfl, hq, fun e => ?_, z1, z2, by rw [← r.length]; exact z3, fun q hq => h (.ref q) _ m (le_new hq) (R.new hq) ⟨q, _, rfl, .inl (.inl upd_same), (r.rep k.toNat).le (le_new hq)⟩⟩
      subst e
      have e2 : ds.length = 0 := r.length
      rw [List.length_eq_zero_iff.mp e2] at z4
      cases z4
    · exact h.elim
  case ref.int n k =>
    cases he
    have h : Post X.K fa XR (Rp X.K fa) W0 [] H m (match s.l[n]? with
      | some (.lst xs) => if decide (-9223372036854775808 ≤ k) && decide (k < 9223372036854775808) && decide (xs.length * k.toNat ≤ 16777216) then newList (List.replicate k.toNat xs).flatten s else .no
      | _ => .no) Q := h
    cases ec : s.l[n]? with
    | none => rw [ec] at h; exact h.elim
    | some cl =>
      cases cl with
      | lst xs =>
        rw [ec] at h
        obtain ⟨a, vs, rfl, hm, hu, r⟩ := cell_of R hd ec
        dsimp only at h
        split at h
        · rename_i hz
          rw [Bool.and_eq_true, Bool.and_eq_true, decide_eq_true_eq, decide_eq_true_eq, decide_eq_true_eq] at hz
          exact op_rep pins st σ H _ _ v u Q I rx ry ⟨a, k, vs, rfl, rfl, hu, by omega, by omega, by rw [← r.length, sizeLine_eq]; omega, (post_new h R (r.rep k.toNat)).2⟩
        · exact h.elim
      | dct kvs => rw [ec] at h; exact h.elim
theorem o_fdiv : OpR X (binaryOp .FloorDiv) (oR X.K fa XR .fdiv) := by
  intro pins st σ H x y v u Q I rx ry ⟨m, s, d, e, R, hd, he, h⟩
  cases d <;> cases e <;> first
    | exact False.elim h
    | skip
  case int.int i j =>
    cases hd; cases he
    have h : Post X.K fa XR (Rp X.K fa) W0 [] H m (if decide (j ≠ 0) && decide (j.natAbs < 1073741824) then .ok (.int (i.fdiv j)) s else .no) Q := h
    split at h
    · rename_i hz
      rw [Bool.and_eq_true, decide_eq_true_eq, decide_eq_true_eq] at hz
      exact op_fdivN pins st σ H _ _ v u Q I rx ry ⟨i, j, rfl, rfl, hz, post_ok h R rfl⟩
    · exact h.elim
theorem o_mod : OpR X (binaryOp .Mod) (oR X.K fa XR .mod) := by
  intro pins st σ H x y v u Q I rx ry ⟨m, s, d, e, R, hd, he, h⟩
  cases d <;> cases e <;> first
    | exact False.elim h
    | skip
  case int.int i j =>
    cases hd; cases he
    have h : Post X.K fa XR (Rp X.K fa) W0 [] H m (if decide (j ≠ 0) then .ok (.int (i.fmod j)) s else .no) Q := h
    split at h
    · rename_i hz
      exact op_modN pins st σ H _ _ v u Q I rx ry ⟨i, j, rfl, rfl, of_decide_eq_true hz, post_ok h R rfl⟩
    · exact h.elim
theorem o_pow : OpR X (binaryOp .Pow) (oR X.K fa XR .pow) := by
  intro pins st σ H x y v u Q I rx ry ⟨m, s, d, e, R, hd, he, h⟩
  cases d <;> cases e <;> first
    | exact False.elim h
    | skip
  case int.int i j =>
    cases hd; cases he
    have h : Post X.K fa XR (Rp X.K fa) W0 [] H m (if decide (0 ≤ j) && decide (j ≤ 1000000) && decide (i.natAbs < 18446744073709551616) then .ok (.int (i ^ j.toNat)) s else .no) Q := h
    split at h
    · rename_i hz
      rw [Bool.and_eq_true, Bool.and_eq_true, decide_eq_true_eq, decide_eq_true_eq, decide_eq_true_eq] at hz
      exact op_pow pins st σ H _ _ v u Q I rx ry ⟨i, j, rfl, rfl, ⟨hz.1.1, hz.1.2, by have := hz.2; omega⟩, post_ok h R rfl⟩
    · exact h.elim
theorem u_neg : UnR X (unaryOp .USub) (uR X.K fa XR .neg) := by
  intro pins st σ H x v Q I rx ⟨m, s, d, R, hd, h⟩
  cases d <;> first
    | exact False.elim h
    | skip
  case int i =>
    cases hd
    exact un_neg pins st σ H _ v Q I rx ⟨i, rfl, post_ok h R rfl⟩
theorem o_lt (hu : X.A.units < cLine) : OpR X (compareOp .Lt) (oR X.K fa XR .lt) := by
  intro pins st σ H x y v u Q I rx ry ⟨m, s, d, e, R, hd, he, h⟩
  cases d <;> cases e <;> first
    | exact False.elim h
    | skip
  case int.int i j =>
    cases hd; cases he
    exact op_lt pins st σ H _ _ v u Q I rx ry ⟨i, j, rfl, rfl, post_ok h R rfl⟩
  case tup.tup a b =>
    have h : Post X.K fa XR (Rp X.K fa) W0 [] H m (match intsOf a, intsOf b with
      | some x, some y => .ok (.bl (HT.lexLt x y)) s
      | _, _ => .no) Q := h
    split at h
    · rename_i ns ms ha hb
      obtain ⟨p, vs, rfl, hp, ra⟩ := hd
      obtain ⟨q, ws, rfl, hq, rb⟩ := he
      rw [rp_ints ha ra] at hp
      rw [rp_ints hb rb] at hq
      exact op_ltT hu pins st σ H _ _ v u Q I rx ry ⟨p, q, ns, ms, rfl, rfl, hp, hq, post_ok h R rfl⟩
    · exact h.elim
theorem o_le : OpR X (compareOp .LtE) (oR X.K fa XR .le) := by
  intro pins st σ H x y v u Q I rx ry ⟨m, s, d, e, R, hd, he, h⟩
  cases d <;> cases e <;> first
    | exact False.elim h
    | skip
  case int.int i j =>
    cases hd; cases he
    exact op_le pins st σ H _ _ v u Q I rx ry ⟨i, j, rfl, rfl, post_ok h R rfl⟩
theorem o_gt : OpR X (compareOp .Gt) (oR X.K fa XR .gt) := by
  intro pins st σ H x y v u Q I rx ry ⟨m, s, d, e, R, hd, he, h⟩
  cases d <;> cases e <;> first
    | exact False.elim h
    | skip
  case int.int i j =>
    cases hd; cases he
    exact op_gt pins st σ H _ _ v u Q I rx ry ⟨i, j, rfl, rfl, post_ok h R rfl⟩
theorem o_ge : OpR X (compareOp .GtE) (oR X.K fa XR .ge) := by
  intro pins st σ H x y v u Q I rx ry ⟨m, s, d, e, R, hd, he, h⟩
  cases d <;> cases e <;> first
    | exact False.elim h
    | skip
  case int.int i j =>
    cases hd; cases he
    exact op_ge pins st σ H _ _ v u Q I rx ry ⟨i, j, rfl, rfl, post_ok h R rfl⟩
/-- == as data, or of two ints -/
theorem eqD_of {d e : D} {x y : V} {k : Bool} (R : RelS X.K fa H m s) (hd : Rp X.K fa H m d x) (he : Rp X.K fa H m e y) (h : eqD s.l d e = some k) :
    (∃ i j, x = .int i ∧ y = .int j ∧ k = decide (i = j)) ∨ (∃ a b, Dp X.K H x a ∧ Dp X.K H y b ∧ SeqAt.shaped a = true ∧ SeqAt.shaped b = true ∧ k = PyData.eqv a b) := by
  unfold eqD at h
  split at h
  · rename_i i j
    cases h
    exact .inl ⟨i, j, hd, he, rfl⟩
  · split at h
    · rename_i a b ha hb
      split at h
      · rename_i hs
        rw [Bool.and_eq_true] at hs
        cases h
        exact .inr ⟨a, b, dp_of R 400 ha hd, dp_of R 400 hb he, hs.1, hs.2, rfl⟩
      · cases h
    · cases h
theorem dec_v {i j : Int} : decide (V.int i = V.int j) = decide (i = j) := by
  by_cases e : i = j
  · subst e; simp
  · rw [decide_eq_false e, decide_eq_false (fun z => e (V.int.inj z))]
theorem o_eq (hu : X.A.units + 64 < cLine) : OpR X (compareOp .Eq) (oR X.K fa XR .eq) := by
  intro pins st σ H x y v u Q I rx ry ⟨m, s, d, e, R, hd, he, h⟩
  obtain ⟨k, hk, h⟩ := post_ob (o := eqD s.l d e) (f := fun k => .bl k) h
  rcases eqD_of R hd he hk with ⟨i, j, rfl, rfl, rfl⟩ | ⟨a, b, ha, hb, sa, sb, rfl⟩
  · refine op_eq pins st σ H _ _ v u Q I rx ry ⟨rfl, ?_⟩
    rw [dec_v]
    exact post_ok h R rfl
  · exact op_eqD hu pins st σ H _ _ v u Q I rx ry ⟨a, b, ha, hb, sa, sb, post_ok h R rfl⟩
theorem o_ne (hu : X.A.units + 64 < cLine) : OpR X (compareOp .NotEq) (oR X.K fa XR .ne) := by
  intro pins st σ H x y v u Q I rx ry ⟨m, s, d, e, R, hd, he, h⟩
  obtain ⟨k, hk, h⟩ := post_ob (o := eqD s.l d e) (f := fun k => .bl (!k)) h
  rcases eqD_of R hd he hk with ⟨i, j, rfl, rfl, rfl⟩ | ⟨a, b, ha, hb, sa, sb, rfl⟩
  · refine op_ne pins st σ H _ _ v u Q I rx ry ⟨rfl, ?_⟩
    rw [dec_v]
    exact post_ok h R rfl
  · exact op_neD hu pins st σ H _ _ v u Q I rx ry ⟨a, b, ha, hb, sa, sb, post_ok h R rfl⟩
theorem flat_of {d : D} {x : V} (h : flatD d = true) (r : Rp X.K fa H m d x) : flatV x = true := by
  cases d with
  | non => rw [show x = V.non from r]; rfl
  | bl b => rw [show x = V.bl b from r]; rfl
  | int b => rw [show x = V.int b from r]; rfl
  | str b => rw [show x = V.str b from r]; rfl
  | _ => cases h
theorem flats_of : ∀ {ds : List D} {xs : List V}, ds.all flatD = true → RpL X.K fa H m ds xs → xs.all flatV = true
  | [], _, _, r => by rw [show _ = [] from r]; rfl
  | d :: ds, _, h, r => by
    obtain ⟨v, w, rfl, q, q2⟩ := r
    rw [List.all_cons, Bool.and_eq_true] at h
    rw [List.all_cons, flat_of h.1 q, flats_of h.2 q2]; rfl
theorem eqF_of {a b : D} {x y : V} (ha : flatD a = true) (hb : flatD b = true) (ra : Rp X.K fa H m a x) (rb : Rp X.K fa H m b y) : eqF a b = eqV x y := by
  cases a <;> first
    | (exfalso; exact Bool.false_ne_true ha)
    | skip
  all_goals
    cases ra
    cases b <;> first
      | (exfalso; exact Bool.false_ne_true hb)
      | skip
  all_goals
    cases rb
    first
      | rfl
      | (show decide _ = (_ == _); rw [Bool.beq_eq_decide_eq])
theorem any_of {a : D} {x : V} (ha : flatD a = true) (ra : Rp X.K fa H m a x) : ∀ {ds : List D} {xs : List V}, ds.all flatD = true → RpL X.K fa H m ds xs → (ds.any fun y => eqF y a) = inV x xs
  | [], _, _, r => by rw [show _ = [] from r]; rfl
  | d :: ds, _, h, r => by
    obtain ⟨v, w, rfl, q, q2⟩ := r
    rw [List.all_cons, Bool.and_eq_true] at h
    show (eqF d a || ds.any fun y => eqF y a) = (eqV v x || inV x w)
    rw [eqF_of h.1 ha q ra, any_of ha ra h.2 q2]
theorem inD_of {d c : D} {x y : V} {k : Bool} (R : RelS X.K fa H m s) (hd : Rp X.K fa H m d x) (hc : Rp X.K fa H m c y) (h : inD s d c = some k) :
    (∃ p xs, y = .ref p ∧ (SqL X.K H p xs ∨ SqT X.K H p xs) ∧ flatV x = true ∧ xs.all flatV = true ∧ k = inV x xs) ∨
      (∃ a ds, Dp X.K H x a ∧ Dp X.K H y (.list ds) ∧ SeqAt.shaped a = true ∧ SeqAt.shaped (.list ds) = true ∧ k = ds.any fun z => PyData.eqv z a) := by
  unfold inD at h
  split at h
  · cases h
  · rename_i xs hx
    obtain ⟨p, vs, rfl, hq, hr⟩ := items_of R hc hx
    split at h
    · rename_i hf
      rw [Bool.and_eq_true] at hf
      cases h
      exact .inl ⟨p, vs, rfl, hq, flat_of hf.1 hd, flats_of hf.2 hr, any_of hf.1 hd hf.2 hr⟩
    · split at h
      · rename_i n
        split at h
        · rename_i a ds ha hds
          split at h
          · rename_i hs
            rw [Bool.and_eq_true] at hs
            cases h
            have hx2 : s.l[n]? = some (.lst xs) := by
              simp only [itemsOf] at hx
              split at hx
              · cases hx; assumption
              · cases hx
            obtain ⟨p2, vs2, e2, _, hp2, hr2⟩ := cell_of R hc hx2
            cases e2
            exact .inr ⟨a, ds, dp_of R 400 ha hd, .lst (.inl (.inl hp2)) (dps_of R 400 hds hr2), hs.1, hs.2, rfl⟩
          · cases h
        · cases h
      · cases h
theorem o_in (hu : X.A.units + 65 < cLine) : OpR X (compareOp .In) (oR X.K fa XR .inn) := by
  intro pins st σ H x y v u Q I rx ry ⟨m, s, d, e, R, hd, he, h⟩
  obtain ⟨k, hk, h⟩ := post_ob (o := inD s d e) (f := fun k => .bl k) h
  rcases inD_of R hd he hk with ⟨p, xs, rfl, hq, f1, f2, rfl⟩ | ⟨a, b, ha, hb, sa, sb, rfl⟩
  · exact op_in_seq pins st σ H _ _ v u Q I rx ry ⟨p, xs, rfl, hq, f1, f2, post_ok h R rfl⟩
  · exact op_inD hu pins st σ H _ _ v u Q I rx ry ⟨a, b, ha, hb, sa, sb, post_ok h R rfl⟩
theorem o_notin (hu : X.A.units + 65 < cLine) : OpR X (compareOp .NotIn) (oR X.K fa XR .notin) := by
  intro pins st σ H x y v u Q I rx ry ⟨m, s, d, e, R, hd, he, h⟩
  obtain ⟨k, hk, h⟩ := post_ob (o := inD s d e) (f := fun k => .bl (!k)) h
  rcases inD_of R hd he hk with ⟨p, xs, rfl, hq, f1, f2, rfl⟩ | ⟨a, b, ha, hb, sa, sb, rfl⟩
  · exact op_notIn_seq pins st σ H _ _ v u Q I rx ry ⟨p, xs, rfl, hq, f1, f2, post_ok h R rfl⟩
  · exact op_notInD hu pins st σ H _ _ v u Q I rx ry ⟨a, b, ha, hb, sa, sb, post_ok h R rfl⟩
theorem isN_of {d : D} {x : V} (r : Rp X.K fa H m d x) : isNonD d = decide (x = .non) := by
  cases d with
  | non => cases r; rfl
  | bl b => cases r; rfl
  | int b => cases r; rfl
  | str b => cases r; rfl
  | tup ds => obtain ⟨a, vs, rfl, _⟩ := r; rfl
  | lk ds => obtain ⟨a, vs, rfl, _⟩ := r; rfl
  | ref n => obtain ⟨a, rfl, _⟩ := r; rfl
  | fn n => obtain ⟨a, rfl, _⟩ := r; rfl
  | err _ _ _ => obtain ⟨a, rfl, _⟩ := r; rfl
theorem o_isN : OpR X (compareOp .Is) (oR X.K fa XR .isN) := by
  intro pins st σ H x y v u Q I rx ry ⟨m, s, d, e, R, hd, he, h⟩
  cases e <;> first
    | (cases d <;> exact False.elim h)
    | skip
  cases he
  refine op_isN pins st σ H _ _ v u Q I rx ry ⟨rfl, ?_⟩
  rw [← isN_of hd]
  exact post_ok h R rfl
theorem o_notN : OpR X (compareOp .IsNot) (oR X.K fa XR .notN) := by
  intro pins st σ H x y v u Q I rx ry ⟨m, s, d, e, R, hd, he, h⟩
  cases e <;> first
    | (cases d <;> exact False.elim h)
    | skip
  cases he
  refine op_notN pins st σ H _ _ v u Q I rx ry ⟨rfl, ?_⟩
  rw [← isN_of hd]
  exact post_ok h R rfl
/-- a[i] -/
theorem ix_any : IxR X (oR X.K fa XR .ix) := by
  intro val sli pins st σ H x y v u Q I rx ry ⟨m, s, d, e, R, hd, he, h⟩ hs
  cases e <;> first
    | (cases d <;> exact False.elim h)
    | skip
  case int i =>
  cases he
  have h : Post X.K fa XR (Rp X.K fa) W0 [] H m (match itemsOf s d with
    | some xs => ob (ixOf xs i) id s
    | none => .no) Q := h
  split at h
  · rename_i xs hx
    obtain ⟨a, ha, h⟩ := post_ob h
    obtain ⟨p, vs, rfl, hq, hr⟩ := items_of R hd hx
    have hv : ∃ w, atI vs i = some w ∧ Rp X.K fa H m a w := by
      unfold ixOf atI at ha
      unfold atI
      rw [← hr.length]
      cases hj : ixN xs.length i with
      | none => rw [hj] at ha; cases ha
      | some j =>
        rw [hj] at ha
        exact hr.get ha
    obtain ⟨w, hw, rw'⟩ := hv
    rcases hq with hq | hq
    · exact ix_list val sli pins st σ H _ _ v u Q I rx ry ⟨p, vs, i, w, rfl, rfl, hq, hw, post_ok h R rw'⟩ hs
    · exact ix_tup val sli pins st σ H _ _ v u Q I rx ry ⟨p, vs, i, w, rfl, rfl, hq, hw, post_ok h R rw'⟩ hs
  · exact h.elim
end
end Mi

set_option linter.all false
set_option maxRecDepth 100000
set_option maxHeartbeats 2000000
namespace Mi
open PySem PySem.Spec PyProof.Rows L2

section
variable {X : Cx} {fa : Nat → Option Addr} {XR : Nat → List D → Value → Option Addr → Hp → List Addr → Prop} {H : Hp} {m : List Addr} {s : S}
def noSlice : Expr → Bool
  | .Slice _ _ _ _ => false
  | _ => true
theorem plainIx {b : Expr} (h : noSlice b = true) : PlainIx b := fun o i => by
  cases b <;> first | rfl | cases h
theorem rlOne {ds : List D} {vs : List V} {d : D} (h : RpL X.K fa H m ds vs) (e : ds = [d]) : ∃ x, vs = [x] ∧ Rp X.K fa H m d x := by subst e; exact rl1 h
/-- one argument -/
theorem one {p : Prim} {ds : List D} {vs : List V} {Q : VK} (hr : RpL X.K fa H m ds vs) (h : Post X.K fa XR (Rp X.K fa) W0 [] H m (prim p ds s) Q) (hp : ∀ ds : List D, (∀ d, ds ≠ [d]) → prim p ds s = .no) :
    ∃ d x, ds = [d] ∧ vs = [x] ∧ Rp X.K fa H m d x ∧ Post X.K fa XR (Rp X.K fa) W0 [] H m (prim p [d] s) Q := by
  match ds, hr, h with
  | [d], hr, h =>
    obtain ⟨x, e, r⟩ := rl1 hr
    exact ⟨d, x, rfl, e, r, h⟩
  | [], hr, h => rw [hp [] (by simp)] at h; exact h.elim
  | a :: b :: r, hr, h => rw [hp (a :: b :: r) (by simp)] at h; exact h.elim
theorem c_len : CallR X (.builtin "len") (cR X.K fa XR .len) := by
  intro pins st σ H xs us Q I rx ⟨m, s, ds, R, hr, h⟩
  obtain ⟨d, x, rfl, rfl, r, h⟩ := one hr h fun ds hd => by
    match ds, hd with
    | [], _ => rfl
    | [d], hd => exact absurd rfl (hd d)
    | a :: b :: r, _ => cases a <;> rfl
  have seq : ∀ {d}, Rp X.K fa H m d x → Post X.K fa XR (Rp X.K fa) W0 [] H m (ob (itemsOf s d) (fun xs => .int xs.length) s) Q → wpAny (model X.prog X.w) X.A (call (.builtin "len") us) (EP X pins σ Q) X.xe st := fun r h => by
    obtain ⟨ys, hy, h⟩ := post_ob h
    obtain ⟨p, vs, rfl, hq, hr2⟩ := items_of R r hy
    refine call_len_seq pins st σ H _ us Q I rx ⟨p, vs, rfl, hq, ?_⟩
    rw [← hr2.length]
    exact post_ok h R rfl
  cases d with
  | str z =>
    have h : Post X.K fa XR (Rp X.K fa) W0 [] H m (if z.length < 16777216 then .ok (.int z.length) s else .no) Q := h
    split at h
    · rename_i hz
      cases r
      exact call_len_str pins st σ H _ us Q I rx ⟨z, rfl, by rw [sizeLine_eq]; omega, post_ok h R rfl⟩
    · exact h.elim
  | _ => exact seq r h
theorem c_abs : CallR X (.builtin "abs") (cR X.K fa XR .abs) := by
  intro pins st σ H xs us Q I rx ⟨m, s, ds, R, hr, h⟩
  obtain ⟨d, x, rfl, rfl, r, h⟩ := one hr h fun ds hd => by
    match ds, hd with
    | [], _ => rfl
    | [d], hd => exact absurd rfl (hd d)
    | a :: b :: r, _ => cases a <;> rfl
  cases d <;> first
    | exact False.elim h
    | skip
  cases r
  exact call_abs pins st σ H _ us Q I rx ⟨_, rfl, post_ok h R rfl⟩
theorem c_int : CallR X (.type "int") (cR X.K fa XR .toInt) := by
  intro pins st σ H xs us Q I rx ⟨m, s, ds, R, hr, h⟩
  obtain ⟨d, x, rfl, rfl, r, h⟩ := one hr h fun ds hd => by
    match ds, hd with
    | [], _ => rfl
    | [d], hd => exact absurd rfl (hd d)
    | a :: b :: r, _ => cases a <;> rfl
  cases d <;> first
    | exact False.elim h
    | skip
  · cases r
    exact call_int1 pins st σ H _ us Q I rx (.inr ⟨_, rfl, post_ok h R rfl⟩)
  · cases r
    exact call_int1 pins st σ H _ us Q I rx (.inl ⟨_, rfl, post_ok h R rfl⟩)
theorem c_list : CallR X (.type "list") (cR X.K fa XR .listOf) := by
  intro pins st σ H xs us Q I rx ⟨m, s, ds, R, hr, h⟩
  obtain ⟨d, x, rfl, rfl, r, h⟩ := one hr h fun ds hd => by
    match ds, hd with
    | [], _ => rfl
    | [d], hd => exact absurd rfl (hd d)
    | a :: b :: r, _ => cases a <;> rfl
  have h : Post X.K fa XR (Rp X.K fa) W0 [] H m (match itemsOf s d with
    | some xs => newList xs s
    | none => .no) Q := h
  split at h
  · rename_i ys hy
    obtain ⟨p, vs, rfl, hq, hr2⟩ := items_of R r hy
    exact call_list_of pins st σ H _ us Q I rx ⟨p, vs, rfl, hq, (post_new h R hr2).2⟩
  · exact h.elim
theorem c_tuple : CallR X (.type "tuple") (cR X.K fa XR .tupleOf) := by
  intro pins st σ H xs us Q I rx ⟨m, s, ds, R, hr, h⟩
  obtain ⟨d, x, rfl, rfl, r, h⟩ := one hr h fun ds hd => by
    match ds, hd with
    | [], _ => rfl
    | [d], hd => exact absurd rfl (hd d)
    | a :: b :: r, _ => cases a <;> rfl
  have gen : ∀ {d}, (∀ ys, d ≠ .tup ys) → Rp X.K fa H m d x → Post X.K fa XR (Rp X.K fa) W0 [] H m (ob (itemsOf s d) (fun xs => .tup xs) s) Q → wpAny (model X.prog X.w) X.A (call (.type "tuple") us) (EP X pins σ Q) X.xe st := fun {d} nt r h => by
    obtain ⟨ys, hy, h⟩ := post_ob h
    have hl : ∃ p vs, x = .ref p ∧ SqL X.K H p vs ∧ RpL X.K fa H m ys vs := by
      cases d with
      | tup zs => exact absurd rfl (nt zs)
      | lk zs =>
        cases hy
        obtain ⟨a, vs, rfl, q, z⟩ := r
        exact ⟨a, vs, rfl, q.l, z⟩
      | ref n =>
        simp only [itemsOf] at hy
        split at hy
        · rename_i zs hz
          cases hy
          obtain ⟨a, vs, rfl, _, q, z⟩ := cell_of R r hz
          exact ⟨a, vs, rfl, .inl (.inl q), z⟩
        · cases hy
      | non => cases hy
      | bl _ => cases hy
      | int _ => cases hy
      | str _ => cases hy
      | fn _ => cases hy
      | err _ _ _ => cases hy
    obtain ⟨p, vs, rfl, hq, hr2⟩ := hl
    refine call_tuple_of pins st σ H _ us Q I rx ⟨p, vs, rfl, .inl ⟨hq, fun l hl => ?_⟩⟩
    exact h (.ref l) _ m (le_new hl) (R.new hl) ⟨l, vs, rfl, .inl (.inl upd_same), hr2.le (le_new hl)⟩
  cases d with
  | tup ys =>
    obtain ⟨p, vs, rfl, hq, hr2⟩ := r
    exact call_tuple_of pins st σ H _ us Q I rx ⟨p, vs, rfl, .inr ⟨hq, post_ok (d := .tup ys) h R ⟨p, vs, rfl, hq, hr2⟩⟩⟩
  | lk ys => exact gen (fun _ z => by cases z) r h
  | ref n => exact gen (fun _ z => by cases z) r h
  | non => exact gen (fun _ z => by cases z) r h
  | bl _ => exact gen (fun _ z => by cases z) r h
  | int _ => exact gen (fun _ z => by cases z) r h
  | str _ => exact gen (fun _ z => by cases z) r h
  | fn _ => exact gen (fun _ z => by cases z) r h
  | err _ _ _ => exact gen (fun _ z => by cases z) r h
theorem c_sum (hc : X.calm = true) : CallR X (.builtin "sum") (cR X.K fa XR .sum) := by
  intro pins st σ H xs us Q I rx ⟨m, s, ds, R, hr, h⟩
  obtain ⟨d, x, rfl, rfl, r, h⟩ := one hr h fun ds hd => by
    match ds, hd with
    | [], _ => rfl
    | [d], hd => exact absurd rfl (hd d)
    | a :: b :: r, _ => cases a <;> rfl
  cases d with
  | ref n =>
    have h : Post X.K fa XR (Rp X.K fa) W0 [] H m (match s.l[n]? with
      | some (.lst xs) => ob (intsOf xs) (fun is => .int is.sum) s
      | _ => .no) Q := h
    split at h
    · rename_i ys hy
      obtain ⟨a, vs, rfl, _, q, z⟩ := cell_of R r hy
      obtain ⟨is, hi, h⟩ := post_ob h
      rw [rp_ints hi z] at q
      exact cr_sum hc pins st σ H _ us Q I rx ⟨a, is, rfl, .inl (.inl q), post_ok h R rfl⟩
    · exact h.elim
  | tup xs =>
    obtain ⟨is, hi, h⟩ := post_ob (o := intsOf xs) (f := fun is => .int is.sum) h
    obtain ⟨p, ws, rfl, hq, rk⟩ := r
    rw [rp_ints hi rk] at hq
    exact cr_sumT hc pins st σ H _ us Q I rx ⟨p, is, rfl, hq, post_ok h R rfl⟩
  | _ => exact False.elim h
theorem c_all (hc : X.calm = true) : CallR X (.builtin "all") (cR X.K fa XR .all) := by
  intro pins st σ H xs us Q I rx ⟨m, s, ds, R, hr, h⟩
  obtain ⟨d, x, rfl, rfl, r, h⟩ := one hr h fun ds hd => by
    match ds, hd with
    | [], _ => rfl
    | [d], hd => exact absurd rfl (hd d)
    | a :: b :: r, _ => cases a <;> rfl
  cases d with
  | ref n =>
    have h : Post X.K fa XR (Rp X.K fa) W0 [] H m (match s.l[n]? with
      | some (.lst xs) => ob (boolsOf xs) (fun bs => .bl (bs.all id)) s
      | _ => .no) Q := h
    split at h
    · rename_i ys hy
      obtain ⟨a, vs, rfl, _, q, z⟩ := cell_of R r hy
      obtain ⟨is, hi, h⟩ := post_ob h
      rw [rp_bools hi z] at q
      exact cr_all hc pins st σ H _ us Q I rx ⟨a, is, rfl, .inl (.inl q), post_ok h R rfl⟩
    · exact h.elim
  | _ => exact False.elim h
theorem c_any (hc : X.calm = true) : CallR X (.builtin "any") (cR X.K fa XR .any) := by
  intro pins st σ H xs us Q I rx ⟨m, s, ds, R, hr, h⟩
  obtain ⟨d, x, rfl, rfl, r, h⟩ := one hr h fun ds hd => by
    match ds, hd with
    | [], _ => rfl
    | [d], hd => exact absurd rfl (hd d)
    | a :: b :: r, _ => cases a <;> rfl
  cases d with
  | ref n =>
    have h : Post X.K fa XR (Rp X.K fa) W0 [] H m (match s.l[n]? with
      | some (.lst xs) => ob (boolsOf xs) (fun bs => .bl (bs.any id)) s
      | _ => .no) Q := h
    split at h
    · rename_i ys hy
      obtain ⟨a, vs, rfl, _, q, z⟩ := cell_of R r hy
      obtain ⟨is, hi, h⟩ := post_ob h
      rw [rp_bools hi z] at q
      exact cr_any hc pins st σ H _ us Q I rx ⟨a, is, rfl, .inl (.inl q), post_ok h R rfl⟩
    · exact h.elim
  | _ => exact False.elim h
/-- two arguments -/
theorem two {p : Prim} {ds : List D} {vs : List V} {Q : VK} (hr : RpL X.K fa H m ds vs) (h : Post X.K fa XR (Rp X.K fa) W0 [] H m (prim p ds s) Q) (hp : ∀ ds : List D, (∀ d e, ds ≠ [d, e]) → prim p ds s = .no) :
    ∃ d e x y, ds = [d, e] ∧ vs = [x, y] ∧ Rp X.K fa H m d x ∧ Rp X.K fa H m e y ∧ Post X.K fa XR (Rp X.K fa) W0 [] H m (prim p [d, e] s) Q := by
  match ds, hr, h with
  | [d, e], hr, h =>
    obtain ⟨x, y, ev, r, r2⟩ := rl2 hr
    exact ⟨d, e, x, y, rfl, ev, r, r2, h⟩
  | [], hr, h => rw [hp [] (by simp)] at h; exact h.elim
  | [a], hr, h => rw [hp [a] (by simp)] at h; exact h.elim
  | a :: b :: c :: r, hr, h => rw [hp (a :: b :: c :: r) (by simp)] at h; exact h.elim
theorem c_min2 (hu : X.A.units + 1 < cLine) (hc : X.calm = true) : CallR X (.builtin "min") (cR X.K fa XR .min2) := by
  intro pins st σ H xs us Q I rx ⟨m, s, ds, R, hr, h⟩
  obtain ⟨d, e, x, y, rfl, rfl, r, r2, h⟩ := two hr h fun ds hd => by
    match ds, hd with
    | [], _ => rfl
    | [d], _ => cases d <;> rfl
    | [d, e], hd => exact absurd rfl (hd d e)
    | a :: b :: c :: r, _ => cases a <;> cases b <;> rfl
  cases d <;> cases e <;> first
    | exact False.elim h
    | skip
  case int.int i j =>
    cases r; cases r2
    exact call_min2 hc pins st σ H _ us Q I rx ⟨_, _, rfl, post_ok h R rfl⟩
  case tup.tup a b _ =>
    have h : Post X.K fa XR (Rp X.K fa) W0 [] H m (match intsOf a, intsOf b with
      | some x, some y => .ok (if HT.lexLt y x then .tup b else .tup a) s
      | _, _ => .no) Q := h
    split at h
    · rename_i ns ms ha hb
      obtain ⟨p, vs, rfl, hp, ra⟩ := id r
      obtain ⟨q, ws, rfl, hq, rb⟩ := id r2
      rw [rp_ints ha ra] at hp
      rw [rp_ints hb rb] at hq
      refine call_minT hu hc pins st σ H _ us Q I rx ⟨p, q, ns, ms, rfl, hp, hq, ?_⟩
      cases e : HT.lexLt ms ns with
      | true =>
        rw [e] at h
        exact post_ok h R r2
      | false =>
        rw [e] at h
        exact post_ok h R r
    · exact h.elim
theorem c_max2 (hc : X.calm = true) : CallR X (.builtin "max") (cR X.K fa XR .max2) := by
  intro pins st σ H xs us Q I rx ⟨m, s, ds, R, hr, h⟩
  obtain ⟨d, e, x, y, rfl, rfl, r, r2, h⟩ := two hr h fun ds hd => by
    match ds, hd with
    | [], _ => rfl
    | [d], _ => cases d <;> rfl
    | [d, e], hd => exact absurd rfl (hd d e)
    | a :: b :: c :: r, _ => cases a <;> cases b <;> rfl
  cases d <;> cases e <;> first
    | exact False.elim h
    | skip
  cases r; cases r2
  exact call_max2 hc pins st σ H _ us Q I rx ⟨_, _, rfl, post_ok h R rfl⟩
/-- a slice of a tuple, of a list -/
def slR (K : PySem.W.Frag) (fa : Nat → Option Addr) (XR : Nat → List D → Value → Option Addr → Hp → List Addr → Prop) : V → Option Int → Option Int → Hp → VK → Prop := fun x lo hi H Q =>
  ∃ m s d, RelS K fa H m s ∧ Rp K fa H m d x ∧ Post K fa XR (Rp K fa) W0 [] H m (slD s d lo hi) Q
theorem cut_of {xs : List D} {vs : List V} (lo hi : Option Int) (r : RpL X.K fa H m xs vs) : RpL X.K fa H m (cutD xs lo hi) (cutV vs lo hi) := by
  unfold cutD cutV
  rw [r.length]
  exact (r.drop _).take _
theorem cut_all {α : Type} {xs : List α} {a b : Nat} (ha : a = 0) (hb : b = xs.length) : (xs.drop a).take (b - a) = xs := by
  subst ha; subst hb; simp
theorem sl_any : SlR X (slR X.K fa XR) := by
  intro pins st σ H x v vl vu lo hi sl Q I rx hs pl pu ⟨m, s, d, R, hd, h⟩
  have viaL : ∀ {p vs xs}, x = .ref p → SqL X.K H p vs → RpL X.K fa H m xs vs → Post X.K fa XR (Rp X.K fa) W0 [] H m (newList (cutD xs lo hi) s) Q → _ := fun {p vs xs} e hq hr h =>
    sl_list pins st σ H x v vl vu lo hi sl Q I rx hs pl pu ⟨p, vs, e, hq, (post_new h R (cut_of lo hi hr)).2⟩
  cases d with
  | tup xs =>
    obtain ⟨p, vs, rfl, hq, hr⟩ := hd
    refine sl_tupA pins st σ H _ v vl vu lo hi sl Q I rx hs pl pu ⟨p, vs, rfl, hq, fun hw => ?_, fun _ t ht => ?_⟩
    · refine post_ok (d := .tup (cutD xs lo hi)) h R ⟨p, vs, rfl, hq, ?_⟩
      have := cut_of lo hi hr
      unfold cutV at this
      rw [cut_all hw.1 hw.2] at this
      exact this
    · exact h (.ref t) _ m (le_new ht) (R.new ht) ⟨t, _, rfl, .inl (.inl upd_same), (cut_of lo hi hr).le (le_new ht)⟩
  | lk xs =>
    obtain ⟨p, vs, e, hq, hr⟩ := hd
    exact viaL e hq.l hr h
  | ref n =>
    have h : Post X.K fa XR (Rp X.K fa) W0 [] H m (match s.l[n]? with
      | some (.lst xs) => newList (cutD xs lo hi) s
      | _ => .no) Q := h
    split at h
    · rename_i xs hx
      obtain ⟨p, vs, e, _, hq, hr⟩ := cell_of R hd hx
      exact viaL e (.inl (.inl hq)) hr h
    · exact h.elim
  | _ => exact False.elim h
end
end Mi

set_option linter.all false
set_option maxRecDepth 100000
set_option maxHeartbeats 2000000
namespace Mi
open PySem PySem.Spec PyProof.Rows L2

/-! ### readings by the short program -/
section
variable (K : PySem.W.Frag) (fa : Nat → Option Addr) (XR : Nat → List D → Value → Option Addr → Hp → List Addr → Prop) (F : Funs) (W : WX)
def tI (e : CE) : TE := fun σ H Q => ∃ m ρ s, RelS K fa H m s ∧ EnvR K fa H m σ ρ ∧ Post K fa XR (Rp K fa) W σ H m (ev F e ρ s) Q
/-- a test's -/
def Eqb (_ : Hp) (_ : List Addr) (a b : Bool) : Prop := a = b
def tT (e : CE) : TT := fun σ H Q => ∃ m ρ s, RelS K fa H m s ∧ EnvR K fa H m σ ρ ∧ Post K fa XR Eqb W σ H m (tst (ev F e ρ s)) Q
def tA (es : CEs) : TA := fun σ H Q => ∃ m ρ s, RelS K fa H m s ∧ EnvR K fa H m σ ρ ∧ Post K fa XR (RpL K fa) W σ H m (evs F es ρ s) Q
end
theorem PE.imp {X : Cx} {e : Expr} {t t' : TE} (h : PE X e t) (i : ∀ σ H Q, t' σ H Q → t σ H Q) : PE X e t' := ⟨fun pins s σ H Q I q => h.run pins s σ H Q I (i σ H Q q)⟩
theorem PT.imp {X : Cx} {e : Expr} {t t' : TT} (h : PT X e t) (i : ∀ σ H Q, t' σ H Q → t σ H Q) : PT X e t' := ⟨fun pins s σ H Q I q => h.run pins s σ H Q I (i σ H Q q)⟩
theorem PW.imp {X : Cx} {e : Expr} {t t' : TT} (h : PW X e t) (i : ∀ σ H Q, t' σ H Q → t σ H Q) : PW X e t' := ⟨fun wh pins s σ H Q I q => h.run wh pins s σ H Q I (i σ H Q q)⟩
theorem PA.imp {X : Cx} {e : List Expr} {t t' : TA} (h : PA X e t) (i : ∀ σ H Q, t' σ H Q → t σ H Q) : PA X e t' := ⟨fun p pins s σ H Q I q => h.run p pins s σ H Q I (i σ H Q q)⟩
theorem PS.imp {X : Cx} {e : Stmt} {t t' : TS} (h : PS X e t) (i : ∀ D σ H, t' D σ H → t D σ H) : PS X e t' := ⟨fun pins s σ H D I q => h.run pins s σ H D I (i D σ H q)⟩
theorem PSs.imp {X : Cx} {e : List Stmt} {t t' : TS} (h : PSs X e t) (i : ∀ D σ H, t' D σ H → t D σ H) : PSs X e t' := ⟨fun pins s σ H D I q => h.run pins s σ H D I (i D σ H q)⟩

section
variable {X : Cx} {fa : Nat → Option Addr} {XR : Nat → List D → Value → Option Addr → Hp → List Addr → Prop} {F : Funs} {W : WX} {a b c : Expr} {ca cb cc : CE} {es : List Expr} {ces : CEs} {pos : Pos}
theorem evs1 {α : Type} {e : CE} {ρ : Env} {s : S} {f : List D → S → R α} : (evs F (.cons e .nil) ρ s).bind f = (ev F e ρ s).bind fun d s1 => f [d] s1 := by
  show (((ev F e ρ s).bind fun d s1 => (R.ok [] s1).bind fun ds s => .ok (d :: ds) s)).bind f = _
  cases ev F e ρ s <;> rfl
theorem evs2 {α : Type} {e e' : CE} {ρ : Env} {s : S} {f : List D → S → R α} : (evs F (.cons e (.cons e' .nil)) ρ s).bind f = (ev F e ρ s).bind fun d s1 => (ev F e' ρ s1).bind fun d' s2 => f [d, d'] s2 := by
  show (((ev F e ρ s).bind fun d s1 => (evs F (.cons e' .nil) ρ s1).bind fun ds s => .ok (d :: ds) s)).bind f = _
  cases ev F e ρ s with
  | ok d s1 =>
    show ((evs F (.cons e' .nil) ρ s1).bind fun ds s => .ok (d :: ds) s).bind f = (ev F e' ρ s1).bind fun d' s2 => f [d, d'] s2
    rw [evs1]
    cases ev F e' ρ s1 <;> rfl
  | ex x fs s1 => rfl
  | no => rfl
theorem evs3 {α : Type} {e e' e2 : CE} {ρ : Env} {s : S} {f : List D → S → R α} : (evs F (.cons e (.cons e' (.cons e2 .nil))) ρ s).bind f = (ev F e ρ s).bind fun d s1 => (ev F e' ρ s1).bind fun d' s2 => (ev F e2 ρ s2).bind fun d2 s3 => f [d, d', d2] s3 := by
  show (((ev F e ρ s).bind fun d s1 => (evs F (.cons e' (.cons e2 .nil)) ρ s1).bind fun ds s => .ok (d :: ds) s)).bind f = _
  cases ev F e ρ s with
  | ok d s1 =>
    show ((evs F (.cons e' (.cons e2 .nil)) ρ s1).bind fun ds s => .ok (d :: ds) s).bind f = (ev F e' ρ s1).bind fun d' s2 => (ev F e2 ρ s2).bind fun d2 s3 => f [d, d', d2] s3
    rw [evs2]
    cases ev F e' ρ s1 with
    | ok d' s2 =>
      show ((ev F e2 ρ s2).bind (fun d2 s3 => R.ok (d :: [d', d2]) s3)).bind f = (ev F e2 ρ s2).bind fun d2 s3 => f [d, d', d2] s3
      cases ev F e2 ρ s2 <;> rfl
    | ex x fs s1 => rfl
    | no => rfl
  | ex x fs s1 => rfl
  | no => rfl
theorem prim_noex {p : Prim} {ds : List D} {s : S} {x : Nat} {fs : List D} {s' : S} : prim p ds s ≠ .ex x fs s' := by
  intro h
  unfold prim at h
  have nl : ∀ xs t, newList xs t ≠ R.ex x fs s' := fun xs t h => by
    unfold newList at h
    split at h <;> cases h
  have no : ∀ {α : Type} (o : Option α) (f : α → D) t, ob o f t ≠ R.ex x fs s' := fun o f t h => by
    cases o <;> cases h
  have ns : ∀ a lo hi, slD s a lo hi ≠ R.ex x fs s' := fun a lo hi h => by
    unfold slD at h
    split at h
    · cases h
    · exact nl _ _ h
    · split at h
      · exact nl _ _ h
      · cases h
    · cases h
  split at h
  all_goals repeat' (first
    | (cases h; done)
    | exact nl _ _ h
    | exact no _ _ _ h
    | exact ns _ _ _ h
    | split at h)
/-- operations let nothing out -/
theorem post_prim {p : Prim} {ds : List D} {s : S} {σ σ' : L2.St} {H : Hp} {m : List Addr} {W W' : WX} {Q : VK} (h : Post X.K fa XR (Rp X.K fa) W σ H m (prim p ds s) Q) : Post X.K fa XR (Rp X.K fa) W' σ' H m (prim p ds s) Q := by
  cases e : prim p ds s with
  | ok d s1 => rw [e] at h; exact h
  | ex x fs s1 => exact absurd e prim_noex
  | no => rw [e] at h; exact h
theorem ti2 {p : Prim} {σ : L2.St} {H : Hp} {Q : VK} (h : tI X.K fa XR F W (.prim p (.cons ca (.cons cb .nil))) σ H Q) : tOp (oR X.K fa XR p) (tI X.K fa XR F W ca) (tI X.K fa XR F W cb) σ H Q := by
  obtain ⟨m, ρ, s, R, E, h⟩ := h
  have h : Post X.K fa XR (Rp X.K fa) W σ H m ((evs F (.cons ca (.cons cb .nil)) ρ s).bind fun ds s => prim p ds s) Q := h
  rw [evs2] at h
  refine ⟨m, ρ, s, R, E, (Post.bind (Re := Rp X.K fa) h).imp fun x H1 ⟨m1, d, s1, l1, R1, r1, _, h1⟩ => ⟨m1, ρ, s1, R1, E.le l1, ?_⟩⟩
  exact (Post.bind (Re := Rp X.K fa) h1).imp fun y H2 ⟨m2, e, s2, l2, R2, r2, _, h2⟩ => ⟨m2, s2, d, e, R2, r1.le l2, r2, post_prim h2⟩
theorem ti1 {p : Prim} {σ : L2.St} {H : Hp} {Q : VK} (h : tI X.K fa XR F W (.prim p (.cons ca .nil)) σ H Q) : tUn (uR X.K fa XR p) (tI X.K fa XR F W ca) σ H Q := by
  obtain ⟨m, ρ, s, R, E, h⟩ := h
  have h : Post X.K fa XR (Rp X.K fa) W σ H m ((evs F (.cons ca .nil) ρ s).bind fun ds s => prim p ds s) Q := h
  rw [evs1] at h
  exact ⟨m, ρ, s, R, E, (Post.bind (Re := Rp X.K fa) h).imp fun x H1 ⟨m1, d, s1, l1, R1, r1, _, h1⟩ => ⟨m1, s1, d, R1, r1, post_prim h1⟩⟩
theorem tiA {p : Prim} {σ : L2.St} {H : Hp} {Q : VK} (h : tI X.K fa XR F W (.prim p ces) σ H Q) : tCB (cR X.K fa XR p) (tA X.K fa XR F W ces) σ H Q := by
  obtain ⟨m, ρ, s, R, E, h⟩ := h
  exact ⟨m, ρ, s, R, E, (Post.bind (Re := RpL X.K fa) (f := fun ds s => prim p ds s) h).imp fun x H1 ⟨m1, d, s1, l1, R1, r1, _, h1⟩ => ⟨m1, s1, d, R1, r1, post_prim h1⟩⟩

/-! ### expressions, one by one -/
theorem e_con {e : Expr} {d : D} {v : V} (h : PE X e (tC v)) (r : ∀ H m, Rp X.K fa H m d v) : PE X e (tI X.K fa XR F W (.con d)) := PE.imp h fun σ H Q ⟨m, ρ, s, R, E, h⟩ => post_ok h R (r H m)
theorem e_var {i : Nat} {x : Str} {p : Pos} (h : PE X (.Name x p) (tVar i)) : PE X (.Name x p) (tI X.K fa XR F W (.var i)) := PE.imp h fun σ H Q ⟨m, ρ, s, R, E, h⟩ => by
  have h : Post X.K fa XR (Rp X.K fa) W σ H m (match ρ[i]? with
    | some (some d) => .ok d s
    | _ => .no) Q := h
  split at h
  · rename_i d e
    obtain ⟨v, e1, r⟩ := E.2 i d e
    exact ⟨v, e1, post_ok h R r⟩
  · exact h.elim
theorem e_bin {op : Operator} {p : Prim} (ho : OpR X (binaryOp op) (oR X.K fa XR p)) (ha : PE X a (tI X.K fa XR F W ca)) (hb : PE X b (tI X.K fa XR F W cb)) : PE X (.BinOp a op b pos) (tI X.K fa XR F W (.prim p (.cons ca (.cons cb .nil)))) :=
  PE.imp (pe_op ho ha hb) fun _ _ _ h => ti2 h
theorem e_neg (ha : PE X a (tI X.K fa XR F W ca)) : PE X (.UnaryOp .USub a pos) (tI X.K fa XR F W (.prim .neg (.cons ca .nil))) := PE.imp (pe_un u_neg ha) fun _ _ _ h => ti1 h
theorem e_cmp {op : CmpOp} {p : Prim} (ho : OpR X (compareOp op) (oR X.K fa XR p)) (ha : PE X a (tI X.K fa XR F W ca)) (hb : PE X b (tI X.K fa XR F W cb)) (hm : behindInMarks op b = false) : PE X (.Compare a [op] [b] pos) (tI X.K fa XR F W (.prim p (.cons ca (.cons cb .nil)))) :=
  PE.imp (pe_cmpR ho ha hb hm) fun _ _ _ h => ti2 h
theorem tru_of {H : Hp} {m : List Addr} {s : S} {d : D} {v : V} {k : Bool} (R : RelS X.K fa H m s) (r : Rp X.K fa H m d v) (h : truth s d = some k) : TruV X.K v H k := by
  have emp : ∀ {ds : List D} {vs : List V}, RpL X.K fa H m ds vs → ds.isEmpty = vs.isEmpty := fun {ds vs} q => by
    have e := q.length
    cases ds <;> cases vs <;> first
      | rfl
      | (rw [List.length_nil, List.length_cons] at e; omega)
  cases d with
  | non => cases r; cases h; rfl
  | bl b => cases r; cases h; rfl
  | int i => cases r; cases h; rfl
  | str x => cases h
  | fn n => cases h
  | err _ _ _ => cases h
  | tup xs =>
    obtain ⟨p, vs, rfl, q, z⟩ := r
    cases h
    exact .inr (.inl ⟨vs, q, by rw [emp z]⟩)
  | lk xs =>
    obtain ⟨p, vs, rfl, q, z⟩ := r
    cases h
    exact .inl ⟨vs, q.l, by rw [emp z]⟩
  | ref n =>
    unfold truth at h
    simp only at h
    split at h
    · rename_i xs hx
      obtain ⟨a, vs, rfl, _, q, z⟩ := cell_of R r hx
      cases h
      exact .inl ⟨vs, .inl (.inl q), by rw [emp z]⟩
    · cases h
theorem tt_of {ce : CE} {σ : L2.St} {H : Hp} {Q : Bool → Hp → Prop} (h : tT X.K fa XR F W ce σ H Q) : tI X.K fa XR F W ce σ H (fun v H' => ∃ k, TruV X.K v H' k ∧ Q k H') := by
  obtain ⟨m, ρ, s, R, E, h⟩ := h
  refine ⟨m, ρ, s, R, E, (Post.bind (Re := Rp X.K fa) h).imp fun v H1 ⟨m1, d, s1, l1, R1, r1, _, h1⟩ => ?_⟩
  cases e : truth s1 d with
  | none => rw [e] at h1; exact h1.elim
  | some k =>
    rw [e] at h1
    exact ⟨k, tru_of R1 r1 e, h1 k H1 m1 Le.refl R1 rfl⟩
/-- an outcome that is True or False -/
def BlOut (r : R D) : Prop := ∀ d s, r = .ok d s → ∃ k, d = .bl k
theorem tb_of {ce : CE} {σ : L2.St} {H : Hp} {Q : Bool → Hp → Prop} (h : tT X.K fa XR F W ce σ H Q) (hb : ∀ ρ s, BlOut (ev F ce ρ s)) : tI X.K fa XR F W ce σ H (fun v H' => ∃ k, v = .bl k ∧ Q k H') := by
  obtain ⟨m, ρ, s, R, E, h⟩ := h
  refine ⟨m, ρ, s, R, E, (Post.bind (Re := Rp X.K fa) h).imp fun v H1 ⟨m1, d, s1, l1, R1, r1, e, h1⟩ => ?_⟩
  obtain ⟨k, rfl⟩ := hb ρ s d s1 e
  cases r1
  exact ⟨k, rfl, h1 k H1 m1 Le.refl R1 rfl⟩
/-- any value, as a test -/
theorem t_any {e : Expr} {ce : CE} (h : PE X e (tI X.K fa XR F W ce)) (he : ∀ whole, isTrue e X.env whole = (do let v ← whole; standAt e.pos; PySem.holding [v] (truthy v))) : PT X e (tT X.K fa XR F W ce) :=
  PT.imp (pt_truth h he) fun _ _ _ h => tt_of h
def isCmp : Prim → Bool
  | .lt => true | .le => true | .gt => true | .ge => true | .eq => true | .ne => true | .inn => true | .notin => true | .isN => true | .notN => true
  | _ => false
theorem cmp_bl {p : Prim} {ds : List D} {s : S} (h : isCmp p = true) : BlOut (prim p ds s) := by
  intro d s' e
  have no : ∀ {α : Type} (o : Option α) (f : α → D) t, (∀ a, ∃ k, f a = .bl k) → ob o f t = R.ok d s' → ∃ k, d = .bl k := fun o f t hf h => by
    cases o with
    | none => cases h
    | some a => cases h; exact hf a
  unfold prim at e
  split at e <;> first
    | (cases h; done)
    | (cases e; exact ⟨_, rfl⟩)
    | (cases e; done)
    | exact no _ _ _ (fun a => ⟨_, rfl⟩) e
    | (split at e <;> first
        | (cases e; exact ⟨_, rfl⟩)
        | (cases e; done))
theorem bind_bl {α : Type} {r : R α} {f : α → S → R D} (h : ∀ a s, BlOut (f a s)) : BlOut (r.bind f) := fun d s e => by
  cases r with
  | ok a s1 => exact h a s1 d s e
  | ex x fs s1 => cases e
  | no => cases e
theorem t_cmp {op : CmpOp} {p : Prim} (hp : isCmp p = true) (ho : OpR X (compareOp op) (oR X.K fa XR p)) (ha : PE X a (tI X.K fa XR F W ca)) (hb : PE X b (tI X.K fa XR F W cb)) (hm : behindInMarks op b = false) : PT X (.Compare a [op] [b] pos) (tT X.K fa XR F W (.prim p (.cons ca (.cons cb .nil)))) :=
  PT.imp (pt_cmpR ho ha hb hm) fun _ _ _ h => ti2 (tb_of h fun _ _ => bind_bl fun _ _ => cmp_bl hp)
theorem ti_chain {p q : Prim} {σ : L2.St} {H : Hp} {Q : VK} (h : tI X.K fa XR F W (.chain p q ca cb cc) σ H Q) :
    tChain (oR X.K fa XR p) (oR X.K fa XR q) (tI X.K fa XR F W ca) (tI X.K fa XR F W cb) (tI X.K fa XR F W cc) σ H Q := by
  obtain ⟨m, ρ, s, R, E, h⟩ := h
  have h : Post X.K fa XR (Rp X.K fa) W σ H m ((ev F ca ρ s).bind fun x s1 => (ev F cb ρ s1).bind fun y s2 => (prim p [x, y] s2).bind fun d s3 => match d with
    | .bl true => (ev F cc ρ s3).bind fun z s4 => prim q [y, z] s4
    | .bl false => .ok (.bl false) s3
    | _ => .no) Q := h
  refine ⟨m, ρ, s, R, E, (Post.bind (Re := Rp X.K fa) h).imp fun x H1 ⟨m1, d, s1, l1, R1, r1, _, h1⟩ => ⟨m1, ρ, s1, R1, E.le l1, ?_⟩⟩
  refine (Post.bind (Re := Rp X.K fa) h1).imp fun y H2 ⟨m2, e, s2, l2, R2, r2, _, h2⟩ => ⟨m2, s2, d, e, R2, r1.le l2, r2, ?_⟩
  refine post_prim (W := W) (σ := σ) ((Post.bind (Re := Rp X.K fa) h2).imp fun z H3 ⟨m3, g, s3, l3, R3, r3, _, h3⟩ => ?_)
  cases g with
  | bl k =>
    cases r3
    refine ⟨k, rfl, ?_⟩
    cases k with
    | true =>
      refine iteT ?_
      refine ⟨m3, ρ, s3, R3, (E.le l1).le (l2.trans l3), (Post.bind (Re := Rp X.K fa) h3).imp fun w H4 ⟨m4, g4, s4, l4, R4, r4, _, h4⟩ => ⟨m4, s4, e, g4, R4, (r2.le l3).le l4, r4, post_prim h4⟩⟩
    | false => exact iteF (post_ok h3 R3 rfl)
  | _ => exact False.elim h3
theorem e_chain {op op' : CmpOp} {p q : Prim} (ho : OpR X (compareOp op) (oR X.K fa XR p)) (ho' : OpR X (compareOp op') (oR X.K fa XR q)) (ha : PE X a (tI X.K fa XR F W ca)) (hb : PE X b (tI X.K fa XR F W cb)) (hc : PE X c (tI X.K fa XR F W cc))
    (hm' : behindInMarks op' c = false) : PE X (.Compare a [op, op'] [b, c] pos) (tI X.K fa XR F W (.chain p q ca cb cc)) :=
  PE.imp (pe_chain ho ho' ha hb hc hm') fun _ _ _ h => ti_chain h
theorem t_chain {op op' : CmpOp} {p q : Prim} (hq : isCmp q = true) (ho : OpR X (compareOp op) (oR X.K fa XR p)) (ho' : OpR X (compareOp op') (oR X.K fa XR q)) (ha : PE X a (tI X.K fa XR F W ca)) (hb : PE X b (tI X.K fa XR F W cb)) (hc : PE X c (tI X.K fa XR F W cc))
    (hm' : behindInMarks op' c = false) : PT X (.Compare a [op, op'] [b, c] pos) (tT X.K fa XR F W (.chain p q ca cb cc)) :=
  PT.imp (pt_chain ho ho' ha hb hc hm') fun _ _ _ h => ti_chain (tb_of h fun _ _ => bind_bl fun _ _ => bind_bl fun _ _ => bind_bl fun d _ => by
    cases d with
    | bl k =>
      cases k with
      | true => exact bind_bl fun _ _ => cmp_bl hq
      | false => intro d s e; cases e; exact ⟨_, rfl⟩
    | _ => intro d s e; cases e)
end
end Mi

set_option linter.all false
set_option maxRecDepth 100000
set_option maxHeartbeats 2000000
namespace Mi
open PySem PySem.Spec PyProof.Rows L2

section
variable {X : Cx} {fa : Nat → Option Addr} {XR : Nat → List D → Value → Option Addr → Hp → List Addr → Prop} {F : Funs} {W : WX} {a b c : Expr} {ca cb cc : CE} {es : List Expr} {ces : CEs} {pos : Pos}
/-! ### and, or, not, if else -/
theorem tst_ok {d : D} {s : S} : tst (.ok d s) = match truth s d with | some b => .ok b s | none => .no := rfl
theorem ti_and {σ : L2.St} {H : Hp} {Q : VK} (h : tI X.K fa XR F W (.and ca cb) σ H Q) : tAndT X.K (tI X.K fa XR F W ca) (tI X.K fa XR F W cb) σ H Q := by
  obtain ⟨m, ρ, s, R, E, h⟩ := h
  refine ⟨m, ρ, s, R, E, (Post.bind (Re := Rp X.K fa) (f := fun d s1 => match truth s1 d with
    | some true => ev F cb ρ s1
    | some false => .ok d s1
    | none => .no) h).imp fun x H1 ⟨m1, d, s1, l1, R1, r1, _, h1⟩ => ?_⟩
  cases e : truth s1 d with
  | none => simp only [e] at h1; exact h1.elim
  | some k =>
    refine ⟨k, tru_of R1 r1 e, ?_⟩
    cases k with
    | true => simp only [e] at h1; exact iteT ⟨m1, ρ, s1, R1, E.le l1, h1⟩
    | false => simp only [e] at h1; exact iteF (post_ok h1 R1 r1)
theorem ti_or {σ : L2.St} {H : Hp} {Q : VK} (h : tI X.K fa XR F W (.or ca cb) σ H Q) : tOrT X.K (tI X.K fa XR F W ca) (tI X.K fa XR F W cb) σ H Q := by
  obtain ⟨m, ρ, s, R, E, h⟩ := h
  refine ⟨m, ρ, s, R, E, (Post.bind (Re := Rp X.K fa) (f := fun d s1 => match truth s1 d with
    | some true => .ok d s1
    | some false => ev F cb ρ s1
    | none => .no) h).imp fun x H1 ⟨m1, d, s1, l1, R1, r1, _, h1⟩ => ?_⟩
  cases e : truth s1 d with
  | none => simp only [e] at h1; exact h1.elim
  | some k =>
    refine ⟨k, tru_of R1 r1 e, ?_⟩
    cases k with
    | true => simp only [e] at h1; exact iteT (post_ok h1 R1 r1)
    | false => simp only [e] at h1; exact iteF ⟨m1, ρ, s1, R1, E.le l1, h1⟩
theorem e_and {rest : List Expr} (ha : PE X a (tI X.K fa XR F W ca)) (hb : PE X (.BoolOp .And (b :: rest) pos) (tI X.K fa XR F W cb)) : PE X (.BoolOp .And (a :: b :: rest) pos) (tI X.K fa XR F W (.and ca cb)) :=
  PE.imp (pe_andT ha hb) fun _ _ _ h => ti_and h
theorem e_or {rest : List Expr} (ha : PE X a (tI X.K fa XR F W ca)) (hb : PE X (.BoolOp .Or (b :: rest) pos) (tI X.K fa XR F W cb)) : PE X (.BoolOp .Or (a :: b :: rest) pos) (tI X.K fa XR F W (.or ca cb)) :=
  PE.imp (pe_orT ha hb) fun _ _ _ h => ti_or h
theorem e_not (ha : PE X a (tI X.K fa XR F W ca)) : PE X (.UnaryOp .Not a pos) (tI X.K fa XR F W (.not ca)) := PE.imp (pe_notT ha) fun σ H Q ⟨m, ρ, s, R, E, h⟩ => by
  have h : Post X.K fa XR (Rp X.K fa) W σ H m ((tst (ev F ca ρ s)).bind fun k s1 => .ok (.bl (!k)) s1) Q := h
  refine ⟨m, ρ, s, R, E, ?_⟩
  cases e : ev F ca ρ s with
  | ok d s1 =>
    rw [e] at h
    intro v H1 m1 l1 R1 r1
    cases q : truth s1 d with
    | none => rw [tst_ok, q] at h; exact h.elim
    | some k =>
      rw [tst_ok, q] at h
      exact ⟨k, tru_of R1 r1 q, h _ H1 m1 l1 R1 rfl⟩
  | ex x fs s1 => rw [e] at h; exact h
  | no => rw [e] at h; exact h.elim
theorem tt_use {ce : CE} {σ : L2.St} {H : Hp} {m : List Addr} {ρ : Env} {s : S} {α β : Type} {Re : Hp → List Addr → α → β → Prop} {f : Bool → S → R α} {Q : β → Hp → Prop} (R : RelS X.K fa H m s) (E : EnvR X.K fa H m σ ρ)
    (h : Post X.K fa XR Re W σ H m ((tst (ev F ce ρ s)).bind f) Q) :
    tT X.K fa XR F W ce σ H (fun k H1 => ∃ m1 s1, Le H m H1 m1 ∧ RelS X.K fa H1 m1 s1 ∧ Post X.K fa XR Re W σ H1 m1 (f k s1) Q) :=
  ⟨m, ρ, s, R, E, (Post.bind (Re := Eqb) h).imp fun k H1 ⟨m1, a, s1, l1, R1, r1, _, h1⟩ => by cases r1; exact ⟨m1, s1, l1, R1, h1⟩⟩
theorem e_ite (hc : PT X c (tT X.K fa XR F W cc)) (ha : PE X a (tI X.K fa XR F W ca)) (hb : PE X b (tI X.K fa XR F W cb)) : PE X (.IfExp c a b pos) (tI X.K fa XR F W (.ite cc ca cb)) :=
  PE.imp (pe_ifExp hc ha hb) fun σ H Q ⟨m, ρ, s, R, E, h⟩ => by
    have q := tt_use (ce := cc) (f := fun k s1 => match k with
      | true => ev F ca ρ s1
      | false => ev F cb ρ s1) R E h
    obtain ⟨m0, ρ0, s0, R0, E0, q⟩ := q
    refine ⟨m0, ρ0, s0, R0, E0, q.imp fun k H1 ⟨m1, s1, l1, R1, h1⟩ => ?_⟩
    cases k with
    | true => exact iteT ⟨m1, ρ, s1, R1, E.le l1, h1⟩
    | false => exact iteF ⟨m1, ρ, s1, R1, E.le l1, h1⟩
/-- and, or, as tests -/
theorem w_one {op : BoolOp} (ha : PT X a (tT X.K fa XR F W ca)) : PW X (.BoolOp op [a] pos) (tT X.K fa XR F W ca) := by
  cases op
  · exact pw_and1 ha
  · exact pw_or1 ha
theorem w_and {rest : List Expr} (ha : PT X a (tT X.K fa XR F W ca)) (hb : PW X (.BoolOp .And (b :: rest) pos) (tT X.K fa XR F W cb)) : PW X (.BoolOp .And (a :: b :: rest) pos) (tT X.K fa XR F W (.and ca cb)) :=
  PW.imp (pw_and ha hb) fun σ H Q ⟨m, ρ, s, R, E, h⟩ => by
    refine ⟨m, ρ, s, R, E, ?_⟩
    have h : Post X.K fa XR Eqb W σ H m (tst ((ev F ca ρ s).bind fun d s1 => match truth s1 d with
      | some true => ev F cb ρ s1
      | some false => .ok d s1
      | none => .no)) Q := h
    cases e : ev F ca ρ s with
    | ok d s1 =>
      rw [e] at h
      have h : Post X.K fa XR Eqb W σ H m (tst (match truth s1 d with
        | some true => ev F cb ρ s1
        | some false => .ok d s1
        | none => .no)) Q := h
      rw [tst_ok]
      cases q : truth s1 d with
      | none => simp only [q] at h; exact h.elim
      | some k =>
        cases k with
        | true =>
          simp only [q] at h
          intro k H1 m1 l1 R1 r1
          cases r1
          exact iteT ⟨m1, ρ, s1, R1, E.le l1, h.le l1⟩
        | false =>
          simp only [q] at h
          rw [tst_ok, q] at h
          intro k H1 m1 l1 R1 r1
          cases r1
          exact iteF (h _ H1 m1 l1 R1 rfl)
    | ex x fs s1 => rw [e] at h; exact h
    | no => rw [e] at h; exact h.elim
theorem w_or {rest : List Expr} (ha : PT X a (tT X.K fa XR F W ca)) (hb : PW X (.BoolOp .Or (b :: rest) pos) (tT X.K fa XR F W cb)) : PW X (.BoolOp .Or (a :: b :: rest) pos) (tT X.K fa XR F W (.or ca cb)) :=
  PW.imp (pw_or ha hb) fun σ H Q ⟨m, ρ, s, R, E, h⟩ => by
    refine ⟨m, ρ, s, R, E, ?_⟩
    have h : Post X.K fa XR Eqb W σ H m (tst ((ev F ca ρ s).bind fun d s1 => match truth s1 d with
      | some true => .ok d s1
      | some false => ev F cb ρ s1
      | none => .no)) Q := h
    cases e : ev F ca ρ s with
    | ok d s1 =>
      rw [e] at h
      have h : Post X.K fa XR Eqb W σ H m (tst (match truth s1 d with
        | some true => .ok d s1
        | some false => ev F cb ρ s1
        | none => .no)) Q := h
      rw [tst_ok]
      cases q : truth s1 d with
      | none => simp only [q] at h; exact h.elim
      | some k =>
        cases k with
        | true =>
          simp only [q] at h
          rw [tst_ok, q] at h
          intro k H1 m1 l1 R1 r1
          cases r1
          exact iteT (h _ H1 m1 l1 R1 rfl)
        | false =>
          simp only [q] at h
          intro k H1 m1 l1 R1 r1
          cases r1
          exact iteF ⟨m1, ρ, s1, R1, E.le l1, h.le l1⟩
    | ex x fs s1 => rw [e] at h; exact h
    | no => rw [e] at h; exact h.elim
theorem t_not (ha : PT X a (tT X.K fa XR F W ca)) : PT X (.UnaryOp .Not a pos) (tT X.K fa XR F W (.not ca)) :=
  PT.imp (pt_not ha) fun σ H Q ⟨m, ρ, s, R, E, h⟩ => by
    refine ⟨m, ρ, s, R, E, ?_⟩
    have h : Post X.K fa XR Eqb W σ H m (tst ((tst (ev F ca ρ s)).bind fun k s1 => .ok (.bl (!k)) s1)) Q := h
    cases e : tst (ev F ca ρ s) with
    | ok k s1 =>
      rw [e] at h
      intro k' H1 m1 l1 R1 r1
      cases r1
      exact h (!k) H1 m1 l1 R1 rfl
    | ex x fs s1 => rw [e] at h; exact h
    | no => rw [e] at h; exact h.elim

/-! ### argument lists, displays, calls of built-ins -/
def plainE : Expr → Bool
  | .Starred _ _ => false
  | _ => true
theorem star_cons {e : Expr} {env : PySem.Env} (h : plainE e = true) : starEach (e :: es) env = (false, eval e env) :: starEach es env := by
  cases e <;> first | rfl | cases h
theorem star_any {env : PySem.Env} : ∀ {es : List Expr}, es.all plainE = true → (starEach es env).any (·.1) = false
  | [], _ => rfl
  | e :: es, h => by
    rw [List.all_cons, Bool.and_eq_true] at h
    rw [star_cons h.1, List.any_cons, star_any h.2]
    rfl
theorem back_any {env : PySem.Env} (h : es.all plainE = true) : (backTo pos (starEach es env)).any (·.1) = false := by
  unfold backTo
  rw [List.any_map]
  exact star_any h
theorem a_nil : PA X [] (tA X.K fa XR F W .nil) := PA.imp pa_nil fun σ H Q ⟨m, ρ, s, R, E, h⟩ => h [] H m Le.refl R rfl
theorem a_cons {e : Expr} {ce : CE} (he : PE X e (tI X.K fa XR F W ce)) (hes : PA X es (tA X.K fa XR F W ces)) (hp : plainE e = true) : PA X (e :: es) (tA X.K fa XR F W (.cons ce ces)) :=
  PA.imp (pa_cons he hes (star_cons hp)) fun σ H Q ⟨m, ρ, s, R, E, h⟩ => by
    have h : Post X.K fa XR (RpL X.K fa) W σ H m ((ev F ce ρ s).bind fun d s => (evs F ces ρ s).bind fun ds s => .ok (d :: ds) s) Q := h
    refine ⟨m, ρ, s, R, E, (Post.bind (Re := Rp X.K fa) h).imp fun x H1 ⟨m1, d, s1, l1, R1, r1, _, h1⟩ => ⟨m1, ρ, s1, R1, E.le l1, ?_⟩⟩
    exact (Post.bind (Re := RpL X.K fa) h1).imp fun xs H2 ⟨m2, ds, s2, l2, R2, r2, _, h2⟩ => h2 _ H2 m2 Le.refl R2 ⟨x, xs, rfl, r1.le l2, r2⟩
theorem e_tup {k : Nat} (h : PA X es (tA X.K fa XR F W ces)) : PE X (.Tuple es k pos) (tI X.K fa XR F W (.prim .tup ces)) := PE.imp (pe_tup h) fun σ H Q ⟨m, ρ, s, R, E, h⟩ => by
  refine ⟨m, ρ, s, R, E, (Post.bind (Re := RpL X.K fa) (f := fun ds s => prim .tup ds s) h).imp fun xs H1 ⟨m1, ds, s1, l1, R1, r1, _, h1⟩ => ?_⟩
  have h1 : Post X.K fa XR (Rp X.K fa) W σ H1 m1 (if ds.length < 16777216 then .ok (.tup ds) s1 else .no) Q := h1
  split at h1
  · rename_i hz
    rw [r1.length] at hz
    exact ⟨by rw [sizeLine_eq]; omega, fun p hp => h1 (.ref p) _ m1 (le_new hp) (R1.new hp) ⟨p, xs, rfl, .inl (.inl upd_same), r1.le (le_new hp)⟩⟩
  · exact h1.elim
theorem e_lst (h : PA X es (tA X.K fa XR F W ces)) : PE X (.List es pos) (tI X.K fa XR F W (.prim .lst ces)) := PE.imp (pe_lst h) fun σ H Q ⟨m, ρ, s, R, E, h⟩ => by
  refine ⟨m, ρ, s, R, E, (Post.bind (Re := RpL X.K fa) (f := fun ds s => prim .lst ds s) h).imp fun xs H1 ⟨m1, ds, s1, l1, R1, r1, _, h1⟩ => ?_⟩
  exact post_new (XR := XR) (W := W) (σ := σ) h1 R1 r1
theorem e_bi {e : Expr} {x : Str} {p : Pos} {id : String} {pr : Prim} (hc : CallR X (.builtin id) (cR X.K fa XR pr)) (hg : Gl X x) (hm : X.mg x = none) (hv : bootBuiltins x = some (.builtin id)) (ha : PA X (e :: es) (tA X.K fa XR F W ces)) (hn : x ≠ "__name__")
    (hdb : (x == ("__debug__" : Str)) = false) (hp : (e :: es).all plainE = true) : PE X (.Call (.Name x p) (e :: es) [] pos) (tI X.K fa XR F W (.prim pr ces)) := by
  rw [List.all_cons, Bool.and_eq_true] at hp
  exact PE.imp (pe_callB hc hg hm hv ha hn hdb (star_cons hp.1) (back_any hp.2)) fun _ _ _ h => tiA h
theorem e_ty {e : Expr} {x : Str} {p : Pos} {id : String} {pr : Prim} (hc : CallR X (.type id) (cR X.K fa XR pr)) (hg : Gl X x) (hm : X.mg x = none) (hv : bootBuiltins x = some (.type id)) (ha : PA X (e :: es) (tA X.K fa XR F W ces)) (hn : x ≠ "__name__")
    (hdb : (x == ("__debug__" : Str)) = false) (hp : (e :: es).all plainE = true) : PE X (.Call (.Name x p) (e :: es) [] pos) (tI X.K fa XR F W (.prim pr ces)) := by
  rw [List.all_cons, Bool.and_eq_true] at hp
  exact PE.imp (pe_callTy hc hg hm hv ha hn hdb (star_cons hp.1) (back_any hp.2)) fun _ _ _ h => tiA h
/-! ### a[i], a[i:j] -/
theorem e_ix (ha : PE X a (tI X.K fa XR F W ca)) (hb : PE X b (tI X.K fa XR F W cb)) (hs : noSlice b = true) : PE X (.Subscript a b pos) (tI X.K fa XR F W (.prim .ix (.cons ca (.cons cb .nil)))) :=
  PE.imp (pe_ix ix_any ha hb (plainIx hs)) fun _ _ _ h => ti2 h
/-- an int, else nothing -/
abbrev chk (e : CE) : CE := .prim .chk (.cons e .nil)
theorem chk_int {e : CE} {ρ : Env} {s s' : S} {d : D} (h : ev F (chk e) ρ s = .ok d s') : ∃ i, d = .int i := by
  have h : ((evs F (.cons e .nil) ρ s).bind fun ds s => prim .chk ds s) = .ok d s' := h
  rw [evs1] at h
  cases q : ev F e ρ s with
  | ok x s1 =>
    rw [q] at h
    cases x <;> first
      | (cases h; exact ⟨_, rfl⟩)
      | cases h
  | ex x fs s1 => rw [q] at h; cases h
  | no => rw [q] at h; cases h
theorem e_chk {e : Expr} {ce : CE} (h : PE X e (tI X.K fa XR F W ce)) : PE X e (tI X.K fa XR F W (chk ce)) := PE.imp h fun σ H Q ⟨m, ρ, s, R, E, h⟩ => by
  have h : Post X.K fa XR (Rp X.K fa) W σ H m ((evs F (.cons ce .nil) ρ s).bind fun ds s => prim .chk ds s) Q := h
  rw [evs1] at h
  refine ⟨m, ρ, s, R, E, (Post.bind (Re := Rp X.K fa) h).imp fun x H1 ⟨m1, d, s1, l1, R1, r1, _, h1⟩ => ?_⟩
  cases d with
  | int i => exact post_ok h1 R1 r1
  | _ => exact False.elim h1
theorem po_chk {e : Expr} {ce : CE} (h : PE X e (tI X.K fa XR F W ce)) : PO X (some e) (tPart (tI X.K fa XR F W (chk ce))) := po_some (e_chk h)
theorem e_slFrom {p2 : Pos} (ha : PE X a (tI X.K fa XR F W ca)) (hb : PE X b (tI X.K fa XR F W cb)) : PE X (.Subscript a (.Slice (some b) none none p2) pos) (tI X.K fa XR F W (.prim .slFrom (.cons ca (.cons (chk cb) .nil)))) :=
  PE.imp (pe_slice sl_any ha (po_chk hb) po_none) fun σ H Q ⟨m, ρ, s, R, E, h⟩ => by
    have h : Post X.K fa XR (Rp X.K fa) W σ H m ((evs F (.cons ca (.cons (chk cb) .nil)) ρ s).bind fun ds s => prim .slFrom ds s) Q := h
    rw [evs2] at h
    refine ⟨m, ρ, s, R, E, (Post.bind (Re := Rp X.K fa) h).imp fun x H1 ⟨m1, d, s1, l1, R1, r1, _, h1⟩ => ⟨m1, ρ, s1, R1, E.le l1, ?_⟩⟩
    refine (Post.bind (Re := Rp X.K fa) h1).imp fun y H2 ⟨m2, e, s2, l2, R2, r2, q2, h2⟩ => ?_
    obtain ⟨i, rfl⟩ := chk_int q2
    cases r2
    exact ⟨i, rfl, m2, s2, d, R2, r1.le l2, post_prim (p := .slFrom) (ds := [d, .int i]) h2⟩
theorem e_slTo {p2 : Pos} (ha : PE X a (tI X.K fa XR F W ca)) (hb : PE X b (tI X.K fa XR F W cb)) : PE X (.Subscript a (.Slice none (some b) none p2) pos) (tI X.K fa XR F W (.prim .slTo (.cons ca (.cons (chk cb) .nil)))) :=
  PE.imp (pe_slice sl_any ha po_none (po_chk hb)) fun σ H Q ⟨m, ρ, s, R, E, h⟩ => by
    have h : Post X.K fa XR (Rp X.K fa) W σ H m ((evs F (.cons ca (.cons (chk cb) .nil)) ρ s).bind fun ds s => prim .slTo ds s) Q := h
    rw [evs2] at h
    refine ⟨m, ρ, s, R, E, (Post.bind (Re := Rp X.K fa) h).imp fun x H1 ⟨m1, d, s1, l1, R1, r1, _, h1⟩ => ⟨m1, ρ, s1, R1, E.le l1, ?_⟩⟩
    refine (Post.bind (Re := Rp X.K fa) h1).imp fun y H2 ⟨m2, e, s2, l2, R2, r2, q2, h2⟩ => ?_
    obtain ⟨i, rfl⟩ := chk_int q2
    cases r2
    exact ⟨i, rfl, m2, s2, d, R2, r1.le l2, post_prim (p := .slTo) (ds := [d, .int i]) h2⟩
theorem e_sl {p2 : Pos} (ha : PE X a (tI X.K fa XR F W ca)) (hb : PE X b (tI X.K fa XR F W cb)) (hc : PE X c (tI X.K fa XR F W cc)) : PE X (.Subscript a (.Slice (some b) (some c) none p2) pos) (tI X.K fa XR F W (.prim .sl (.cons ca (.cons (chk cb) (.cons (chk cc) .nil))))) :=
  PE.imp (pe_slice sl_any ha (po_chk hb) (po_chk hc)) fun σ H Q ⟨m, ρ, s, R, E, h⟩ => by
    have h : Post X.K fa XR (Rp X.K fa) W σ H m ((evs F (.cons ca (.cons (chk cb) (.cons (chk cc) .nil))) ρ s).bind fun ds s => prim .sl ds s) Q := h
    rw [evs3] at h
    refine ⟨m, ρ, s, R, E, (Post.bind (Re := Rp X.K fa) h).imp fun x H1 ⟨m1, d, s1, l1, R1, r1, _, h1⟩ => ⟨m1, ρ, s1, R1, E.le l1, ?_⟩⟩
    refine (Post.bind (Re := Rp X.K fa) h1).imp fun y H2 ⟨m2, e, s2, l2, R2, r2, q2, h2⟩ => ?_
    obtain ⟨i, rfl⟩ := chk_int q2
    cases r2
    refine ⟨i, rfl, m2, ρ, s2, R2, (E.le l1).le l2, (Post.bind (Re := Rp X.K fa) h2).imp fun z H3 ⟨m3, g, s3, l3, R3, r3, q3, h3⟩ => ?_⟩
    obtain ⟨j, rfl⟩ := chk_int q3
    cases r3
    exact ⟨j, rfl, m3, s3, d, R3, (r1.le l2).le l3, post_prim (p := .sl) (ds := [d, .int i, .int j]) h3⟩

/-! ### own defs -/
/-- the promise of def f: what the short program makes of its arguments -/
def spI (K : PySem.W.Frag) (fa : Nat → Option Addr) (XR : Nat → List D → Value → Option Addr → Hp → List Addr → Prop) (F : Funs) (f n : Nat) : Sp := fun vs H Q E =>
  vs.length = n ∧ ∃ m s ds, RelS K fa H m s ∧ RpL K fa H m ds vs ∧ Post K fa XR (Rp K fa) (fun c d _ H => E c d H) [] H m (F f ds s) Q
theorem post_w {α β : Type} {Re : Hp → List Addr → α → β → Prop} {K : PySem.W.Frag} {W W' : WX} {σ σ' : L2.St} {H : Hp} {m : List Addr} {r : R α} {Q : β → Hp → Prop} (h : Post K fa XR Re W σ H m r Q) (hw : ∀ c d H, W c d σ H → W' c d σ' H) : Post K fa XR Re W' σ' H m r Q := by
  cases r with
  | ok a s => exact h
  | ex x fs s => exact fun cls d H1 m1 l R z => hw _ _ _ (h cls d H1 m1 l R z)
  | no => exact h
theorem pe_call0S {k : Nat} {f : Addr} {fd : FuncData} {ps : List Str} {sp : Sp} {CXv : CXT} {E : L2.St → XK} {x : Str} {p : Pos} (F : FnOk X.prog X.w X.K X.mg X.base CXv k f fd ps sp) (hr : Room k X.A) (hg : Gl X x) (hm : X.mg x = some (.ref f)) (hk : PySem.W.keepIn X.K (.ref f) = true)
    (hb : Binds X.K fd ps []) (hx : ∀ σ, PassesAt CXv X σ (E σ)) (hdb : (x == ("__debug__" : Str)) = false) : PE X (.Call (.Name x p) [] [] pos) (tCallS sp E tNil) := by
  refine ⟨fun pins s σ H Q I h => ?_⟩
  refine wpAny_Call_Name_kw (ld_glob I hg hm ?_ hdb)
  exact PySem.W.callWith_K0 I.kIn hk (run_fnS (us := []) F hr hb (hx σ) I .nil h)
theorem ti_call {f n : Nat} {σ : L2.St} {H : Hp} {Q : VK} (h : tI X.K fa XR F W (.call f ces) σ H Q) (hn : ∀ H m ds vs s, RpL X.K fa H m ds vs → F f ds s ≠ .no → vs.length = n) : tCallS (spI X.K fa XR F f n) (WE W) (tA X.K fa XR F W ces) σ H Q := by
  obtain ⟨m, ρ, s, R, E, h⟩ := h
  refine ⟨m, ρ, s, R, E, (Post.bind (Re := RpL X.K fa) (f := fun ds s => F f ds s) h).imp fun xs H1 ⟨m1, ds, s1, l1, R1, r1, _, h1⟩ => ⟨hn H1 m1 ds xs s1 r1 fun z => ?_, m1, s1, ds, R1, r1, post_w h1 fun _ _ _ z => z⟩⟩
  rw [z] at h1
  exact h1
theorem e_call {k f n : Nat} {fA : Addr} {fd : FuncData} {ps : List Str} {e : Expr} {x : Str} {p : Pos} (Fo : FnOk X.prog X.w X.K X.mg X.base (L2.CX X.prog X.w) k fA fd ps (spI X.K fa XR F f n)) (hr : Room k X.A) (hg : Gl X x) (hm : X.mg x = some (.ref fA))
    (hk : PySem.W.keepIn X.K (.ref fA) = true) (hb : Binds X.K fd ps []) (tk : Takes X W) (hn : ∀ H m ds vs s, RpL X.K fa H m ds vs → F f ds s ≠ .no → vs.length = n) (ha : PA X (e :: es) (tA X.K fa XR F W ces)) (hdb : (x == ("__debug__" : Str)) = false) (hp : (e :: es).all plainE = true) :
    PE X (.Call (.Name x p) (e :: es) [] pos) (tI X.K fa XR F W (.call f ces)) := by
  rw [List.all_cons, Bool.and_eq_true] at hp
  exact PE.imp (pe_callS Fo hr hg hm hk hb (fun σ => passAt tk σ) ha hdb (star_cons hp.1) (back_any hp.2)) fun _ _ _ h => ti_call h hn
theorem e_call0 {k f n : Nat} {fA : Addr} {fd : FuncData} {ps : List Str} {x : Str} {p : Pos} (Fo : FnOk X.prog X.w X.K X.mg X.base (L2.CX X.prog X.w) k fA fd ps (spI X.K fa XR F f n)) (hr : Room k X.A) (hg : Gl X x) (hm : X.mg x = some (.ref fA))
    (hk : PySem.W.keepIn X.K (.ref fA) = true) (hb : Binds X.K fd ps []) (tk : Takes X W) (hn : ∀ H m ds vs s, RpL X.K fa H m ds vs → F f ds s ≠ .no → vs.length = n) (hdb : (x == ("__debug__" : Str)) = false) :
    PE X (.Call (.Name x p) [] [] pos) (tI X.K fa XR F W (.call f .nil)) :=
  PE.imp (pe_call0S Fo hr hg hm hk hb (fun σ => passAt tk σ) hdb) fun σ H Q h => by
    obtain ⟨m, ρ, s, R, E, h⟩ := ti_call h hn
    exact h [] H m Le.refl R rfl
end
end Mi

set_option linter.all false
set_option maxRecDepth 100000
set_option maxHeartbeats 4000000
namespace Mi
open PySem PySem.Spec PyProof.Rows L2 HT
section
variable {prog : Program} {w : World} {A : Around} {E : Value → Shared → Prop} {s : Shared}
theorem adjust_rev (n : Nat) : Builtin.Slice.sliceAdjust none none (-1) (n : Int) = ((n : Int) - 1, -1) := by
  unfold Builtin.Slice.sliceAdjust
  simp
theorem places_rev (n : Nat) : Builtin.Slice.slicePlaces ((n : Int) - 1) (-1) (-1) = n := by
  unfold Builtin.Slice.slicePlaces
  simp
  try omega
theorem sliceApplied_rev {sl : Addr} {vs : Value} {n : Nat} {Q : Int × Int × Nat → Shared → Prop} (hs : s.heap.IsSliceOf sl .none .none vs) (ps : IsPart vs (some (-1)))
    (h : Q ((n : Int) - 1, -1, n) s) : wpAny (model prog w) A (Builtin.Slice.sliceApplied (.ref sl) (pure (n : Int))) Q E s := by
  obtain ⟨os, hos, hcs, hds⟩ := id hs
  unfold Builtin.Slice.sliceApplied Builtin.Slice.sliceFields
  refine wpAny_bind (wpAny_bind (wpAny_field hos hds (x := .none) rfl (wpAny_bind (wpAny_field hos hds (x := .none) rfl (wpAny_bind (wpAny_field hos hds (x := vs) rfl (wpAny_pure ?_)))))))
  refine wpAny_bind (slicePart_ ps ?_)
  show wpAny _ _ (if ((-1 : Int) == 0) = true then _ else _) _ _ s
  rw [if_neg (by decide)]
  refine wpAny_bind (slicePart_ .none (wpAny_bind (slicePart_ .none (wpAny_bind (wpAny_pure ?_)))))
  show wpAny _ _ (match Builtin.Slice.sliceAdjust none none (-1) (n : Int) with | (lo, hi) => pure (lo, (-1 : Int), Builtin.Slice.slicePlaces lo hi (-1))) _ _ s
  rw [adjust_rev n]
  show wpAny _ _ (pure ((n : Int) - 1, (-1 : Int), Builtin.Slice.slicePlaces ((n : Int) - 1) (-1) (-1))) _ _ s
  rw [places_rev]
  exact wpAny_pure h
theorem pick_rev (xs : Array Value) : ((List.range xs.size).filterMap fun (m : Nat) => xs[(((xs.size : Int) - 1) + (m : Int) * (-1)).toNat]?).toArray = xs.toList.reverse.toArray := by
  have e : (List.range xs.size).filterMap (fun (m : Nat) => xs[(((xs.size : Int) - 1) + (m : Int) * (-1)).toNat]?) = (List.range xs.size).filterMap fun m => xs[xs.size - 1 - m]? := by
    have key : ∀ l : List Nat, (∀ m ∈ l, m < xs.size) → l.filterMap (fun (m : Nat) => xs[(((xs.size : Int) - 1) + (m : Int) * (-1)).toNat]?) = l.filterMap fun m => xs[xs.size - 1 - m]? := by
      intro l
      induction l with
      | nil => intro _; rfl
      | cons m l ih =>
        intro hl
        have hm := hl m (List.mem_cons_self ..)
        have e3 : (((xs.size : Int) - 1) + (m : Int) * (-1)).toNat = xs.size - 1 - m := by omega
        rw [List.filterMap_cons, List.filterMap_cons, e3, ih fun q hq => hl q (List.mem_cons_of_mem _ hq)]
    exact key _ fun m hm => List.mem_range.mp hm
  rw [e]
  have e2 : (List.range xs.size).filterMap (fun m => xs[xs.size - 1 - m]?) = ((List.range xs.size).map fun k => xs.size - 1 - k).filterMap (xs[·]?) := by
    rw [List.filterMap_map]
    rfl
  rw [e2, PySem.W.krv_range, List.filterMap_reverse, PySem.W.krv_all]
theorem getItem_tuple_rev {t sl : Addr} {items : Array Value} {vs : Value} {Q : Value → Shared → Prop} (ht : PyProof.Rows.IsTup s.heap t items) (hs : s.heap.IsSliceOf sl .none .none vs) (ps : IsPart vs (some (-1)))
    (h : Q (.ref s.heap.objs.size) { s with heap := s.heap.push { cls := .type "tuple", data := .seq items.toList.reverse.toArray } })
    (hsz : items.size ≤ sizeLine) : wpAny (model prog w) A (getItem (.ref t) (.ref sl)) Q E s := by
  have htake : sizeOk (.seq items.toList.reverse.toArray) := by
    show items.toList.reverse.toArray.size ≤ sizeLine
    rw [List.size_toArray, List.length_reverse, Array.length_toList]
    omega
  obtain ⟨os, hos, hcs, hds⟩ := id hs
  have hTs : s.TypeIs (.ref sl) "slice" := ⟨os, hos, hcs⟩
  unfold getItem
  try with_reducible refine wpAny_holding ?_
  first | refine wpAny_bind (wpAny_pure ?_) | skip
  refine wpAny_bind (wpAny_sequenceKey ht.typeIs (by decide) ?_)
  refine wpAny_bind (wpAny_callSpecial?_slot (name := Str.ofString "__getitem__") ht.typeIs PyProof.Rows.slot_tuple_getitem
    (wpAny_call_entry PyProof.Rows.slot_tuple_getitem ht.typeIs entry_tuple_getitem ?_ (args_tuple_getitem _ _)))
  show wpAny _ _ (Builtin.Tuple.tupleItemsOf (.ref t) >>= _) _ _ s
  refine wpAny_bind (tupleItemsOf_ ht ?_)
  refine wpAny_bind (wpAny_typeOf hTs ?_)
  rw [if_pos (by decide)]
  refine wpAny_bind (sliceApplied_rev hs ps ?_)
  have hno : ¬ ((((items.size : Int) - 1) == 0 && (-1 : Int) == 1 && items.size == items.size) = true) := by
    intro q
    rw [Bool.and_eq_true, Bool.and_eq_true] at q
    exact absurd q.1.2 (by decide)
  show wpAny _ _ (if (((items.size : Int) - 1) == 0 && (-1 : Int) == 1 && items.size == items.size) = true then _ else _) _ _ s
  rw [if_neg hno, pick_rev]
  first
    | exact wpAny_bind (m := Builtin.Tuple.tupleExact _) (wpAny_newObj_type (wpAny_pure ⟨_, rfl, wpAny_pure h⟩) htake)
    | exact wpAny_bind (m := Builtin.Tuple.tupleExact _) (wpAny_newObj_type (wpAny_bind (wpAny_pure (wpAny_pure ⟨_, rfl, wpAny_pure h⟩))) htake)
    | exact wpAny_bind (wpAny_bind (m := Builtin.Tuple.tupleExact _) (wpAny_newObj_type (wpAny_pure (wpAny_pure ⟨_, rfl, wpAny_pure h⟩)) htake))
    | exact wpAny_bind (wpAny_bind (m := Builtin.Tuple.tupleExact _) (wpAny_newObj_type (wpAny_pure ⟨_, rfl, wpAny_pure h⟩) htake))
end
section
variable {X : Cx}
/-- t[::-1], a tuple or a list -/
def tRevA (K : PySem.W.Frag) (te : TE) : TE := fun σ H Q => te σ H fun x H1 => ∃ a xs, x = V.ref a ∧ ((SqT K H1 a xs ∧ ∀ p, H1 p = none → Q (.ref p) (upd H1 p (.tup xs.reverse))) ∨ (SqL K H1 a xs ∧ ∀ p, H1 p = none → Q (.ref p) (upd H1 p (.lst xs.reverse))))
theorem pe_revA {e : Expr} {te : TE} {k : Nat} {p1 p2 p3 pos : Pos} (he : PE X e te) : PE X (.Subscript e (.Slice none none (some (.UnaryOp .USub (.Constant (.int 1) k p1) p2)) p3) pos) (tRevA X.K te) := by
  refine ⟨fun pins s σ H Q I h => ?_⟩
  refine Subscript_ (thn (he.run pins s σ H _ I h) fun v s1 ⟨x, H1, I1, r1, q1⟩ => ?_)
  obtain ⟨a, xs, ex, hx⟩ := q1
  subst ex
  cases r1
  have hst : PO X (some (.UnaryOp .USub (.Constant (.int 1) k p1) p2)) (tPart (tUn (rU fun i => .int (-i)) (tC (.int 1)))) := po_some (pe_un un_neg pe_int)
  refine wpAny_Slice (thn (po_none.run pins s1 σ H1 (fun o H2 => o = none ∧ H2 = H1) I1 ⟨rfl, rfl⟩) fun vl s2 ⟨l, H2, I2, pl, el, e2⟩ => ?_)
  subst el e2
  refine thn (po_none.run pins s2 σ H2 (fun o H3 => o = none ∧ H3 = H2) I2 ⟨rfl, rfl⟩) fun vu s3 ⟨u, H3, I3, pu, eu, e3⟩ => ?_
  subst eu e3
  refine thn (hst.run pins s3 σ H3 (fun o H4 => o = some (-1) ∧ H4 = H3) I3 ⟨1, rfl, -1, rfl, rfl, rfl⟩) fun vs s4 ⟨o, H4, I4, ps, eo, e4⟩ => ?_
  subst eo e4
  cases pl
  cases pu
  have I5 : Inv X pins σ H4 { s4 with heap := s4.heap.push { cls := .type "slice", data := .fields #[.none, .none, vs] } } := I4.kept (t' := s4.toks) fun b ob q => Heap.get?_push_of_some _ q
  show wpAny (model X.prog X.w) X.A (subscriptTail e (.Slice none none (some (.UnaryOp .USub (.Constant (.int 1) k p1) p2)) p3) (.ref a) (.ref s4.heap.objs.size)) (EP X pins σ Q) X.xe { s4 with heap := s4.heap.push { cls := .type "slice", data := .fields #[.none, .none, vs] } }
  rcases hx with ⟨hx, q⟩ | ⟨hx, q⟩
  · obtain ⟨its, r, ht, hz⟩ := I5.tuple hx
    refine tail_any (ops := [.ref a, .ref s4.heap.objs.size]) ht.typeIs (PyProof.Rows.slot_tuple_getitem.lookup) ?_ (by with_unfolding_all rfl)
    refine getItem_tuple_rev ht (Heap.IsSliceOf.new _ .none .none vs) ps ?_ (by rw [List.size_toArray, ← r.length]; exact hz)
    refine ⟨.ref _, _, I5.laid (t' := s4.toks) (o := .tup xs.reverse) (fun b ob q => Heap.get?_push_of_some _ q) (Nat.le_refl _) ?_, rfl, q _ (I5.hok.fresh (Nat.le_refl _))⟩
    exact ⟨by rw [List.length_reverse]; exact hz, _, r.reverse, ⟨_, Heap.get?_push_size _ rfl, rfl, _, rfl⟩⟩
  · obtain ⟨its, r, ht, hz⟩ := I5.list hx
    have hlen := r.length
    refine tail_any (ops := [.ref a, .ref s4.heap.objs.size]) ht.isList.typeIs (PySem.slot_list_getitem.lookup) ?_ (by with_unfolding_all rfl)
    refine wpAny_getItem_list_slice ht.isList (Heap.IsSliceOf.new _ .none .none vs) .none .none ps (by decide) ?_ (by rw [List.size_toArray]; omega)
    rw [PySem.W.krv_pick]
    refine ⟨.ref _, _, I5.laid (t' := s4.toks) (o := .lst xs.reverse) (fun b ob q => Heap.get?_push_of_some _ q) (Nat.le_refl _) ?_, rfl, q _ (I5.hok.fresh (Nat.le_refl _))⟩
    exact ⟨by rw [List.length_reverse]; exact hz, _, 0, r.reverse, Heap.get?_push_size _ rfl⟩
variable {fa : Nat → Option Addr} {XR : Nat → List D → Value → Option Addr → Hp → List Addr → Prop} {F : Funs} {W : WX}
theorem RpL.reverse {H : Hp} {m : List Addr} : ∀ {ds : List Mi.D} {vs : List V}, RpL X.K fa H m ds vs → RpL X.K fa H m ds.reverse vs.reverse
  | [], _, h => by rw [show _ = [] from h]; rfl
  | d :: ds, _, h => by
    obtain ⟨v, r, rfl, q, q2⟩ := h
    rw [List.reverse_cons, List.reverse_cons]
    exact (RpL.reverse q2).append (RpL.one q)
theorem e_rev {e : Expr} {ce : CE} {k : Nat} {p1 p2 p3 pos : Pos} (he : PE X e (tI X.K fa XR F W ce)) : PE X (.Subscript e (.Slice none none (some (.UnaryOp .USub (.Constant (.int 1) k p1) p2)) p3) pos) (tI X.K fa XR F W (.prim .rev (.cons ce .nil))) :=
  PE.imp (pe_revA he) fun σ H Q ⟨m, ρ, s, R, E, h⟩ => by
    have h : Post X.K fa XR (Rp X.K fa) W σ H m ((evs F (.cons ce .nil) ρ s).bind fun ds s => prim .rev ds s) Q := h
    rw [evs1] at h
    refine ⟨m, ρ, s, R, E, (Post.bind (Re := Rp X.K fa) h).imp fun v H1 ⟨m1, d, s1, l1, R1, r1, _, h1⟩ => ?_⟩
    cases d with
    | tup xs =>
      obtain ⟨a, vs, rfl, hq, r⟩ := r1
      exact ⟨a, vs, rfl, .inl ⟨hq, fun p hp => h1 (.ref p) _ m1 (le_new hp) (R1.new hp) ⟨p, _, rfl, .inl (.inl upd_same), (RpL.reverse r).le (le_new hp)⟩⟩⟩
    | lk xs =>
      obtain ⟨a, vs, rfl, hq, r⟩ := r1
      exact ⟨a, vs, rfl, .inr ⟨hq.l, (post_new h1 R1 (RpL.reverse r)).2⟩⟩
    | ref n =>
      have h1 : Post X.K fa XR (Rp X.K fa) W σ H1 m1 (match s1.l[n]? with
        | some (.lst xs) => newList xs.reverse s1
        | _ => .no) Q := h1
      cases ec : s1.l[n]? with
      | none => rw [ec] at h1; exact h1.elim
      | some cl =>
        cases cl with
        | lst xs =>
          rw [ec] at h1
          obtain ⟨a, vs, rfl, hm, hu, r⟩ := cell_of R1 r1 ec
          exact ⟨a, vs, rfl, .inr ⟨.inl (.inl hu), (post_new h1 R1 (RpL.reverse r)).2⟩⟩
        | dct kvs => rw [ec] at h1; exact h1.elim
    | _ => exact h1.elim
end
end Mi

set_option linter.all false
set_option maxRecDepth 100000
set_option maxHeartbeats 2000000
namespace Mi
open PySem PySem.Spec PyProof.Rows L2

section
variable {X : Cx} {fa : Nat → Option Addr} {XR : Nat → List D → Value → Option Addr → Hp → List Addr → Prop} {F : Funs} {W : WX} {a b c : Expr} {ca cb cc : CE} {es : List Expr} {ces : CEs} {pos : Pos}
/-! ### targets -/
mutual
def CT.slots : CT → List Nat
  | .name i => [i]
  | .tup ts => ts.slots
def CTs.slots : CTs → List Nat
  | .nil => []
  | .cons t ts => t.slots ++ ts.slots
end
/-- σ' is σ but at the places l -/
def Off (l : List Nat) (σ σ' : L2.St) : Prop := σ'.length = σ.length ∧ ∀ (i : Nat), i ∉ l → σ'[i]? = σ[i]?
/-- the store of d into t, from the slots ρ on -/
def gI (K : PySem.W.Frag) (fa : Nat → Option Addr) (t : CT) : TG := fun v σ H Q => ∃ m ρ d ρ', EnvR K fa H m σ ρ ∧ Rp K fa H m d v ∧ put t d ρ = some ρ' ∧ ∀ σ', EnvR K fa H m σ' ρ' → Off t.slots σ σ' → Q σ' H
def gsI (K : PySem.W.Frag) (fa : Nat → Option Addr) (ts : CTs) : TGs := fun vs σ H Q => ∃ m ρ ds ρ', EnvR K fa H m σ ρ ∧ RpL K fa H m ds vs ∧ puts ts ds ρ = some ρ' ∧ ∀ σ', EnvR K fa H m σ' ρ' → Off ts.slots σ σ' → Q σ' H
theorem PG.imp {X : Cx} {e : Expr} {t t' : TG} (h : PG X e t) (i : ∀ v σ H Q, t' v σ H Q → t v σ H Q) : PG X e t' := ⟨fun pins s σ H v u Q I r q => h.run pins s σ H v u Q I r (i v σ H Q q)⟩
theorem PGs.imp {X : Cx} {e : List Expr} {t t' : TGs} (h : PGs X e t) (i : ∀ v σ H Q, t' v σ H Q → t v σ H Q) : PGs X e t' := ⟨fun pins s σ H v u Q I r q => h.run pins s σ H v u Q I r (i v σ H Q q)⟩
theorem g_name {i : Nat} {x : Str} (hN : X.N.Nodup) (hi : X.N[i]? = some x) (hx : Loc X.env.scope x) (hf : X.fn x = true ∨ X.env.scope.names.lookup x = some .local) : PG X (.Name x pos) (gI X.K fa (.name i)) :=
  PG.imp (pg_name hN hi hx hf) fun v σ H Q ⟨m, ρ, d, ρ', E, r, e, q⟩ => by
    cases e
    exact q _ (E.set i r) ⟨List.length_set, fun j hj => List.getElem?_set_ne (fun z => hj (by subst z; exact List.mem_singleton.mpr rfl))⟩
def plainT : Expr → Bool
  | .Name _ _ => true
  | .Tuple _ _ _ => true
  | _ => false
theorem each_cons {t : Expr} {ts : List Expr} {env : PySem.Env} (h : plainT t = true) : assignEach (t :: ts) env = (false, assign t env) :: assignEach ts env := by
  cases t <;> first | rfl | cases h
theorem each_len {env : PySem.Env} : ∀ {ts : List Expr}, ts.all plainT = true → (assignEach ts env).length = ts.length ∧ (assignEach ts env).findIdx? (·.1) = none
  | [], _ => ⟨rfl, rfl⟩
  | t :: ts, h => by
    rw [List.all_cons, Bool.and_eq_true] at h
    obtain ⟨h1, h2⟩ := each_len (env := env) h.2
    rw [each_cons h.1]
    refine ⟨by rw [List.length_cons, List.length_cons, h1], ?_⟩
    rw [List.findIdx?_cons, h2]
    rfl
theorem gs_nil : PGs X [] (gsI X.K fa .nil) := PGs.imp pgs_nil fun vs σ H Q ⟨m, ρ, ds, ρ', E, r, e, q⟩ => by
  cases ds with
  | nil => cases e; exact ⟨r, q _ E ⟨rfl, fun _ _ => rfl⟩⟩
  | cons d ds => cases e
theorem gs_cons {t : Expr} {ts : List Expr} {ct : CT} {cts : CTs} (h1 : PG X t (gI X.K fa ct)) (h2 : PGs X ts (gsI X.K fa cts)) (hp : plainT t = true) : PGs X (t :: ts) (gsI X.K fa (.cons ct cts)) :=
  PGs.imp (pgs_cons h1 h2 (by rw [each_cons hp]; rfl)) fun vs σ H Q ⟨m, ρ, ds, ρ', E, r, e, q⟩ => by
    cases ds with
    | nil => cases e
    | cons d ds =>
      obtain ⟨v, w, rfl, r1, r2⟩ := r
      have e : (match put ct d ρ with
        | some ρ' => puts cts ds ρ'
        | none => none) = some ρ' := e
      split at e
      · rename_i ρ1 e1
        exact ⟨v, w, rfl, m, ρ, d, ρ1, E, r1, e1, fun σ1 E1 o1 => ⟨m, ρ1, ds, ρ', E1, r2, e, fun σ2 E2 o2 => q σ2 E2 ⟨o2.1.trans o1.1, fun j hj => (o2.2 j fun z => hj (List.mem_append_right _ z)).trans (o1.2 j fun z => hj (List.mem_append_left _ z))⟩⟩⟩
      · cases e
/-- how many -/
def CTs.len : CTs → Nat
  | .nil => 0
  | .cons _ ts => ts.len + 1
theorem puts_length : ∀ {ts : CTs} {ds : List D} {ρ ρ' : Env}, puts ts ds ρ = some ρ' → ds.length = ts.len
  | .nil, ds, _, _, h => by
    cases ds with
    | nil => rfl
    | cons d ds => cases h
  | .cons t ts, ds, ρ, ρ', h => by
    cases ds with
    | nil => cases h
    | cons d ds =>
      have h : (match put t d ρ with
        | some ρ' => puts ts ds ρ'
        | none => none) = some ρ' := h
      split at h
      · rw [List.length_cons, puts_length h]
        rfl
      · cases h
theorem g_tup {ts : List Expr} {k : Nat} {cts : CTs} (hc : X.calm = true) (h : PGs X ts (gsI X.K fa cts)) (hp : ts.all plainT = true) (hl : ts.length = cts.len) : PG X (.Tuple ts k pos) (gI X.K fa (.tup cts)) :=
  PG.imp (pg_tup (n := ts.length) hc h (each_len hp).1 (each_len hp).2) fun v σ H Q ⟨m, ρ, d, ρ', E, r, e, q⟩ => by
    cases d with
    | tup ds =>
      obtain ⟨a, vs, rfl, hq, hr⟩ := r
      exact ⟨a, vs, rfl, hq, by rw [hl, ← puts_length (show puts cts ds ρ = some ρ' from e), hr.length], m, ρ, ds, ρ', E, hr, e, q⟩
    | _ => cases e

/-! ### what is walked -/
/-- J gives what itemAt gives -/
def WalksJ (K : PySem.W.Frag) (fa : Nat → Option Addr) (J : It) (src : Src) (ds : List D) (H1 : Hp) (m1 : List Addr) : Prop := ∀ i H2 m2 s2, LeW H1 m1 H2 m2 → RelS K fa H2 m2 s2 → match itemAt src ds i s2 with
  | none => True
  | some none => J.stop i H2
  | some (some d) => J.go i H2 ∧ ∀ x H3, J.yld i H2 x H3 → ∃ m3, Le H2 m2 H3 m3 ∧ RelS K fa H3 m3 s2 ∧ Rp K fa H3 m3 d x
def srcI (K : PySem.W.Frag) (fa : Nat → Option Addr) (XR : Nat → List D → Value → Option Addr → Hp → List Addr → Prop) (F : Funs) (W : WX) (src : Src) (ces : CEs) : TI := fun σ H R =>
  ∃ m ρ s, RelS K fa H m s ∧ EnvR K fa H m σ ρ ∧ Post K fa XR (RpL K fa) W σ H m (evs F ces ρ s) (fun vs H1 => ∃ m1 ds s1, Le H m H1 m1 ∧ RelS K fa H1 m1 s1 ∧ RpL K fa H1 m1 ds vs ∧ itemAt src ds 0 s1 ≠ none ∧ ∀ J : It, WalksJ K fa J src ds H1 m1 → R J H1)
theorem PI.imp {X : Cx} {tg e : Expr} {t t' : TI} (h : PI X tg e t) (i : ∀ σ H Q, t' σ H Q → t σ H Q) : PI X tg e t' := ⟨fun pins s σ H R I q => h.run pins s σ H R I (i σ H R q)⟩
/-- what can be walked: a tuple, or else a list -/
theorem items_k {H : Hp} {m : List Addr} {s : S} {d : D} {v : V} {xs : List D} (R : RelS X.K fa H m s) (r : Rp X.K fa H m d v) (e : itemsOf s d = some xs) : ∃ a vs, v = .ref a ∧ (if isTup d = true then SqT X.K H a vs else SqL X.K H a vs) ∧ RpL X.K fa H m xs vs := by
  cases d with
  | tup ds =>
    cases e
    obtain ⟨a, vs, rfl, q, z⟩ := r
    exact ⟨a, vs, rfl, iteT q, z⟩
  | lk ds =>
    cases e
    obtain ⟨a, vs, rfl, q, z⟩ := r
    exact ⟨a, vs, rfl, iteF q.l, z⟩
  | ref n =>
    simp only [itemsOf] at e
    split at e
    · rename_i ys hy
      cases e
      obtain ⟨a, vs, rfl, _, h1, z⟩ := cell_of R r hy
      exact ⟨a, vs, rfl, iteF (.inl (.inl h1)), z⟩
    · cases e
  | non => cases e
  | bl _ => cases e
  | int _ => cases e
  | str _ => cases e
  | fn _ => cases e
  | err _ _ _ => cases e
theorem ref_inj {a b : Addr} (h : V.ref a = V.ref b) : a = b := V.ref.inj h
/-- a value that is a list or a tuple -/
def iAny (K : PySem.W.Frag) (tl : TE) : TI := fun σ H R => tl σ H fun x H1 => ∃ a, x = .ref a ∧ (((∃ xs, SqL K H1 a xs) ∧ R (Itl K a) H1) ∨ ((∃ xs, SqT K H1 a xs) ∧ R (Itt K a) H1))
theorem pi_any {tg l : Expr} {tl : TE} (hl : PE X l tl) : PI X tg l (iAny X.K tl) := by
  refine ⟨fun pins s σ H R I h => ?_⟩
  refine thn (hl.run pins s σ H _ I h) fun v s1 ⟨x, H1, I1, r1, q1⟩ => ?_
  obtain ⟨a, e, q⟩ := q1
  subst e
  cases r1
  rcases q with ⟨⟨xs, hq⟩, q⟩ | ⟨⟨xs, hq⟩, q⟩
  · obtain ⟨its, rv, p, hz⟩ := I1.list hq
    refine wpAny_pyIter_list p.isList ?_
    refine ⟨s1.heap.objs.size, [s1.heap.objs.size], _, _, H1, rfl, I1.kept (t' := s1.toks) fun b o e => Heap.get?_push_of_some _ e, turn_list a _, ⟨_, Heap.get?_push_size _ rfl, rfl, rfl⟩, fun b hb => ?_, q⟩
    have e : b = s1.heap.objs.size := by simpa using hb
    subst e
    exact I1.fpOk (Nat.le_refl _) (I1.hok.fresh (Nat.le_refl _))
  · obtain ⟨its, rv, p, hz⟩ := I1.tuple hq
    refine wpAny_pyIter_tuple (show s1.heap.IsTuple a its.toArray from p) ?_
    refine ⟨s1.heap.objs.size, [s1.heap.objs.size], _, _, H1, rfl, I1.kept (t' := s1.toks) fun b o e => Heap.get?_push_of_some _ e, turn_tuple a _, ⟨_, Heap.get?_push_size _ rfl, rfl, rfl⟩, fun b hb => ?_, q⟩
    have e : b = s1.heap.objs.size := by simpa using hb
    subst e
    exact I1.fpOk (Nat.le_refl _) (I1.hok.fresh (Nat.le_refl _))
theorem none_len {xs : List D} {vs : List V} {i : Nat} {H : Hp} {m : List Addr} (r : RpL X.K fa H m xs vs) (e : xs[i]? = none) : vs.length ≤ i := by
  rw [← r.length]
  exact List.getElem?_eq_none_iff.mp e
theorem walks_seqL {H1 : Hp} {m1 : List Addr} {a : Addr} {d : D} (r : Rp X.K fa H1 m1 d (.ref a)) (ht : isTup d = false) : WalksJ X.K fa (Itl X.K a) .seq [d] H1 m1 := by
  intro i H2 m2 s2 l R2
  show (match (match itemsOf s2 d with | some xs => some xs[i]? | none => none) with
    | none => True
    | some none => (Itl X.K a).stop i H2
    | some (some d) => _)
  cases e : itemsOf s2 d with
  | none => trivial
  | some xs =>
    obtain ⟨b, vs, eb, hq, hr⟩ := items_k R2 (r.leW l) e
    cases ref_inj eb
    rw [ht] at hq
    have hq : SqL X.K H2 a vs := hq
    dsimp only
    cases e2 : xs[i]? with
    | none => exact ⟨vs, hq, none_len hr e2⟩
    | some x =>
      obtain ⟨v, hv, rv⟩ := hr.get e2
      refine ⟨⟨vs, v, hq, hv⟩, fun y H3 ⟨eH, hy⟩ => ?_⟩
      subst eH
      have := hy vs hq
      rw [hv] at this
      cases this
      exact ⟨m2, Le.refl, R2, rv⟩
theorem walks_seqT {H1 : Hp} {m1 : List Addr} {a : Addr} {d : D} (r : Rp X.K fa H1 m1 d (.ref a)) (ht : isTup d = true) : WalksJ X.K fa (Itt X.K a) .seq [d] H1 m1 := by
  intro i H2 m2 s2 l R2
  show (match (match itemsOf s2 d with | some xs => some xs[i]? | none => none) with
    | none => True
    | some none => (Itt X.K a).stop i H2
    | some (some d) => _)
  cases e : itemsOf s2 d with
  | none => trivial
  | some xs =>
    obtain ⟨b, vs, eb, hq, hr⟩ := items_k R2 (r.leW l) e
    cases ref_inj eb
    rw [ht] at hq
    have hq : SqT X.K H2 a vs := hq
    dsimp only
    cases e2 : xs[i]? with
    | none => exact ⟨vs, hq, none_len hr e2⟩
    | some x =>
      obtain ⟨v, hv, rv⟩ := hr.get e2
      refine ⟨⟨vs, v, hq, hv⟩, fun y H3 ⟨eH, hy⟩ => ?_⟩
      subst eH
      have := hy vs hq
      rw [hv] at this
      cases this
      exact ⟨m2, Le.refl, R2, rv⟩
theorem post_evs1 {ce : CE} {ρ : Env} {s : S} {σ : L2.St} {H : Hp} {m : List Addr} {Q : List V → Hp → Prop} (h : Post X.K fa XR (RpL X.K fa) W σ H m (evs F (.cons ce .nil) ρ s) Q) :
    Post X.K fa XR (Rp X.K fa) W σ H m (ev F ce ρ s) (fun v H1 => Q [v] H1) := by
  have h : Post X.K fa XR (RpL X.K fa) W σ H m ((ev F ce ρ s).bind fun d s => (R.ok [] s).bind fun ds s => .ok (d :: ds) s) Q := h
  cases e : ev F ce ρ s with
  | ok d s1 =>
    rw [e] at h
    intro v H1 m1 l R r
    exact h [v] H1 m1 l R ⟨v, [], rfl, r, rfl⟩
  | ex x fs s1 => rw [e] at h; exact h
  | no => rw [e] at h; exact h
theorem i_seq {tg e : Expr} {ce : CE} (he : PE X e (tI X.K fa XR F W ce)) : PI X tg e (srcI X.K fa XR F W .seq (.cons ce .nil)) :=
  PI.imp (pi_any he) fun σ H Rr ⟨m, ρ, s, R, E, h⟩ => ⟨m, ρ, s, R, E, (post_evs1 h).imp fun v H1 ⟨m1, ds, s1, l1, R1, r1, h0, hJ⟩ => by
    match ds, r1, h0, hJ with
    | [d], r1, h0, hJ =>
      obtain ⟨x, ex, r⟩ := rl1 r1
      cases ex
      have hi : ∃ xs, itemsOf s1 d = some xs := by
        cases q : itemsOf s1 d with
        | some xs => exact ⟨xs, rfl⟩
        | none =>
          exfalso
          apply h0
          show (match itemsOf s1 d with | some xs => some xs[0]? | none => none) = none
          rw [q]
      obtain ⟨xs, hx⟩ := hi
      obtain ⟨a, vs, rfl, hq, hr⟩ := items_k R1 r hx
      cases ht : isTup d with
      | true =>
        rw [ht] at hq
        exact ⟨a, rfl, .inr ⟨⟨vs, hq⟩, hJ _ (walks_seqT r ht)⟩⟩
      | false =>
        rw [ht] at hq
        exact ⟨a, rfl, .inl ⟨⟨vs, hq⟩, hJ _ (walks_seqL r ht)⟩⟩
    | [], r1, h0, hJ =>
      have := r1.length
      cases this
    | a :: b :: r, r1, h0, hJ =>
      have := r1.length
      simp at this⟩
theorem ints_one {ds : List D} {j : Int} {v : V} {H : Hp} {m : List Addr} {s : S} (r : RpL X.K fa H m ds [v]) (h0 : itemAt .rng1 ds 0 s ≠ none) : ∃ j, ds = [.int j] ∧ v = .int j ∧ j.natAbs < 4611686018427387904 := by
  match ds, r, h0 with
  | [], r, _ => have := r.length; cases this
  | a :: b :: t, r, _ => have := r.length; simp at this
  | [d], r, h0 =>
    obtain ⟨x, ex, r⟩ := rl1 r
    cases ex
    cases d with
    | int j =>
      cases r
      refine ⟨j, rfl, rfl, ?_⟩
      apply Classical.byContradiction
      intro z
      apply h0
      show (if decide (j.natAbs < 4611686018427387904) then some (if ((0 : Nat) : Int) < j then some (D.int (0 : Nat)) else none) else none) = none
      rw [decide_eq_false z]
      rfl
    | _ => exact absurd rfl h0
theorem i_rng1 {tg e : Expr} {ces : CEs} {p : Pos} (hg : Gl X "range") (hm : X.mg "range" = none) (ha : PA X [e] (tA X.K fa XR F W ces)) (hp : plainE e = true) : PI X tg (.Call (.Name "range" p) [e] [] pos) (srcI X.K fa XR F W .rng1 ces) :=
  PI.imp (pi_range1 hg hm ha (star_cons hp)) fun σ H Rr ⟨m, ρ, s, R, E, h⟩ => ⟨m, ρ, s, R, E, h.imp fun vs H1 ⟨m1, ds, s1, l1, R1, r1, h0, hJ⟩ => by
    have hv : ∃ v, vs = [v] := by
      have hl := r1.length
      match ds, h0 with
      | [d], _ =>
        match vs, hl with
        | [v], _ => exact ⟨v, rfl⟩
      | [], h0 => exact absurd rfl h0
      | a :: b :: t, h0 => cases a <;> exact absurd rfl h0
    obtain ⟨v, rfl⟩ := hv
    obtain ⟨j, rfl, rfl, hj⟩ := ints_one (j := 0) r1 h0
    refine ⟨j, rfl, by omega, by omega, hJ _ fun i H2 m2 s2 l R2 => ?_⟩
    show (match (if decide (j.natAbs < 4611686018427387904) then some (if (i : Int) < j then some (D.int i) else none) else none) with
      | none => True
      | some none => (Itr 0 j.toNat).stop i H2
      | some (some d) => _)
    rw [decide_eq_true hj]
    by_cases hi : (i : Int) < j
    · simp only [if_true, if_pos hi]
      refine ⟨show i < j.toNat by omega, fun x H3 ⟨eH, ex⟩ => ?_⟩
      subst eH
      subst ex
      exact ⟨m2, Le.refl, R2, by show V.int (0 + (i : Int)) = V.int (i : Int); rw [Int.zero_add]⟩
    · simp only [if_true, if_neg hi]
      exact (show j.toNat ≤ i by omega)⟩
theorem i_rng2 {tg e e2 : Expr} {ces : CEs} {p : Pos} (hg : Gl X "range") (hm : X.mg "range" = none) (ha : PA X [e, e2] (tA X.K fa XR F W ces)) (hp : plainE e = true) (hp2 : plainE e2 = true) : PI X tg (.Call (.Name "range" p) [e, e2] [] pos) (srcI X.K fa XR F W .rng2 ces) :=
  PI.imp (pi_range2 hg hm ha (by rw [star_cons hp, star_cons hp2]; rfl) (star_cons hp2)) fun σ H Rr ⟨m, ρ, s, R, E, h⟩ => ⟨m, ρ, s, R, E, h.imp fun vs H1 ⟨m1, ds, s1, l1, R1, r1, h0, hJ⟩ => by
    have hv : ∃ i j, ds = [.int i, .int j] ∧ i.natAbs < 4611686018427387904 ∧ j.natAbs < 4611686018427387904 := by
      match ds, h0 with
      | [], h0 => exact absurd rfl h0
      | [a], h0 => cases a <;> exact absurd rfl h0
      | a :: b :: c :: t, h0 => cases a <;> cases b <;> exact absurd rfl h0
      | [a, b], h0 =>
        cases a with
        | int i =>
          cases b with
          | int j =>
            refine ⟨i, j, rfl, ?_⟩
            apply Classical.byContradiction
            intro z
            apply h0
            show (if decide (i.natAbs < 4611686018427387904) && decide (j.natAbs < 4611686018427387904) then some (if i + ((0 : Nat) : Int) < j then some (D.int (i + (0 : Nat))) else none) else none) = none
            have : (decide (i.natAbs < 4611686018427387904) && decide (j.natAbs < 4611686018427387904)) = false := by
              rw [← Bool.not_eq_true, Bool.and_eq_true, decide_eq_true_eq, decide_eq_true_eq]
              exact z
            rw [this]
            rfl
          | _ => exact absurd rfl h0
        | _ => cases b <;> exact absurd rfl h0
    obtain ⟨lo, j, rfl, hi, hj⟩ := hv
    obtain ⟨x, y, rfl, rx, ry⟩ := rl2 r1
    cases rx
    cases ry
    refine ⟨lo, j, rfl, by omega, hJ _ fun i H2 m2 s2 l R2 => ?_⟩
    show (match (if decide (lo.natAbs < 4611686018427387904) && decide (j.natAbs < 4611686018427387904) then some (if lo + (i : Int) < j then some (D.int (lo + i)) else none) else none) with
      | none => True
      | some none => (Itr lo (j - lo).toNat).stop i H2
      | some (some d) => _)
    rw [decide_eq_true hi, decide_eq_true hj]
    by_cases hk : lo + (i : Int) < j
    · simp only [Bool.and_self, if_true, if_pos hk]
      refine ⟨show i < (j - lo).toNat by omega, fun x H3 ⟨eH, ex⟩ => ?_⟩
      subst eH
      subst ex
      exact ⟨m2, Le.refl, R2, rfl⟩
    · simp only [Bool.and_self, if_true, if_neg hk]
      exact (show (j - lo).toNat ≤ i by omega)⟩
end
end Mi

set_option linter.all false
set_option maxRecDepth 100000
set_option maxHeartbeats 2000000
namespace Mi
open PySem PySem.Spec PyProof.Rows L2

section
variable {X : Cx} {fa : Nat → Option Addr} {XR : Nat → List D → Value → Option Addr → Hp → List Addr → Prop} {F : Funs} {W : WX} {a b c : Expr} {ca cb cc : CE} {es : List Expr} {ces : CEs} {pos : Pos}
theorem walks_enum {H1 : Hp} {m1 : List Addr} {a : Addr} {d : D} (r : Rp X.K fa H1 m1 d (.ref a)) (ht : isTup d = false) : WalksJ X.K fa (Ite X.K a) .enum [d] H1 m1 := by
  intro i H2 m2 s2 l R2
  show (match (if isTup d then none else match itemsOf s2 d with
    | some xs => some (match xs[i]? with | some x => some (D.tup [.int i, x]) | none => none)
    | none => none) with
    | none => True
    | some none => (Ite X.K a).stop i H2
    | some (some d) => _)
  rw [ht]
  simp only [Bool.false_eq_true, if_false]
  cases e : itemsOf s2 d with
  | none => trivial
  | some xs =>
    obtain ⟨b, vs, eb, hq, hr⟩ := items_k R2 (r.leW l) e
    cases ref_inj eb
    rw [ht] at hq
    have hq : SqL X.K H2 a vs := hq
    dsimp only
    cases e2 : xs[i]? with
    | none => exact ⟨vs, hq, none_len hr e2⟩
    | some x =>
      obtain ⟨v, hv, rv⟩ := hr.get e2
      refine ⟨⟨vs, v, hq, hv⟩, fun y H3 ⟨T, z, ey, hT, eH, hy⟩ => ?_⟩
      subst eH
      subst ey
      have := hy vs hq
      rw [hv] at this
      cases this
      exact ⟨m2, le_new hT, R2.new hT, T, _, rfl, .inl (.inl upd_same), _, _, rfl, rfl, _, _, rfl, rv.le (le_new hT), rfl⟩
theorem walks_zipL {H1 : Hp} {m1 : List Addr} {a b : Addr} {d e : D} (r : Rp X.K fa H1 m1 d (.ref a)) (r' : Rp X.K fa H1 m1 e (.ref b)) (ht : isTup d = false) (ht' : isTup e = false) : WalksJ X.K fa (Itz X.K a b) .zip [d, e] H1 m1 := by
  intro i H2 m2 s2 l R2
  show (match (if isTup d != isTup e then none else match itemsOf s2 d, itemsOf s2 e with
    | some xs, some ys => some (match xs[i]?, ys[i]? with | some x, some y => some (D.tup [x, y]) | _, _ => none)
    | _, _ => none) with
    | none => True
    | some none => (Itz X.K a b).stop i H2
    | some (some d) => _)
  rw [ht, ht']
  simp only [bne_self_eq_false, Bool.false_eq_true, if_false]
  cases e1 : itemsOf s2 d with
  | none => trivial
  | some xs =>
    cases e1' : itemsOf s2 e with
    | none => trivial
    | some ys =>
      obtain ⟨b1, vs, eb, hq, hr⟩ := items_k R2 (r.leW l) e1
      cases ref_inj eb
      rw [ht] at hq
      have hq : SqL X.K H2 a vs := hq
      obtain ⟨b2, ws, eb, hq', hr'⟩ := items_k R2 (r'.leW l) e1'
      cases ref_inj eb
      rw [ht'] at hq'
      have hq' : SqL X.K H2 b ws := hq'
      dsimp only
      cases e2 : xs[i]? with
      | none => exact ⟨vs, ws, hq, hq', .inl (none_len hr e2)⟩
      | some x =>
        cases e2' : ys[i]? with
        | none => exact ⟨vs, ws, hq, hq', .inr (none_len hr' e2')⟩
        | some y =>
          obtain ⟨v, hv, rv⟩ := hr.get e2
          obtain ⟨w, hw, rw'⟩ := hr'.get e2'
          refine ⟨⟨vs, ws, v, w, hq, hq', hv, hw⟩, fun y H3 ⟨T, z, z', ey, hT, eH, hy, hy'⟩ => ?_⟩
          subst eH
          subst ey
          have h1 := hy vs hq
          rw [hv] at h1
          cases h1
          have h2 := hy' ws hq'
          rw [hw] at h2
          cases h2
          exact ⟨m2, le_new hT, R2.new hT, T, _, rfl, .inl (.inl upd_same), _, _, rfl, rv.le (le_new hT), _, _, rfl, rw'.le (le_new hT), rfl⟩
theorem walks_zipT {H1 : Hp} {m1 : List Addr} {a b : Addr} {d e : D} (r : Rp X.K fa H1 m1 d (.ref a)) (r' : Rp X.K fa H1 m1 e (.ref b)) (ht : isTup d = true) (ht' : isTup e = true) : WalksJ X.K fa (RZ.ItzT X.K a b) .zip [d, e] H1 m1 := by
  intro i H2 m2 s2 l R2
  show (match (if isTup d != isTup e then none else match itemsOf s2 d, itemsOf s2 e with
    | some xs, some ys => some (match xs[i]?, ys[i]? with | some x, some y => some (D.tup [x, y]) | _, _ => none)
    | _, _ => none) with
    | none => True
    | some none => (RZ.ItzT X.K a b).stop i H2
    | some (some d) => _)
  rw [ht, ht']
  simp only [bne_self_eq_false, Bool.false_eq_true, if_false]
  cases e1 : itemsOf s2 d with
  | none => trivial
  | some xs =>
    cases e1' : itemsOf s2 e with
    | none => trivial
    | some ys =>
      obtain ⟨b1, vs, eb, hq, hr⟩ := items_k R2 (r.leW l) e1
      cases ref_inj eb
      rw [ht] at hq
      have hq : SqT X.K H2 a vs := hq
      obtain ⟨b2, ws, eb, hq', hr'⟩ := items_k R2 (r'.leW l) e1'
      cases ref_inj eb
      rw [ht'] at hq'
      have hq' : SqT X.K H2 b ws := hq'
      dsimp only
      cases e2 : xs[i]? with
      | none => exact ⟨vs, ws, hq, hq', .inl (none_len hr e2)⟩
      | some x =>
        cases e2' : ys[i]? with
        | none => exact ⟨vs, ws, hq, hq', .inr (none_len hr' e2')⟩
        | some y =>
          obtain ⟨v, hv, rv⟩ := hr.get e2
          obtain ⟨w, hw, rw'⟩ := hr'.get e2'
          refine ⟨⟨vs, ws, v, w, hq, hq', hv, hw⟩, fun y H3 ⟨T, z, z', ey, hT, eH, hy, hy'⟩ => ?_⟩
          subst eH
          subst ey
          have h1 := hy vs hq
          rw [hv] at h1
          cases h1
          have h2 := hy' ws hq'
          rw [hw] at h2
          cases h2
          exact ⟨m2, le_new hT, R2.new hT, T, _, rfl, .inl (.inl upd_same), _, _, rfl, rv.le (le_new hT), _, _, rfl, rw'.le (le_new hT), rfl⟩
theorem i_enum {tpos : Pos} {elts : List Expr} {kk : Nat} {e : Expr} {ces : CEs} {p : Pos} (hg : Gl X "enumerate") (hm : X.mg "enumerate" = none) (ha : PA X [e] (tA X.K fa XR F W ces)) (hp : plainE e = true) :
    PI X (.Tuple elts kk tpos) (.Call (.Name "enumerate" p) [e] [] pos) (srcI X.K fa XR F W .enum ces) :=
  PI.imp (pi_enum hg hm ha (star_cons hp)) fun σ H Rr ⟨m, ρ, s, R, E, h⟩ => ⟨m, ρ, s, R, E, h.imp fun vs H1 ⟨m1, ds, s1, l1, R1, r1, h0, hJ⟩ => by
    match ds, r1, h0, hJ with
    | [], r1, h0, _ => exact absurd rfl h0
    | a :: b :: t, r1, h0, _ => exact absurd rfl h0
    | [d], r1, h0, hJ =>
      obtain ⟨x, rfl, r⟩ := rl1 r1
      have h0 : (if isTup d then none else match itemsOf s1 d with
        | some xs => some (match xs[0]? with | some x => some (D.tup [.int (0 : Nat), x]) | none => none)
        | none => none) ≠ (none : Option (Option D)) := h0
      cases ht : isTup d with
      | true => rw [ht] at h0; exact absurd rfl h0
      | false =>
        rw [ht] at h0
        simp only [Bool.false_eq_true, if_false] at h0
        cases q : itemsOf s1 d with
        | none => rw [q] at h0; exact absurd rfl h0
        | some xs =>
          obtain ⟨a, vs, rfl, hq, hr⟩ := items_k R1 r q
          rw [ht] at hq
          exact ⟨a, vs, rfl, hq, hJ _ (walks_enum r ht)⟩⟩
theorem i_zip {tpos : Pos} {elts : List Expr} {kk : Nat} {e e2 : Expr} {ces : CEs} {p : Pos} (hg : Gl X "zip") (hm : X.mg "zip" = none) (ha : PA X [e, e2] (tA X.K fa XR F W ces)) (hp : plainE e = true) (hp2 : plainE e2 = true) :
    PI X (.Tuple elts kk tpos) (.Call (.Name "zip" p) [e, e2] [] pos) (srcI X.K fa XR F W .zip ces) :=
  PI.imp (RZ.pi_zipA hg hm ha (star_cons hp) (back_any (by rw [List.all_cons, hp2]; rfl))) fun σ H Rr ⟨m, ρ, s, R, E, h⟩ => ⟨m, ρ, s, R, E, h.imp fun vs H1 ⟨m1, ds, s1, l1, R1, r1, h0, hJ⟩ => by
    match ds, r1, h0, hJ with
    | [], r1, h0, _ => exact absurd rfl h0
    | [a], r1, h0, _ => exact absurd rfl h0
    | a :: b :: c :: t, r1, h0, _ => exact absurd rfl h0
    | [d, d'], r1, h0, hJ =>
      obtain ⟨x, y, rfl, r, r'⟩ := rl2 r1
      have h0 : (if isTup d != isTup d' then none else match itemsOf s1 d, itemsOf s1 d' with
        | some xs, some ys => some (match xs[0]?, ys[0]? with | some x, some y => some (D.tup [x, y]) | _, _ => none)
        | _, _ => none) ≠ (none : Option (Option D)) := h0
      have hne : (isTup d != isTup d') = false := by
        cases q : (isTup d != isTup d') with
        | true => rw [q] at h0; exact absurd rfl h0
        | false => rfl
      rw [hne] at h0
      simp only [Bool.false_eq_true, if_false] at h0
      cases q : itemsOf s1 d with
      | none => rw [q] at h0; exact absurd rfl h0
      | some xs =>
        cases q' : itemsOf s1 d' with
        | none => rw [q, q'] at h0; exact absurd rfl h0
        | some ys =>
          obtain ⟨a, vs, rfl, hq, hr⟩ := items_k R1 r q
          obtain ⟨b, ws, rfl, hq', hr'⟩ := items_k R1 r' q'
          refine ⟨a, b, vs, ws, rfl, ?_⟩
          cases ht : isTup d with
          | true =>
            have ht' : isTup d' = true := by
              rw [ht] at hne
              cases z : isTup d' with
              | true => rfl
              | false => rw [z] at hne; cases hne
            rw [ht] at hq
            rw [ht'] at hq'
            exact .inr ⟨hq, hq', hJ _ (walks_zipT r r' ht ht')⟩
          | false =>
            have ht' : isTup d' = false := by
              rw [ht] at hne
              cases z : isTup d' with
              | false => rfl
              | true => rw [z] at hne; cases hne
            rw [ht] at hq
            rw [ht'] at hq'
            exact .inl ⟨hq, hq', hJ _ (walks_zipL r r' ht ht')⟩⟩
end
end Mi

set_option linter.all false
set_option maxRecDepth 100000
set_option maxHeartbeats 2000000
namespace Mi
open PySem PySem.Spec PyProof.Rows L2

/-! ### zip of three, lists and tuples in any mix; b: a tuple -/
def SqK (b : Bool) (K : PySem.W.Frag) (H : Hp) (a : Addr) (xs : List V) : Prop := match b with
  | true => SqT K H a xs
  | false => SqL K H a xs
def ItK (b : Bool) (h : Heap) (it a : Addr) (i : Nat) : Prop := match b with
  | true => h.IsTupleIter it a i
  | false => h.IsListIter it a i
def IsK (b : Bool) (h : Heap) (a : Addr) (xs : Array Value) : Prop := match b with
  | true => h.IsTuple a xs
  | false => h.IsList a xs
theorem ItK.at {b : Bool} {h h' : Heap} {it a : Addr} {i : Nat} (x : ItK b h it a i) (e : ∀ o, h.get? it = some o → h'.get? it = some o) : ItK b h' it a i := by
  cases b with
  | true => obtain ⟨o, h1, h2⟩ := x; exact ⟨o, e _ h1, h2⟩
  | false => obtain ⟨o, h1, h2⟩ := x; exact ⟨o, e _ h1, h2⟩
theorem IsK.at {b : Bool} {h h' : Heap} {a : Addr} {xs : Array Value} (x : IsK b h a xs) (e : ∀ o, h.get? a = some o → h'.get? a = some o) : IsK b h' a xs := by
  cases b with
  | true => obtain ⟨o, h1, h2⟩ := x; exact ⟨o, e _ h1, h2⟩
  | false => obtain ⟨o, h1, h2⟩ := x; exact ⟨o, e _ h1, h2⟩
theorem ItK.ob {b : Bool} {h : Heap} {it a : Addr} {i : Nat} (x : ItK b h it a i) : ∃ o, h.get? it = some o ∧ ∀ v, o.data ≠ .cell v := by
  cases b with
  | true => obtain ⟨o, h1, _, h2⟩ := x; exact ⟨o, h1, fun v q => by rw [h2] at q; cases q⟩
  | false => obtain ⟨o, h1, _, h2⟩ := x; exact ⟨o, h1, fun v q => by rw [h2] at q; cases q⟩
theorem IsK.lt {b : Bool} {h : Heap} {a : Addr} {xs : Array Value} (x : IsK b h a xs) : a < h.objs.size := by
  cases b with
  | true => obtain ⟨o, h1, _⟩ := x; exact Heap.lt_size h1
  | false => obtain ⟨o, h1, _⟩ := x; exact Heap.lt_size h1
/-- what is drawn from item i on -/
theorem drawsFrom {prog : Program} {w : World} {A : Around} (hh : A.handled = none) (b : Bool) (it l : Addr) (hne : l ≠ it) (items : Array Value) (i : Nat) :
    Draws prog w A it [it, l] (max items.size i) (fun j v => items[j]? = some v) (fun j h => i ≤ j ∧ ItK b h it l j ∧ IsK b h l items) where
  live := fun _ _ st => let ⟨o, ho, _⟩ := st.2.1.ob; ⟨o, ho⟩
  frame := fun _ _ _ st hk => ⟨st.1, st.2.1.at fun o e => hk it (by simp) o e, st.2.2.at fun o e => hk l (by simp) o e⟩
  item := fun j s Q E hj st hQ => by
    obtain ⟨h0, h1, h2⟩ := st
    have hlt : j < items.size := by omega
    cases b with
    | true =>
      refine wpAny_nextOf_tuple_item (show s.heap.IsTupleIter it l j from h1) (show s.heap.IsTuple l items from h2) (x := items[j]) (by simp [hlt]) fun h' hit' hs' => ?_
      exact hQ _ h' s.toks (by simp [hlt]) ⟨by omega, hit', (show s.heap.IsTuple l items from h2).extBut hs'.extBut hne⟩ hs'
    | false =>
      refine wpAny_nextOf_list_item (show s.heap.IsListIter it l j from h1) (show s.heap.IsList l items from h2) (x := items[j]) (by simp [hlt]) fun h' hit' hs' => ?_
      exact hQ _ h' s.toks (by simp [hlt]) ⟨by omega, hit', (show s.heap.IsList l items from h2).extBut hs'.extBut hne⟩ hs'
  done := fun s Q E st hE => by
    obtain ⟨h0, h1, h2⟩ := st
    have hn : items[max items.size i]? = none := by rw [Array.getElem?_eq_none]; omega
    cases b with
    | true => exact wpAny_nextOf_tuple_end hh (show s.heap.IsTupleIter it l _ from h1) (show s.heap.IsTuple l items from h2) hn hE
    | false => exact wpAny_nextOf_list_end hh (show s.heap.IsListIter it l _ from h1) (show s.heap.IsList l items from h2) hn hE
def obK (b : Bool) (l : Addr) : Obj := match b with
  | true => { cls := .type "tuple_iterator", data := .fields #[.ref l, .int 0 0] }
  | false => { cls := .type "list_iterator", data := .fields #[.ref l, .int 0 0] }
theorem beginsK (b : Bool) (l : Addr) (items : Array Value) : Begins (.ref l) (obK b l) fun h => IsK b h l items := by
  cases b with
  | true => exact begins_tuple l items
  | false => exact begins_list l items
theorem itK_0 {b : Bool} {h : Heap} {it l : Addr} (e : h.get? it = some (obK b l)) : ItK b h it l 0 := by
  cases b with
  | true => exact ⟨_, e, rfl, rfl⟩
  | false => exact ⟨_, e, rfl, rfl⟩
theorem seqK {X : Cx} {pins : List (Addr × Obj)} {σ : L2.St} {H : Hp} {s : Shared} {a : Addr} {xs : List V} {b : Bool} (I : Inv X pins σ H s) (h : SqK b X.K H a xs) : ∃ its : List Value, Vals xs its ∧ IsK b s.heap a its.toArray := by
  cases b with
  | true =>
    obtain ⟨its, rv, p, _⟩ := I.tuple (show SqT X.K H a xs from h)
    exact ⟨its, rv, show s.heap.IsTuple a its.toArray from p⟩
  | false =>
    obtain ⟨its, rv, p, _⟩ := I.list (show SqL X.K H a xs from h)
    exact ⟨its, rv, p.isList⟩
theorem seqK_inj {X : Cx} {pins : List (Addr × Obj)} {σ : L2.St} {H : Hp} {s : Shared} {a : Addr} {xs ys : List V} {b : Bool} (I : Inv X pins σ H s) (h : SqK b X.K H a xs) (h' : SqK b X.K H a ys) : xs = ys := by
  cases b with
  | true => exact I.tuple_inj (show SqT X.K H a xs from h) h'
  | false => exact I.list_inj (show SqL X.K H a xs from h) h'
def Itz3 (K : PySem.W.Frag) (p q r : Bool) (a b c : Addr) : It :=
  ⟨fun i H => ∃ (xs ys zs : List V) (x y z : V), SqK p K H a xs ∧ SqK q K H b ys ∧ SqK r K H c zs ∧ xs[i]? = some x ∧ ys[i]? = some y ∧ zs[i]? = some z,
    fun i H v H' => ∃ T x y z, v = .ref T ∧ H T = none ∧ H' = upd H T (.tup [x, y, z]) ∧ (∀ xs, SqK p K H a xs → xs[i]? = some x) ∧ (∀ ys, SqK q K H b ys → ys[i]? = some y) ∧ ∀ zs, SqK r K H c zs → zs[i]? = some z,
    fun i H => ∃ xs ys zs : List V, SqK p K H a xs ∧ SqK q K H b ys ∧ SqK r K H c zs ∧ (xs.length ≤ i ∨ ys.length ≤ i ∨ zs.length ≤ i)⟩
theorem turn_zip3 {P : Program} {w : World} {K : PySem.W.Frag} {elts : List Expr} {kk : Nat} {tpos : Pos} {p q r : Bool} {a b c z TI TO i1 i2 i3 : Addr} (D : ZipSep3 z TI TO i1 i2 i3 [i1, a] [i2, b] [i3, c]) (n1 : a ≠ i1) (n2 : b ≠ i2) (n3 : c ≠ i3) :
    Turn P w K (.Tuple elts kk tpos) (Itz3 K p q r a b c) [z, TI, TO, i1, i2, i3] z (fun i h => IsZip h z TI TO .none ∧ IsTupOf3 h TI (.ref i1) (.ref i2) (.ref i3) ∧ (∃ a1 a2 a3, IsTupOf3 h TO a1 a2 a3) ∧ ItK p h i1 a i ∧ ItK q h i2 b i ∧ ItK r h i3 c i) where
  mem := by simp
  obj := fun i h st d hd => by
    obtain ⟨hz, hTI, ⟨x, y, u, hTO⟩, h1, h2, h3⟩ := st
    have e' : d = z ∨ d = TI ∨ d = TO ∨ d = i1 ∨ d = i2 ∨ d = i3 := by simpa using hd
    rcases e' with q | q | q | q | q | q
    · rw [q]; exact ⟨_, hz, fun v q => nomatch q⟩
    · rw [q]; exact ⟨_, hTI, fun v q => nomatch q⟩
    · rw [q]; exact ⟨_, hTO, fun v q => nomatch q⟩
    · rw [q]; exact h1.ob
    · rw [q]; exact h2.ob
    · rw [q]; exact h3.ob
  keep := fun i h h' st k => by
    obtain ⟨hz, hTI, ⟨x, y, u, hTO⟩, h1, h2, h3⟩ := st
    exact ⟨k z (by simp) _ hz, k TI (by simp) _ hTI, ⟨x, y, u, k TO (by simp) _ hTO⟩, h1.at fun o q => k i1 (by simp) o q, h2.at fun o q => k i2 (by simp) o q, h3.at fun o q => k i3 (by simp) o q⟩
  item := by
    intro X hP hw hK hc i pins s σ H E I hf st hg
    subst hP hw hK
    obtain ⟨hz, hTI, hTO, h1, h2, h3⟩ := st
    obtain ⟨xs, ys, zs, x, y, u, hqx, hqy, hqz, hx, hy, hu⟩ := hg
    obtain ⟨its1, rv1, p1⟩ := seqK I hqx
    obtain ⟨its2, rv2, p2⟩ := seqK I hqy
    obtain ⟨its3, rv3, p3⟩ := seqK I hqz
    obtain ⟨u1, hu1, ru1⟩ := rv1.get hx
    obtain ⟨u2, hu2, ru2⟩ := rv2.get hy
    obtain ⟨u3, hu3, ru3⟩ := rv3.get hu
    have hh : X.A.in1.handled = none := I.ok.hd hc
    have W := WalksT.zipD3 (prog := X.prog) (w := X.w) (A := X.A) D (drawsFrom hh p i1 a n1 its1.toArray i) (drawsFrom hh q i2 b n2 its2.toArray i) (drawsFrom hh r i3 c n3 its3.toArray i)
    have l1 : i < its1.length := by
      rcases Nat.lt_or_ge i its1.length with g | g
      · exact g
      · rw [List.getElem?_eq_none g] at hu1; cases hu1
    have l2 : i < its2.length := by
      rcases Nat.lt_or_ge i its2.length with g | g
      · exact g
      · rw [List.getElem?_eq_none g] at hu2; cases hu2
    have l3 : i < its3.length := by
      rcases Nat.lt_or_ge i its3.length with g | g
      · exact g
      · rw [List.getElem?_eq_none g] at hu3; cases hu3
    have hi : i < min (min (max its1.toArray.size i) (max its2.toArray.size i)) (max its3.toArray.size i) := by
      simp only [List.size_toArray]
      omega
    refine W.item i s _ _ hi ⟨hz, hTI, hTO, ⟨Nat.le_refl _, h1, p1⟩, ⟨Nat.le_refl _, h2, p2⟩, ⟨Nat.le_refl _, h3, p3⟩⟩ fun T vals h' tk hP hT hTup hMid hk => ?_
    refine ⟨.ref T, rfl, W.go elts kk tpos i T _ _ _ hMid fun h'' st'' hk'' => ?_⟩
    obtain ⟨w1, w2, w3, e1, e2, e3, rfl⟩ := hP
    have e1 : its1.toArray[i]? = some w1 := e1
    have e2 : its2.toArray[i]? = some w2 := e2
    have e3 : its3.toArray[i]? = some w3 := e3
    rw [List.getElem?_toArray, hu1] at e1
    rw [List.getElem?_toArray, hu2] at e2
    rw [List.getElem?_toArray, hu3] at e3
    cases e1; cases e2; cases e3
    have hT2 : h''.IsTuple T #[u1, u2, u3] := hTup.at fun o e => hk'' T o (W.apart i T h' hMid) e
    have new : ObjOk X.prog X.w (upd H T (.tup [x, y, u])) h'' T (.tup [x, y, u]) :=
      ⟨by show 3 ≤ sizeLine; decide, [u1, u2, u3], .cons ru1 (.cons ru2 (.cons ru3 .nil)), hT2⟩
    have hlt : ∀ d, d ∈ [z, TI, TO, i1, i2, i3] → d < s.heap.objs.size := fun d hd => by
      have e' : d = z ∨ d = TI ∨ d = TO ∨ d = i1 ∨ d = i2 ∨ d = i3 := by simpa using hd
      obtain ⟨x, y, u, hTO⟩ := hTO
      rcases e' with q | q | q | q | q | q
      · rw [q]; exact Heap.lt_size hz
      · rw [q]; exact Heap.lt_size hTI
      · rw [q]; exact Heap.lt_size hTO
      · rw [q]; obtain ⟨_, e, _⟩ := h1.ob; exact Heap.lt_size e
      · rw [q]; obtain ⟨_, e, _⟩ := h2.ob; exact Heap.lt_size e
      · rw [q]; obtain ⟨_, e, _⟩ := h3.ob; exact Heap.lt_size e
    have I1 : Inv X pins σ (upd H T (.tup [x, y, u])) { s with heap := h'', toks := tk } :=
      I.turnedNew (t' := tk) (ch := [z, TI, TO, i1, i2, i3]) (fun d o hd e => hk'' d o (fun g => hd (by
        have : d = z ∨ d = TO ∨ d = i1 ∨ d = i2 ∨ d = i3 := by simpa using g
        rcases this with g | g | g | g | g <;> simp [g])) (hk d o (fun g => hd (by
        have : d = z ∨ d = TO ∨ d = i1 ∨ d = i2 ∨ d = i3 := by simpa using g
        rcases this with g | g | g | g | g <;> simp [g])) e)) hf hT new
    obtain ⟨z', TI', TO', s1', s2', s3'⟩ := st''
    refine ⟨.ref T, _, I1, rfl, ⟨T, x, y, u, rfl, I.hok.fresh hT, rfl, fun l hl => by rw [seqK_inj I hl hqx]; exact hx, fun l hl => by rw [seqK_inj I hl hqy]; exact hy, fun l hl => by rw [seqK_inj I hl hqz]; exact hu⟩,
      ⟨z', TI', TO', s1'.2.1, s2'.2.1, s3'.2.1⟩, fun d hd => ?_⟩
    rw [upd_ne (Nat.ne_of_lt (Nat.lt_of_lt_of_le (hlt d hd) hT))]
    exact (hf d hd).1
  done := by
    intro X hP hw hK hc i pins s σ H E I hf st hg
    subst hP hw hK
    obtain ⟨hz, hTI, hTO, h1, h2, h3⟩ := st
    obtain ⟨xs, ys, zs, hqx, hqy, hqz, hend⟩ := hg
    obtain ⟨its1, rv1, p1⟩ := seqK I hqx
    obtain ⟨its2, rv2, p2⟩ := seqK I hqy
    obtain ⟨its3, rv3, p3⟩ := seqK I hqz
    have hh : X.A.in1.handled = none := I.ok.hd hc
    have W := WalksT.zipD3 (prog := X.prog) (w := X.w) (A := X.A) D (drawsFrom hh p i1 a n1 its1.toArray i) (drawsFrom hh q i2 b n2 its2.toArray i) (drawsFrom hh r i3 c n3 its3.toArray i)
    have l1 := rv1.length
    have l2 := rv2.length
    have l3 := rv3.length
    have hn : min (min (max its1.toArray.size i) (max its2.toArray.size i)) (max its3.toArray.size i) = i := by
      simp only [List.size_toArray]
      omega
    refine W.done s _ _ (by rw [hn]; exact ⟨hz, hTI, hTO, ⟨Nat.le_refl _, h1, p1⟩, ⟨Nat.le_refl _, h2, p2⟩, ⟨Nat.le_refl _, h3, p3⟩⟩) fun h' tk hk => ⟨rfl, ?_⟩
    exact I.turnedL (t' := tk) (ch := [z, TI, TO, i1, i2, i3]) (fun d o hd e => hk d o (fun g => hd (by
        have : d = z ∨ d = TO ∨ d = i1 ∨ d = i2 ∨ d = i3 := by simpa using g
        rcases this with g | g | g | g | g <;> simp [g])) e) hf
  self := fun A i s Q E st h => wpAny_pyIter_zip st.1 h
def iZ3 (K : PySem.W.Frag) (ta : TA) : TI := fun σ H R => ta σ H fun vs H1 => ∃ p q r a b c xs ys zs, vs = [.ref a, .ref b, .ref c] ∧ SqK p K H1 a xs ∧ SqK q K H1 b ys ∧ SqK r K H1 c zs ∧ R (Itz3 K p q r a b c) H1
theorem pi_zip3 {X : Cx} {e e2 e3 : Expr} {ta : TA} {p pos tpos : Pos} {elts : List Expr} {kk : Nat} (hg : Gl X "zip") (hm : X.mg "zip" = none) (ha : PA X [e, e2, e3] ta)
    (hs : starEach [e, e2, e3] X.env = (false, eval e X.env) :: starEach [e2, e3] X.env := by rfl) (hpl : (backTo pos (starEach [e2, e3] X.env)).any (·.1) = false := by rfl) :
    PI X (.Tuple elts kk tpos) (.Call (.Name "zip" p) [e, e2, e3] [] pos) (iZ3 X.K ta) := by
  refine ⟨fun pins s σ H R I h => ?_⟩
  refine Call_ (ld_blt I hg hm PyProof.Rows.boot_zip (PyProof.Rows.callWith_type1 (thn (ha.run pos pins s σ H _ I h) fun us s1 ⟨vs, H1, I1, r1, q1⟩ => ?_) hs hpl))
  obtain ⟨p, q, r, a, b, c, xs, ys, zs, ex, hqx, hqy, hqz, q1⟩ := q1
  subst ex
  cases r1 with
  | cons r1 rr =>
    cases rr with
    | cons r2 rr =>
      cases rr with
      | cons r3 rr =>
      cases rr
      cases r1
      cases r2
      cases r3
      have fresh6 : ∀ d, d ∈ [s1.heap.objs.size + 5, s1.heap.objs.size + 3, s1.heap.objs.size + 4, s1.heap.objs.size, s1.heap.objs.size + 1, s1.heap.objs.size + 2] → FpOk X pins H1 d := fun d hd => by
        have e' : d = s1.heap.objs.size + 5 ∨ d = s1.heap.objs.size + 3 ∨ d = s1.heap.objs.size + 4 ∨ d = s1.heap.objs.size ∨ d = s1.heap.objs.size + 1 ∨ d = s1.heap.objs.size + 2 := by simpa using hd
        have hle : s1.heap.objs.size ≤ d := by
          rcases e' with z | z | z | z | z | z
          · rw [z]; exact Nat.le_add_right _ _
          · rw [z]; exact Nat.le_add_right _ _
          · rw [z]; exact Nat.le_add_right _ _
          · rw [z]; exact Nat.le_refl _
          · rw [z]; exact Nat.le_add_right _ _
          · rw [z]; exact Nat.le_add_right _ _
        exact I1.fpOk hle (I1.hok.fresh hle)
      obtain ⟨its1, rv1, p1⟩ := seqK I1 hqx
      obtain ⟨its2, rv2, p2⟩ := seqK I1 hqy
      obtain ⟨its3, rv3, p3⟩ := seqK I1 hqz
      refine zip_begins3 (beginsK p a its1.toArray) (beginsK q b its2.toArray) (beginsK r c its3.toArray) p1 p2 p3 fun h' hz hTI hTO g1 g2 g3 hsz hk => wpAny_pyIter_zip hz ?_
      have I2 : Inv X pins σ H1 { s1 with heap := h' } := I1.kept (t' := s1.toks) hk
      have S := zip_sep3 (N := s1.heap.objs.size) (fp1 := [a]) (fp2 := [b]) (fp3 := [c]) (fun d hd => by rw [List.mem_singleton.mp hd]; exact p1.lt) (fun d hd => by rw [List.mem_singleton.mp hd]; exact p2.lt) (fun d hd => by rw [List.mem_singleton.mp hd]; exact p3.lt)
      have m1 : a ≠ s1.heap.objs.size := Nat.ne_of_lt p1.lt
      have m2 : b ≠ s1.heap.objs.size + 1 := Nat.ne_of_lt (Nat.lt_of_lt_of_le p2.lt (Nat.le_add_right _ _))
      have m3 : c ≠ s1.heap.objs.size + 2 := Nat.ne_of_lt (Nat.lt_of_lt_of_le p3.lt (Nat.le_add_right _ _))
      exact ⟨s1.heap.objs.size + 5, [s1.heap.objs.size + 5, s1.heap.objs.size + 3, s1.heap.objs.size + 4, s1.heap.objs.size, s1.heap.objs.size + 1, s1.heap.objs.size + 2], _, _, H1, rfl, I2, turn_zip3 S m1 m2 m3, ⟨hz, hTI, ⟨_, _, _, hTO⟩, itK_0 g1, itK_0 g2, itK_0 g3⟩, fresh6, q1⟩
end Mi

set_option linter.all false
set_option maxRecDepth 100000
set_option maxHeartbeats 2000000
namespace Mi
open PySem PySem.Spec PyProof.Rows L2

/-! ### dicts by tuples of numbers -/
section
variable {X : Cx} {pins : List (Addr × Obj)} {σ : L2.St} {H : Hp} {s : Shared} {a b : Addr} {d : V} {r : Value} {A : Around} {E : Value → Shared → Prop}
theorem keyK_V (k : List Int) : (keyK k).map kV = k.map V.int := by
  unfold keyK
  rw [List.map_map]
  rfl
theorem key_sq {ks : List Int} (I : Inv X pins σ H s) (h : SqT X.K H b (ks.map V.int)) : (tupleKind (mixKind X.prog X.w)).is s.heap (keyK ks) b := by
  obtain ⟨its, rv, ⟨o, h1, h2, n, h3⟩, _⟩ := I.tuple h
  rw [← keyK_V] at rv
  exact ⟨o, its.toArray, n, h1, h2, h3, by simpa using items_are rv⟩
theorem d_get2S {kvs : List (List L2.Key × V)} {ks : List Int} {Q : Value → Shared → Prop} (hu : A.units + 1 < cLine) (I : Inv X pins σ H s) (e : Rd H a (.dT kvs)) (hb : SqT X.K H b (ks.map V.int)) (rd : RelV d r)
    (h : ∀ w' s', Inv X pins σ H s' → RelV ((valV kvs (keyK ks)).getD d) w' → Q w' s') : wpAny (model X.prog X.w) A (call (.builtin "dict.get") [.ref a, .ref b, r]) Q E s := by
  obtain ⟨z, hd, xs, rel, dd⟩ := dt_rd I.hok e
  refine call_meetsIn PySem.F.slot_dict_get dd.typeIs PySem.F.entry_dict_get (PySem.F.args_dict_get_3 _ _ _) (meetsH_dict_get_default (tupleKind (mixKind X.prog X.w)) a b hd r) ⟨tupleKind_room_in1 hu, keyK ks, xs, key_sq I hb, dd, h _ _ (I.tok _) ?_⟩
  exact (rel.val _).getD rd
theorem d_setdT {kvs : List (List L2.Key × V)} {k : List L2.Key} {Q : Value → Shared → Prop} (hu : A.units + 1 < cLine) (I : Inv X pins σ H s) (e : H a = some (.dT kvs)) (eb : H b = some (.tup (k.map kV))) (rd : RelV d r) (hl : kvs.length < sizeLine)
    (h1 : ∀ v, valV kvs k = some v → ∀ (w' : Value) (s' : Shared), Inv X pins σ H s' → RelV v w' → Q w' s') (h2 : valV kvs k = none → ∀ (w' : Value) (s' : Shared), Inv X pins σ (upd H a (.dT (putK kvs k d))) s' → RelV d w' → Q w' s') :
    wpAny (model X.prog X.w) A (call (.builtin "dict.setdefault") [.ref a, .ref b, r]) Q E s := by
  obtain ⟨z, hd, xs, rel, dd⟩ := dt_of I.hok e
  have hz : xs.length ≤ sizeLine := by rw [← Paired.length rel]; exact z
  refine call_setdefault_heap (hsz := hz) (tupleKind_room_in1 hu) (key_of I.hok eb) hd dd (fun p hp => ?_) fun hn h' dd' hs => ?_
  · have q := rel.val k
    rw [hp] at q
    cases q0 : valV kvs k with
    | none => rw [q0] at q; exact (show False from q).elim
    | some v0 =>
      rw [q0] at q
      exact h1 v0 q0 _ _ (I.tok _) q
  · have q := rel.val k
    rw [hn] at q
    cases q0 : valV kvs k with
    | some v0 => rw [q0] at q; exact (show False from q).elim
    | none =>
      have hl2 : (putK kvs k d).length ≤ sizeLine := by
        have := length_putK kvs k d
        omega
      obtain ⟨q, es, ep, hq, g2, g3, g4, _, g5⟩ := dd'
      refine h2 q0 _ _ (d_write (t' := _) I (by rw [e]; exact True.intro) hs ⟨q, hq⟩ ⟨hl2, hd, _, (rel.put k eb rd).keeps fun c ys ec => ?_, q, es, ep, hq, g2, g3, g4, g5⟩) rd
      rw [upd_ne (ne_of ec e (fun z => nomatch z))]
      exact ec
end
/-- d.get(y, z), y a tuple of numbers -/
def tDGetS (K : PySem.W.Frag) (td ty tx : TE) : TE := fun σ H Q => td σ H fun x H1 => ∃ a, x = .ref a ∧ IsD H1 a ∧ ty σ H1 fun y H2 => tx σ H2 fun z H3 => ∃ (kvs : List (List L2.Key × V)) (ks : List Int) (b : Addr), y = .ref b ∧ H3 a = some (.dT kvs) ∧ SqT K H3 b (ks.map V.int) ∧ Q ((valV kvs (keyK ks)).getD z) H3
/-- d.setdefault(y, z), y a new tuple of numbers -/
def tDSetS (td ty tx : TE) : TE := fun σ H Q => td σ H fun x H1 => ∃ a, x = .ref a ∧ IsD H1 a ∧ ty σ H1 fun y H2 => tx σ H2 fun z H3 => ∃ (kvs : List (List L2.Key × V)) (k : List L2.Key) (b : Addr), y = .ref b ∧ H3 a = some (.dT kvs) ∧ H3 b = some (.tup (k.map kV)) ∧ kvs.length < sizeLine ∧
  (∀ v, valV kvs k = some v → Q v H3) ∧ (valV kvs k = none → Q z (upd H3 a (.dT (putK kvs k z))))
section
variable {X : Cx} {o e f : Expr} {apos cpos : Pos} {td ty tx : TE}
theorem pe_dgetS (hu : X.A.units + 1 < cLine) (ho : PE X o td) (he : PE X e ty) (hf : PE X f tx) (m : M2 X o "get" apos e f cpos) : PE X (.Call (.Attribute o "get" apos) [e, f] [] cpos) (tDGetS X.K td ty tx) := by
  refine ⟨fun pins s σ H Q I h => ?_⟩
  refine wpAny_Call_method m.base m.few m.line PySem.F.plainAttrs_dict PySem.F.slot_dict_get PySem.F.type_dict_get (thn (ho.run pins s σ H _ I h) fun u s1 ⟨x, H1, I1, rx, a, ex, d, q1⟩ => ?_)
  subst ex
  obtain rfl : u = Value.ref a := rx
  obtain ⟨t1, t2, _⟩ := isD_at I1 d
  refine ⟨t1, t2, ?_⟩
  rw [m.trees]
  refine Calls.callWith_builtin rfl (Calls.evalArgs_plain (Calls.spliced_cons (thn (he.run pins s1 σ H1 _ I1 q1) fun iv s2 ⟨y, H2, I2, ry, q2⟩ =>
    Calls.spliced_cons (thn (hf.run pins s2 σ H2 _ I2 q2) fun fv s3 ⟨z, H3, I3, rz, kvs, ks, b, ey, ea, hb, q3⟩ => Calls.spliced_nil ?_))))
  subst ey
  cases (show iv = Value.ref b from ry)
  exact d_get2S hu I3 (.inl ea) hb rz fun w' s4 I4 rw' => ⟨_, H3, I4, rw', q3⟩
theorem pe_dsetS (hu : X.A.units + 1 < cLine) (ho : PE X o td) (he : PE X e ty) (hf : PE X f tx) (m : M2 X o "setdefault" apos e f cpos) : PE X (.Call (.Attribute o "setdefault" apos) [e, f] [] cpos) (tDSetS td ty tx) := by
  refine ⟨fun pins s σ H Q I h => ?_⟩
  refine wpAny_Call_method m.base m.few m.line PySem.F.plainAttrs_dict PySem.F.slot_dict_setdefault PySem.F.type_dict_setdefault (thn (ho.run pins s σ H _ I h) fun u s1 ⟨x, H1, I1, rx, a, ex, d, q1⟩ => ?_)
  subst ex
  obtain rfl : u = Value.ref a := rx
  obtain ⟨t1, t2, _⟩ := isD_at I1 d
  refine ⟨t1, t2, ?_⟩
  rw [m.trees]
  refine Calls.callWith_builtin rfl (Calls.evalArgs_plain (Calls.spliced_cons (thn (he.run pins s1 σ H1 _ I1 q1) fun iv s2 ⟨y, H2, I2, ry, q2⟩ =>
    Calls.spliced_cons (thn (hf.run pins s2 σ H2 _ I2 q2) fun fv s3 ⟨z, H3, I3, rz, kvs, k, b, ey, ea, eb, hl, q3, q4⟩ => Calls.spliced_nil ?_))))
  subst ey
  cases (show iv = Value.ref b from ry)
  exact d_setdT hu I3 ea eb rz hl (fun v hv w' s4 I4 rw' => ⟨v, _, I4, rw', q3 v hv⟩) fun hn w' s4 I4 rw' => ⟨z, _, I4, rw', q4 hn⟩
end
/-! ### a table of the module by numbers -/
structure KTab (K : PySem.W.Frag) (a : Addr) (f : Int → Option Value) : Prop where
  ex : ∃ es n, K.lookup a = some ⟨.type "dict", none, .dict es n, #[]⟩ ∧ (∀ e ∈ es, ∃ i t, e.key = .int i t ∧ e.hash = hashInt i) ∧ ∀ i, findBy Value.isInt es i = f i
theorem ix_ktab {X : Cx} : IxR X (fun x y H Q => ∃ a f i u v, x = .ref a ∧ y = .int i ∧ KTab X.K a f ∧ f i = some u ∧ RelV v u ∧ Q v H) := by
  intro value slice pins s σ H x y v u Q I rx ry h hs
  obtain ⟨a, f, i, u0, v0, rfl, rfl, ⟨es, n, hl, hk, hf⟩, e, ru, q⟩ := h
  obtain rfl : v = Value.ref a := rx
  obtain ⟨t, rfl⟩ := ry
  have hm : s.heap.MapOf (intKind X.prog X.w) a f := ⟨_, es, n, I.kIn _ _ hl, ⟨rfl, rfl, rfl⟩, rfl, fun e he => by
    obtain ⟨j, t', e1, e2⟩ := hk e he
    exact ⟨j, by rw [e1]; exact intKind_is X.prog X.w j t', e2⟩, hf⟩
  exact tail_any hm.typeIs slot_dict_getitem.lookup (wpAny_getItem_of (intKind_is X.prog X.w i t) hm e ⟨v0, H, I.tok _, ru, q⟩) hs

section
variable {X : Cx} {fa : Nat → Option Addr} {XR : Nat → List D → Value → Option Addr → Hp → List Addr → Prop} {F : Funs} {W : WX} {a b c : Expr} {ca cb cc : CE} {es : List Expr} {ces : CEs} {pos : Pos}
variable {H : Hp} {m : List Addr} {s : S}
theorem dct_of {n : Nat} {v : V} {kvs : List (List Int × D)} (R : RelS X.K fa H m s) (r : Rp X.K fa H m (.ref n) v) (e : s.l[n]? = some (.dct kvs)) : ∃ a vs, v = .ref a ∧ m[n]? = some a ∧ H a = some (.dT (dV kvs vs)) ∧ RpL X.K fa H m (kvs.map (·.2)) vs := by
  obtain ⟨a, rfl, ha⟩ := r
  obtain ⟨b, hb, vs, hv, rv⟩ := R.rel.got e
  rw [ha] at hb
  cases hb
  exact ⟨a, vs, rfl, ha, hv, rv⟩
theorem sameIs_eq : ∀ {a b : List Int}, sameIs a b = true ↔ a = b
  | [], [] => ⟨fun _ => rfl, fun _ => rfl⟩
  | [], _ :: _ => ⟨fun h => (by cases h), fun h => (by cases h)⟩
  | _ :: _, [] => ⟨fun h => (by cases h), fun h => (by cases h)⟩
  | x :: r, y :: s => by
    show (decide (x = y) && sameIs r s) = true ↔ _
    rw [Bool.and_eq_true, decide_eq_true_eq, sameIs_eq]
    exact ⟨fun ⟨e1, e2⟩ => by rw [e1, e2], fun e => by cases e; exact ⟨rfl, rfl⟩⟩
theorem keyK_inj {a b : List Int} (h : keyK a = keyK b) : a = b := by
  have := congrArg (List.map kV) h
  rw [keyK_V, keyK_V] at this
  exact (List.map_inj_right (fun x y e => by cases e; rfl)).mp this
theorem dAt_val : ∀ {kvs : List (List Int × D)} {vs : List V} (k : List Int), RpL X.K fa H m (kvs.map (·.2)) vs →
    (dAt kvs k = none → valV (dV kvs vs) (keyK k) = none) ∧ ∀ d, dAt kvs k = some d → ∃ v, valV (dV kvs vs) (keyK k) = some v ∧ Rp X.K fa H m d v
  | [], vs, k, h => by
    rw [show vs = [] from h]
    exact ⟨fun _ => rfl, fun d e => by cases e⟩
  | p :: r, vs, k, h => by
    obtain ⟨v, ws, rfl, q, q2⟩ := h
    have ih := dAt_val k q2
    by_cases e : p.1 = k
    · have e1 : dAt (p :: r) k = some p.2 := if_pos (sameIs_eq.mpr e)
      have e2 : valV (dV (p :: r) (v :: ws)) (keyK k) = some v := valV_pos (p := (keyK p.1, v)) (by rw [e])
      rw [e1, e2]
      exact ⟨fun z => (by cases z), fun d z => (by cases z; exact ⟨v, rfl, q⟩)⟩
    · have e1 : dAt (p :: r) k = dAt r k := if_neg (fun z => e (sameIs_eq.mp z))
      have e2 : valV (dV (p :: r) (v :: ws)) (keyK k) = valV (dV r ws) (keyK k) := valV_neg (p := (keyK p.1, v)) fun z => e (keyK_inj z)
      rw [e1, e2]
      exact ih
theorem dV_snoc : ∀ {kvs : List (List Int × D)} {vs : List V} (k : List Int) (d : D) (v : V), kvs.length = vs.length → dV (kvs ++ [(k, d)]) (vs ++ [v]) = dV kvs vs ++ [(keyK k, v)]
  | [], [], _, _, _, _ => rfl
  | p :: r, v :: vs, k, d, w, h => by
    have := dV_snoc (kvs := r) (vs := vs) k d w (by simpa using h)
    show (keyK p.1, v) :: dV (r ++ [(k, d)]) (vs ++ [w]) = _
    rw [this]
    rfl
theorem e_dnew : PE X (.Dict [] [] pos) (tI X.K fa XR F W (.prim .dnew .nil)) := PE.imp pe_dnewT fun σ H Q ⟨m, ρ, s, R, E, h⟩ p hp => by
  have h : Post X.K fa XR (Rp X.K fa) W σ H m (.ok (.ref s.l.length) ⟨s.l ++ [.dct []], s.e⟩) Q := h
  refine h (.ref p) _ (m ++ [p]) (le_newc hp) ⟨R.rel.cellC hp ⟨[], upd_same, rfl⟩, fun k x e1 e2 => ?_⟩ ⟨p, rfl, by rw [← R.rel.len, List.getElem?_append_right (Nat.le_refl _), Nat.sub_self]; rfl⟩
  by_cases hk : k < s.l.length
  · rw [List.getElem?_append_left hk] at e1
    exact R.low k x e1 e2
  · rw [List.getElem?_append_right (by omega)] at e1
    cases q : k - s.l.length with
    | zero =>
      rw [q] at e1
      simp at e1
      subst e1
      rfl
    | succ j => rw [q] at e1; simp at e1
theorem isDct_ex {n : Nat} (h : isDct s n = true) : ∃ kvs, s.l[n]? = some (.dct kvs) := by
  unfold isDct at h
  split at h
  · rename_i kvs e; exact ⟨kvs, e⟩
  · cases h
theorem e_dgetd {o e f : Expr} {co ce cf : CE} {apos cpos : Pos} (hu : X.A.units + 1 < cLine) (ho : PE X o (tI X.K fa XR F W co)) (he : PE X e (tI X.K fa XR F W ce)) (hf : PE X f (tI X.K fa XR F W cf)) (m2 : M2 X o "get" apos e f cpos) :
    PE X (.Call (.Attribute o "get" apos) [e, f] [] cpos) (tI X.K fa XR F W (.dgetd co ce cf)) := PE.imp (pe_dgetS hu ho he hf m2) fun σ H Q ⟨m, ρ, s, R, E, h⟩ => by
  refine ⟨m, ρ, s, R, E, (Post.bind (Re := Rp X.K fa) (f := fun x s1 => match x with
    | .ref n => if isDct s1 n then (ev F ce ρ s1).bind fun y s2 => (ev F cf ρ s2).bind fun z s3 => getD n y z s3 else .no
    | _ => .no) h).imp fun x H1 ⟨m1, d, s1, l1, R1, r1, _, h1⟩ => ?_⟩
  cases d with
  | ref n =>
    have h1 : Post X.K fa XR (Rp X.K fa) W σ H1 m1 (if isDct s1 n then (ev F ce ρ s1).bind fun y s2 => (ev F cf ρ s2).bind fun z s3 => getD n y z s3 else .no) Q := h1
    by_cases hd : isDct s1 n = true
    · rw [if_pos hd] at h1
      obtain ⟨kvs0, ek⟩ := isDct_ex hd
      obtain ⟨a, vs, rfl, hm, hH, rr⟩ := dct_of R1 r1 ek
      refine ⟨a, rfl, .inr ⟨_, .inl hH⟩, m1, ρ, s1, R1, E.le l1, (Post.bind (Re := Rp X.K fa) h1).imp fun y H2 ⟨m2, dk, s2, l2, R2, r2, _, h2⟩ => ⟨m2, ρ, s2, R2, (E.le l1).le l2, (Post.bind (Re := Rp X.K fa) h2).imp fun z H3 ⟨m3, dz, s3, l3, R3, r3, _, h3⟩ => ?_⟩⟩
      unfold getD at h3
      cases e3 : s3.l[n]? with
      | none => rw [e3] at h3; exact h3.elim
      | some cl =>
      rw [e3] at h3
      cases cl with
      | lst xs => exact h3.elim
      | dct kvs =>
      cases dk with
      | tup ks =>
        dsimp only at h3
        split at h3
        · rename_i k ei
          obtain ⟨a', vs', ea, hm', hH', rr'⟩ := dct_of R3 (r1.le (l2.trans l3)) e3
          cases ref_inj ea
          obtain ⟨p, ws, rfl, hq, rk⟩ := r2.le l3
          have hw := rp_ints ei rk
          subst hw
          obtain ⟨g1, g2⟩ := dAt_val k rr'
          refine ⟨_, k, p, rfl, hH', hq, ?_⟩
          cases ed : dAt kvs k with
          | none =>
            rw [g1 ed]
            rw [ed] at h3
            exact post_ok h3 R3 r3
          | some v0 =>
            obtain ⟨v, ev', rv⟩ := g2 v0 ed
            rw [ev']
            rw [ed] at h3
            exact post_ok h3 R3 rv
        · exact h3.elim
      | _ => exact h3.elim
    · rw [if_neg hd] at h1; exact h1.elim
  | _ => exact h1.elim
theorem dV_len {kvs : List (List Int × D)} {vs : List V} (h : RpL X.K fa H m (kvs.map (·.2)) vs) : (dV kvs vs).length = kvs.length := by
  have := h.length
  rw [List.length_map] at this
  unfold dV
  rw [List.length_zip, List.length_map, ← this, Nat.min_self]
theorem e_dsetd {o f : Expr} {co cf : CE} {es : List Expr} {kk : Nat} {tp apos cpos : Pos} (hu : X.A.units + 1 < cLine) (ho : PE X o (tI X.K fa XR F W co)) (ha : PA X es (tA X.K fa XR F W ces)) (hf : PE X f (tI X.K fa XR F W cf)) (m2 : M2 X o "setdefault" apos (.Tuple es kk tp) f cpos) :
    PE X (.Call (.Attribute o "setdefault" apos) [.Tuple es kk tp, f] [] cpos) (tI X.K fa XR F W (.dsetd co ces cf)) := PE.imp (pe_dsetS hu ho (pe_tup ha) hf m2) fun σ H Q ⟨m, ρ, s, R, E, h⟩ => by
  refine ⟨m, ρ, s, R, E, (Post.bind (Re := Rp X.K fa) (f := fun x s1 => match x with
    | .ref n => if isDct s1 n then (evs F ces ρ s1).bind fun ks s2 => if ks.length < 16777216 then (ev F cf ρ s2).bind fun z s3 => setD n ks z s3 else .no else .no
    | _ => .no) h).imp fun x H1 ⟨m1, d, s1, l1, R1, r1, _, h1⟩ => ?_⟩
  cases d with
  | ref n =>
    have h1 : Post X.K fa XR (Rp X.K fa) W σ H1 m1 (if isDct s1 n then (evs F ces ρ s1).bind fun ks s2 => if ks.length < 16777216 then (ev F cf ρ s2).bind fun z s3 => setD n ks z s3 else .no else .no) Q := h1
    by_cases hd : isDct s1 n = true
    · rw [if_pos hd] at h1
      obtain ⟨kvs0, ek⟩ := isDct_ex hd
      obtain ⟨a, vs, rfl, hm, hH, rr⟩ := dct_of R1 r1 ek
      refine ⟨a, rfl, .inr ⟨_, .inl hH⟩, m1, ρ, s1, R1, E.le l1, (Post.bind (Re := RpL X.K fa) h1).imp fun ws H2 ⟨m2, dk, s2, l2, R2, r2, _, h2⟩ => ?_⟩
      by_cases hz : dk.length < 16777216
      · rw [if_pos hz] at h2
        refine ⟨by rw [← r2.length, sizeLine_eq]; omega, fun p hp => ⟨m2, ρ, s2, R2.new hp, ((E.le l1).le l2).le (le_new hp), (Post.bind (Re := Rp X.K fa) (h2.le (le_new hp))).imp fun z H3 ⟨m3, dz, s3, l3, R3, r3, _, h3⟩ => ?_⟩⟩
        unfold setD at h3
        cases e3 : s3.l[n]? with
        | none => rw [e3] at h3; exact h3.elim
        | some cl =>
        rw [e3] at h3
        cases cl with
        | lst xs => exact h3.elim
        | dct kvs =>
        cases ei : intsOf dk with
        | none => rw [ei] at h3; exact h3.elim
        | some k =>
        rw [ei] at h3
        dsimp only at h3
        by_cases hb : kvs.length < 16777216
        · rw [if_pos hb] at h3
          obtain ⟨a', vs', ea, hm', hH', rr'⟩ := dct_of R3 (r1.le ((l2.trans (le_new hp)).trans l3)) e3
          cases ref_inj ea
          have hw := rp_ints ei r2
          subst hw
          have hpt : H3 p = some (.tup ((keyK k).map kV)) := by
            rw [keyK_V]
            exact l3.tup p _ upd_same
          obtain ⟨g1, g2⟩ := dAt_val k rr'
          cases ed : dAt kvs k with
          | some v0 =>
            obtain ⟨v, ev', rv⟩ := g2 v0 ed
            rw [ed] at h3
            refine ⟨_, keyK k, p, rfl, hH', hpt, by rw [dV_len rr', sizeLine_eq]; exact hb, fun v2 e2 => ?_, fun e2 => by rw [ev'] at e2; cases e2⟩
            rw [ev'] at e2
            cases e2
            exact post_ok h3 R3 rv
          | none =>
            rw [ed] at h3
            dsimp only at h3
            refine ⟨_, keyK k, p, rfl, hH', hpt, by rw [dV_len rr', sizeLine_eq]; exact hb, fun v2 e2 => (by rw [g1 ed] at e2; cases e2), fun _ => ?_⟩
            rw [putK_new z (g1 ed), ← dV_snoc (kvs := kvs) (vs := vs') k dz z (by rw [← rr'.length, List.length_map])]
            have r3' : Rp X.K fa (upd H3 a (.dT (dV (kvs ++ [(k, dz)]) (vs' ++ [z])))) m3 dz z := r3.le (le_mutC hm' hH' trivial)
            refine h3 z _ m3 (le_mutC hm' hH' trivial) (R3.storeC hm' hH' trivial ⟨vs' ++ [z], upd_same, ?_⟩ e3 fun j h1 h2 => ?_) r3'
            · rw [List.map_append]
              exact (RpL.append rr' (RpL.one r3)).le (le_mutC hm' hH' trivial)
            · show refsLtL j ((kvs ++ [(k, dz)]).map (·.2)) = true
              rw [List.map_append, refsL_append]
              have h1 : refsLtL j (kvs.map (·.2)) = true := h1
              rw [h1]
              show (true && (refsLt j dz && true)) = true
              rw [h2]; rfl
        · rw [if_neg hb] at h3; exact h3.elim
      · rw [if_neg hz] at h2; exact h2.elim
    · rw [if_neg hd] at h1; exact h1.elim
  | _ => exact h1.elim
theorem e_kget {x : Str} {p : Pos} {cb : CE} {b : Expr} {tab : List (Int × D)} {t : Addr} {f : Int → Option Value} (hx : PE X (.Name x p) (tC (.ref t))) (hk : KTab X.K t f) (hv : ∀ i d, tabAt tab i = some d → ∃ u v, f i = some u ∧ RelV v u ∧ ∀ H m, Rp X.K fa H m d v)
    (hb : PE X b (tI X.K fa XR F W cb)) (hs : noSlice b = true) : PE X (.Subscript (.Name x p) b pos) (tI X.K fa XR F W (.kget tab cb)) :=
  PE.imp (pe_ix ix_ktab hx hb (plainIx hs)) fun σ H Q ⟨m, ρ, s, R, E, h⟩ => by
    refine ⟨m, ρ, s, R, E, (Post.bind (Re := Rp X.K fa) (f := fun d s => match d with
      | .int i => ob (tabAt tab i) id s
      | _ => .no) h).imp fun y H1 ⟨m1, d, s1, l1, R1, r1, _, h1⟩ => ?_⟩
    cases d with
    | int i =>
      cases r1
      obtain ⟨d, hd, h1⟩ := post_ob (o := tabAt tab i) (f := id) h1
      obtain ⟨u, v, e1, e2, e3⟩ := hv i d hd
      exact ⟨t, f, i, u, v, rfl, rfl, hk, e1, e2, post_ok h1 R1 (e3 _ _)⟩
    | _ => exact h1.elim
theorem walks_zip3 {H1 : Hp} {m1 : List Addr} {a b c : Addr} {d e g : D} (r : Rp X.K fa H1 m1 d (.ref a)) (r' : Rp X.K fa H1 m1 e (.ref b)) (r'' : Rp X.K fa H1 m1 g (.ref c)) : WalksJ X.K fa (Itz3 X.K (isTup d) (isTup e) (isTup g) a b c) .zip3 [d, e, g] H1 m1 := by
  have conv : ∀ {H2 : Hp} {k : Bool} {x : Addr} {vs : List V}, (if k = true then SqT X.K H2 x vs else SqL X.K H2 x vs) → SqK k X.K H2 x vs := fun {H2 k x vs} z => by
    cases k with
    | true => exact z
    | false => exact z
  intro i H2 m2 s2 l R2
  show (match (match itemsOf s2 d, itemsOf s2 e, itemsOf s2 g with
    | some xs, some ys, some zs => some (match xs[i]?, ys[i]?, zs[i]? with | some x, some y, some z => some (D.tup [x, y, z]) | _, _, _ => none)
    | _, _, _ => none) with
    | none => True
    | some none => (Itz3 X.K (isTup d) (isTup e) (isTup g) a b c).stop i H2
    | some (some d) => _)
  cases e1 : itemsOf s2 d with
  | none => trivial
  | some xs =>
  cases e1' : itemsOf s2 e with
  | none => trivial
  | some ys =>
  cases e1'' : itemsOf s2 g with
  | none => trivial
  | some zs =>
    obtain ⟨b1, vs, eb, hq, hr⟩ := items_k R2 (r.leW l) e1
    cases ref_inj eb
    obtain ⟨b2, ws, eb, hq', hr'⟩ := items_k R2 (r'.leW l) e1'
    cases ref_inj eb
    obtain ⟨b3, us, eb, hq'', hr''⟩ := items_k R2 (r''.leW l) e1''
    cases ref_inj eb
    have hq := conv hq
    have hq' := conv hq'
    have hq'' := conv hq''
    dsimp only
    cases e2 : xs[i]? with
    | none => exact ⟨vs, ws, us, hq, hq', hq'', .inl (none_len hr e2)⟩
    | some x =>
    cases e2' : ys[i]? with
    | none => exact ⟨vs, ws, us, hq, hq', hq'', .inr (.inl (none_len hr' e2'))⟩
    | some y =>
    cases e2'' : zs[i]? with
    | none => exact ⟨vs, ws, us, hq, hq', hq'', .inr (.inr (none_len hr'' e2''))⟩
    | some z =>
      obtain ⟨v, hv, rv⟩ := hr.get e2
      obtain ⟨w, hw, rw'⟩ := hr'.get e2'
      obtain ⟨u, hu, ru⟩ := hr''.get e2''
      refine ⟨⟨vs, ws, us, v, w, u, hq, hq', hq'', hv, hw, hu⟩, fun y H3 ⟨T, z, z', z'', ey, hT, eH, hy, hy', hy''⟩ => ?_⟩
      subst eH
      subst ey
      have h1 := hy vs hq
      rw [hv] at h1
      cases h1
      have h2 := hy' ws hq'
      rw [hw] at h2
      cases h2
      have h3 := hy'' us hq''
      rw [hu] at h3
      cases h3
      exact ⟨m2, le_new hT, R2.new hT, T, _, rfl, .inl (.inl upd_same), _, _, rfl, rv.le (le_new hT), _, _, rfl, rw'.le (le_new hT), _, _, rfl, ru.le (le_new hT), rfl⟩
theorem i_zip3 {tpos : Pos} {elts : List Expr} {kk : Nat} {e e2 e3 : Expr} {ces : CEs} {p : Pos} (hg : Gl X "zip") (hm : X.mg "zip" = none) (ha : PA X [e, e2, e3] (tA X.K fa XR F W ces)) (hp : plainE e = true) (hp2 : plainE e2 = true) (hp3 : plainE e3 = true) :
    PI X (.Tuple elts kk tpos) (.Call (.Name "zip" p) [e, e2, e3] [] pos) (srcI X.K fa XR F W .zip3 ces) :=
  PI.imp (pi_zip3 hg hm ha (star_cons hp) (back_any (by rw [List.all_cons, List.all_cons, hp2, hp3]; rfl))) fun σ H Rr ⟨m, ρ, s, R, E, h⟩ => ⟨m, ρ, s, R, E, h.imp fun vs H1 ⟨m1, ds, s1, l1, R1, r1, h0, hJ⟩ => by
    have conv : ∀ {H2 : Hp} {k : Bool} {x : Addr} {vs : List V}, (if k = true then SqT X.K H2 x vs else SqL X.K H2 x vs) → SqK k X.K H2 x vs := fun {H2 k x vs} z => by
      cases k with
      | true => exact z
      | false => exact z
    match ds, r1, h0, hJ with
    | [], r1, h0, _ => exact absurd rfl h0
    | [a], r1, h0, _ => exact absurd rfl h0
    | [a, b], r1, h0, _ => exact absurd rfl h0
    | a :: b :: c :: d :: t, r1, h0, _ => exact absurd rfl h0
    | [d, d', d''], r1, h0, hJ =>
      obtain ⟨x, y, z, rfl, r, r', r''⟩ := rl3 r1
      have h0 : (match itemsOf s1 d, itemsOf s1 d', itemsOf s1 d'' with
        | some xs, some ys, some zs => some (match xs[0]?, ys[0]?, zs[0]? with | some x, some y, some z => some (D.tup [x, y, z]) | _, _, _ => none)
        | _, _, _ => none) ≠ (none : Option (Option D)) := h0
      cases q : itemsOf s1 d with
      | none => rw [q] at h0; exact absurd rfl h0
      | some xs =>
      cases q' : itemsOf s1 d' with
      | none => rw [q, q'] at h0; exact absurd rfl h0
      | some ys =>
      cases q'' : itemsOf s1 d'' with
      | none => rw [q, q', q''] at h0; exact absurd rfl h0
      | some zs =>
        obtain ⟨a, vs, rfl, hq, hr⟩ := items_k R1 r q
        obtain ⟨b, ws, rfl, hq', hr'⟩ := items_k R1 r' q'
        obtain ⟨c, us, rfl, hq'', hr''⟩ := items_k R1 r'' q''
        exact ⟨isTup d, isTup d', isTup d'', a, b, c, vs, ws, us, rfl, conv hq, conv hq', conv hq'', hJ _ (walks_zip3 r r' r'')⟩⟩
end
end Mi

set_option linter.all false
set_option maxRecDepth 100000
set_option maxHeartbeats 2000000
namespace Mi
open PySem PySem.Spec PyProof.Rows L2

theorem EnvR.leW {K : PySem.W.Frag} {fa : Nat → Option Addr} {H H' : Hp} {m m' : List Addr} {σ : L2.St} {ρ : Env} (a : LeW H m H' m') (h : EnvR K fa H m σ ρ) : EnvR K fa H' m' σ ρ :=
  ⟨h.1, fun i d e => let ⟨v, e1, r⟩ := h.2 i d e; ⟨v, e1, r.leW a⟩⟩
/-- a list under way, that is no cell yet: acc holds its items, the last ahead -/
structure Own (K : PySem.W.Frag) (fa : Nat → Option Addr) (H1 : Hp) (m1 : List Addr) (D0 : Addr) (H : Hp) (m : List Addr) (s : S) (acc : List D) : Prop where
  le : Le H1 m1 H m
  rel : RelS K fa H m s
  out : D0 ∉ m
  hD : H1 D0 = none
  at' : ∃ us, H D0 = some (.lst us) ∧ RpL K fa H m acc.reverse us
section
variable {K : PySem.W.Frag} {fa : Nat → Option Addr} {H1 H H' : Hp} {m1 m m' : List Addr} {D0 : Addr} {s s' : S} {acc : List D}
theorem cellOk_w {a : Addr} {x : Cell} (hh : H' a = H a) (l : LeW H m H' m') (h : CellOk K fa H m a x) : CellOk K fa H' m' a x := by
  cases x with
  | lst xs =>
    obtain ⟨vs, e, r⟩ := h
    exact ⟨vs, hh.trans e, r.leW l⟩
  | dct xs =>
    obtain ⟨vs, e, r⟩ := h
    exact ⟨vs, hh.trans e, r.leW l⟩
theorem own_0 (R : RelS K fa H1 m1 s) (hD : H1 D0 = none) : Own K fa H1 m1 D0 (upd H1 D0 (.lst [])) m1 s [] :=
  ⟨le_new hD, R.new hD, fun h => R.rel.mem h hD, hD, [], upd_same, rfl⟩
theorem Own.step (o : Own K fa H1 m1 D0 H m s acc) (l : Le H m H' m') (R : RelS K fa H' m' s') : Own K fa H1 m1 D0 H' m' s' acc := by
  obtain ⟨us, e, r⟩ := o.at'
  refine ⟨o.le.trans l, R, fun h => ?_, o.hD, us, l.frame D0 _ o.out e, r.le l⟩
  obtain ⟨t, et⟩ := l.pre
  rw [et, List.mem_append] at h
  rcases h with h | h
  · exact o.out h
  · rw [l.fresh t et D0 h] at e; cases e
theorem Own.push (o : Own K fa H1 m1 D0 H m s acc) {us : List V} {d : D} {v : V} (e : H D0 = some (.lst us)) (r : Rp K fa H m d v) : Own K fa H1 m1 D0 (upd H D0 (.lst (us ++ [v]))) m s (d :: acc) := by
  obtain ⟨us', e', ru⟩ := o.at'
  rw [e] at e'
  cases e'
  have LW : LeW H m (upd H D0 (.lst (us ++ [v]))) m := leW_mutC e trivial
  refine ⟨⟨o.le.w.trans LW, o.le.fresh, fun a ob ha q => ?_, fun a h => upd_dom a (o.le.dom a h)⟩, ⟨⟨o.rel.rel.len, o.rel.rel.nd, fun n a x e1 e2 => ?_⟩, o.rel.low⟩, o.out, o.hD, us ++ [v], upd_same, ?_⟩
  · rw [upd_ne (ne_of_none q o.hD)]
    exact o.le.frame a ob ha q
  · refine cellOk_w (upd_ne fun z => o.out ?_) LW (o.rel.rel.ok n a x e1 e2)
    rw [← z]; exact List.mem_of_getElem? e1
  · rw [List.reverse_cons]
    exact (ru.append (RpL.one r)).leW LW
theorem Own.len (o : Own K fa H1 m1 D0 H m s acc) {us : List V} (e : H D0 = some (.lst us)) : us.length = acc.length := by
  obtain ⟨us', e', ru⟩ := o.at'
  rw [e] at e'
  cases e'
  rw [← ru.length, List.length_reverse]
theorem Own.last (o : Own K fa H1 m1 D0 H m s acc) : Le H1 m1 H (m ++ [D0]) ∧ RelS K fa H (m ++ [D0]) ⟨s.l ++ [.lst acc.reverse], s.e⟩ ∧ (m ++ [D0])[s.l.length]? = some D0 := by
  obtain ⟨us, e, ru⟩ := o.at'
  have LW : LeW H m H (m ++ [D0]) := ⟨fun _ _ h => h, fun _ _ _ h => h, fun _ _ h => h, [D0], rfl⟩
  have hl : m.length = s.l.length := o.rel.rel.len
  refine ⟨⟨o.le.w.trans LW, fun t et a ha => ?_, o.le.frame, o.le.dom⟩, ⟨⟨by rw [List.length_append, List.length_append, hl]; rfl, ?_, fun n a x e1 e2 => ?_⟩, fun k x e1 e2 => ?_⟩, ?_⟩
  · obtain ⟨t0, e0⟩ := o.le.pre
    have : t = t0 ++ [D0] := by
      rw [e0, List.append_assoc] at et
      exact (List.append_cancel_left et).symm
    rw [this, List.mem_append] at ha
    rcases ha with ha | ha
    · exact o.le.fresh t0 e0 a ha
    · rw [List.mem_singleton] at ha
      rw [ha]; exact o.hD
  · rw [List.nodup_append]
    refine ⟨o.rel.rel.nd, by simp, fun a ha b hb z => o.out ?_⟩
    have eb : b = D0 := by simpa using hb
    rw [← eb, ← z]; exact ha
  · have e2 : (s.l ++ [Cell.lst acc.reverse])[n]? = some x := e2
    by_cases hn : n < m.length
    · rw [List.getElem?_append_left hn] at e1
      rw [List.getElem?_append_left (by rw [← hl]; exact hn)] at e2
      exact cellOk_w rfl LW (o.rel.rel.ok n a x e1 e2)
    · rw [List.getElem?_append_right (by omega)] at e1
      rw [List.getElem?_append_right (by omega), ← hl] at e2
      cases k : n - m.length with
      | zero =>
        rw [k] at e1 e2
        simp at e1 e2
        subst e1; subst e2
        exact ⟨us, e, ru.leW LW⟩
      | succ j => rw [k] at e1; simp at e1
  · have e1 : (s.l ++ [Cell.lst acc.reverse])[k]? = some x := e1
    by_cases hk : k < s.l.length
    · rw [List.getElem?_append_left hk] at e1
      exact o.rel.low k x e1 e2
    · rw [List.getElem?_append_right (by omega)] at e1
      cases q : k - s.l.length with
      | zero =>
        rw [q] at e1
        simp at e1
        subst e1
        exact refsL_of (by rw [hl]; omega) ru
      | succ j => rw [q] at e1; simp at e1
  · rw [← hl, List.getElem?_append_right (Nat.le_refl _), Nat.sub_self]; rfl
end
section
variable {X : Cx} {fa : Nat → Option Addr} {XR : Nat → List D → Value → Option Addr → Hp → List Addr → Prop} {F : Funs} {W : WX}
theorem env_clears {H : Hp} {m : List Addr} {σ : L2.St} {ρ : Env} (E : EnvR X.K fa H m σ ρ) : ∀ vs : List Nat, EnvR X.K fa H m (wipe σ vs) (clears vs ρ)
  | [] => E
  | v :: vs => (env_clears E vs).clear v
theorem wipe_same {σ σ' : L2.St} : ∀ {vs : List Nat}, (∀ (i : Nat), i ∉ vs → σ'[i]? = σ[i]?) → σ'.length = σ.length → wipe σ' vs = wipe σ vs := fun {vs} h hl => by
  have key : ∀ (τ : L2.St) (vs : List Nat) (i : Nat), (wipe τ vs)[i]? = if i ∈ vs ∧ i < τ.length then some none else τ[i]? := fun τ vs i => by
    induction vs with
    | nil => simp [wipe]
    | cons v vs ih =>
      unfold wipe
      by_cases hv : v = i
      · subst hv
        by_cases hn : v < τ.length
        · rw [List.getElem?_set_self (by rw [wipe_length]; exact hn), if_pos ⟨List.mem_cons_self, hn⟩]
        · rw [List.getElem?_eq_none (by rw [List.length_set, wipe_length]; omega), if_neg (fun z => hn z.2), List.getElem?_eq_none (by omega)]
      · rw [List.getElem?_set_ne hv, ih]
        by_cases hi : i ∈ vs ∧ i < τ.length
        · rw [if_pos hi, if_pos ⟨List.mem_cons_of_mem _ hi.1, hi.2⟩]
        · rw [if_neg hi, if_neg]
          rintro ⟨z, z2⟩
          rcases List.mem_cons.mp z with e | e
          · exact hv e.symm
          · exact hi ⟨e, z2⟩
  refine List.ext_getElem? fun i => ?_
  rw [key, key, hl]
  by_cases hi : i ∈ vs
  · by_cases hn : i < σ.length
    · rw [if_pos ⟨hi, hn⟩, if_pos ⟨hi, hn⟩]
    · rw [if_neg (fun z => hn z.2), if_neg (fun z => hn z.2), List.getElem?_eq_none (by omega), List.getElem?_eq_none (by omega)]
  · rw [if_neg (fun z => hi z.1), if_neg (fun z => hi z.1), h i hi]
theorem items_ext {H : Hp} {m : List Addr} {s : S} {d : D} {v : V} {x : Cell} {e : Option Nat} (R : RelS X.K fa H m s) (r : Rp X.K fa H m d v) : itemsOf ⟨s.l ++ [x], e⟩ d = itemsOf s d := by
  cases d with
  | ref n =>
    obtain ⟨a, _, q⟩ := r
    have hn : n < s.l.length := by
      rw [← R.rel.len]
      rcases Nat.lt_or_ge n m.length with z | z
      · exact z
      · rw [List.getElem?_eq_none z] at q; cases q
    simp only [itemsOf]
    rw [List.getElem?_append_left hn]
  | _ => rfl
theorem itemAt_ext {src : Src} {H : Hp} {m : List Addr} {s : S} {ds : List D} {vs : List V} {x : Cell} {e : Option Nat} {i : Nat} (R : RelS X.K fa H m s) (r : RpL X.K fa H m ds vs) : itemAt src ds i ⟨s.l ++ [x], e⟩ = itemAt src ds i s := by
  match src, ds, r with
  | .seq, [d], r =>
    obtain ⟨v, _, r⟩ := rl1 r
    show (match itemsOf _ d with | some xs => some xs[i]? | none => none) = (match itemsOf s d with | some xs => some xs[i]? | none => none)
    rw [items_ext R r]
  | .enum, [d], r =>
    obtain ⟨v, _, r⟩ := rl1 r
    show (if isTup d then none else match itemsOf _ d with
      | some xs => some (match xs[i]? with | some x => some (D.tup [.int i, x]) | none => none)
      | none => none) = (if isTup d then none else match itemsOf s d with
      | some xs => some (match xs[i]? with | some x => some (D.tup [.int i, x]) | none => none)
      | none => none)
    rw [items_ext R r]
  | .zip, [d, d'], r =>
    obtain ⟨v, w, _, r, r'⟩ := rl2 r
    show (if isTup d != isTup d' then none else match itemsOf _ d, itemsOf _ d' with
      | some xs, some ys => some (match xs[i]?, ys[i]? with | some x, some y => some (D.tup [x, y]) | _, _ => none)
      | _, _ => none) = (if isTup d != isTup d' then none else match itemsOf s d, itemsOf s d' with
      | some xs, some ys => some (match xs[i]?, ys[i]? with | some x, some y => some (D.tup [x, y]) | _, _ => none)
      | _, _ => none)
    rw [items_ext R r, items_ext R r']
  | .zip3, [d, d', d''], r =>
    obtain ⟨v, w, u, _, r, r', r''⟩ := rl3 r
    show (match itemsOf _ d, itemsOf _ d', itemsOf _ d'' with
      | some xs, some ys, some zs => some (match xs[i]?, ys[i]?, zs[i]? with | some x, some y, some z => some (D.tup [x, y, z]) | _, _, _ => none)
      | _, _, _ => none) = (match itemsOf s d, itemsOf s d', itemsOf s d'' with
      | some xs, some ys, some zs => some (match xs[i]?, ys[i]?, zs[i]? with | some x, some y, some z => some (D.tup [x, y, z]) | _, _, _ => none)
      | _, _, _ => none)
    rw [items_ext R r, items_ext R r', items_ext R r'']
  | .zip3, [], _ => rfl
  | .zip3, [_], _ => rfl
  | .zip3, [_, _], _ => rfl
  | .zip3, _ :: _ :: _ :: _ :: _, _ => rfl
  | .rng1, [d], r => cases d <;> rfl
  | .rng2, [d, d'], r => cases d <;> cases d' <;> rfl
  | .seq, [], _ => rfl
  | .seq, _ :: _ :: _, _ => rfl
  | .enum, [], _ => rfl
  | .enum, _ :: _ :: _, _ => rfl
  | .zip, [], _ => rfl
  | .zip, [_], _ => rfl
  | .zip, _ :: _ :: _ :: _, _ => rfl
  | .rng1, [], _ => rfl
  | .rng1, a :: _ :: _, _ => cases a <;> rfl
  | .rng2, [], _ => rfl
  | .rng2, [a], _ => cases a <;> rfl
  | .rng2, a :: b :: _ :: _, _ => cases a <;> cases b <;> rfl

theorem ev_comp (F : Funs) (elt : CE) (tg : CT) (src : Src) (ces : CEs) (cond : CE) (vs : List Nat) (ρ : Env) (s : S) : ev F (.comp elt tg src ces cond vs) ρ s = (evs F ces ρ s).bind fun ds s => compLoop (itemAt src ds) tg (ev F elt) (ev F cond) (clears vs ρ) 100000 0 [] s := by
  show ((evs F ces ρ s).bind fun ds s => compLoop (itemQ src ds) tg (ev F elt) (ev F cond) (clears vs ρ) 100000 0 [] s) = _
  simp only [itemQ_eq]
theorem ti_comp {elt cond : CE} {tg : CT} {src : Src} {ces : CEs} {vs : List Nat} {σ : L2.St} {H : Hp} {Q : VK} (hv : ∀ i ∈ tg.slots, i ∈ vs) (h : tI X.K fa XR F W (.comp elt tg src ces cond vs) σ H Q) :
    tLc (srcI X.K fa XR F W src ces) (gI X.K fa tg) (tT X.K fa XR F W0 cond) (tI X.K fa XR F W0 elt) vs σ H Q := by
  obtain ⟨m, ρ, s, R, E, h⟩ := h
  rw [ev_comp] at h
  refine ⟨m, ρ, s, R, E, (Post.bind (Re := RpL X.K fa) (f := fun ds s => compLoop (itemAt src ds) tg (ev F elt) (ev F cond) (clears vs ρ) 100000 0 [] s) h).imp fun xs H1 ⟨m1, ds, s1, l1, R1, r1, _, h1⟩ => ⟨m1, ds, s1, l1, R1, r1, ?_, fun J hJ D0 hD => ?_⟩⟩
  · intro z
    have h1 : Post X.K fa XR (Rp X.K fa) W σ H1 m1 (match itemAt src ds 0 s1 with
      | none => .no
      | some none => .ok (.ref s1.l.length) ⟨s1.l ++ [.lst []], s1.e⟩
      | some (some d) => _) Q := h1
    rw [z] at h1
    exact h1
  refine ⟨fun i k H2 => ∃ m2 s2 acc, Own X.K fa H1 m1 D0 H2 m2 s2 acc ∧ acc.length + k ≤ 100000 ∧ Post X.K fa XR (Rp X.K fa) W σ H1 m1 (compLoop (itemAt src ds) tg (ev F elt) (ev F cond) (clears vs ρ) k i acc s2) Q,
    ⟨100000, m1, _, [], own_0 R1 hD, Nat.le_refl _, h1⟩, fun i k H2 ⟨m2, s2, acc, O2, hk, h2⟩ => ?_⟩
  have wj := hJ i H2 m2 s2 O2.le.w O2.rel
  cases k with
  | zero => exact h2.elim
  | succ k =>
    have h2 : Post X.K fa XR (Rp X.K fa) W σ H1 m1 (match itemAt src ds i s2 with
      | none => .no
      | some none => .ok (.ref s2.l.length) ⟨s2.l ++ [.lst acc.reverse], s2.e⟩
      | some (some d) => match put tg d (clears vs ρ) with
        | none => .no
        | some ρ' => match tst (ev F cond ρ' s2) with
          | .ok true s1' => match ev F elt ρ' s1' with
            | .ok x s2' => compLoop (itemAt src ds) tg (ev F elt) (ev F cond) (clears vs ρ) k (i + 1) (x :: acc) s2'
            | _ => .no
          | .ok false s1' => compLoop (itemAt src ds) tg (ev F elt) (ev F cond) (clears vs ρ) k (i + 1) acc s1'
          | _ => .no) Q := h2
    cases e : itemAt src ds i s2 with
    | none => rw [e] at h2; exact h2.elim
    | some o =>
      rw [e] at wj h2
      cases o with
      | none =>
        obtain ⟨l9, R9, at9⟩ := O2.last
        exact .inl ⟨wj, h2 (.ref D0) H2 _ l9 R9 ⟨D0, rfl, at9⟩⟩
      | some d =>
        obtain ⟨go, yl⟩ := wj
        refine .inr ⟨go, fun H' => ∃ m' s' acc', Own X.K fa H1 m1 D0 H' m' s' acc' ∧ acc'.length + k ≤ 100000 ∧ Post X.K fa XR (Rp X.K fa) W σ H1 m1 (compLoop (itemAt src ds) tg (ev F elt) (ev F cond) (clears vs ρ) k (i + 1) acc' s') Q,
          fun H' n => ⟨k, Nat.lt_succ_self k, n⟩, fun x H3 y => ?_⟩
        obtain ⟨m3, L3, R3, rx⟩ := yl x H3 y
        dsimp only at h2
        cases ep : put tg d (clears vs ρ) with
        | none => rw [ep] at h2; exact h2.elim
        | some ρ' =>
          rw [ep] at h2
          dsimp only at h2
          have E3 : EnvR X.K fa H3 m3 σ ρ := ((E.le l1).le O2.le).le L3
          refine ⟨m3, clears vs ρ, d, ρ', env_clears E3 vs, rx, ep, fun σ2 E2 o2 => ⟨?_, m3, ρ', s2, R3, E2, ?_⟩⟩
          · have w2 : wipe σ2 vs = wipe (wipe σ vs) vs := wipe_same (fun j hj => o2.2 j fun z => hj (hv j z)) o2.1
            rw [w2]
            refine wipe_same (fun j hj => ?_) (wipe_length σ vs)
            exact wipe_out hj
          · cases et : tst (ev F cond ρ' s2) with
            | ex x fs s' => rw [et] at h2; exact h2.elim
            | no => rw [et] at h2; exact h2.elim
            | ok b s4 =>
              rw [et] at h2
              intro b' H4 m4 L4 R4 eb
              cases eb
              cases b with
              | false => exact iteF ⟨m4, s4, acc, O2.step (L3.trans L4) R4, by omega, h2⟩
              | true =>
                refine iteT ⟨m4, ρ', s4, R4, E2.le L4, ?_⟩
                dsimp only at h2
                cases ee : ev F elt ρ' s4 with
                | ex x fs s' => rw [ee] at h2; exact h2.elim
                | no => rw [ee] at h2; exact h2.elim
                | ok z s5 =>
                  rw [ee] at h2
                  intro yv H5 m5 L5 R5 ry
                  dsimp only at h2
                  have O5 := O2.step ((L3.trans L4).trans L5) R5
                  obtain ⟨us, hu, _⟩ := O5.at'
                  exact ⟨us, hu, by rw [O5.len hu, sizeLine_eq]; omega, m5, s5, z :: acc, O5.push hu ry, by rw [List.length_cons]; omega, h2⟩
end
end Mi

set_option linter.all false
set_option maxRecDepth 100000
set_option maxHeartbeats 4000000
namespace L2
open PySem PySem.Spec PyProof.Rows

theorem compTurnG_out (elt t0 i0 t1 i1 : Expr) (ifs0 ifs1 : List Expr) (gens : List Comprehension) (d : Nat) (scope : Scope) (pos : Pos) (it acc : Value) (env : Env) (hd : gens[d]? = some ⟨t0, i0, ifs0, 0⟩) (hn : gens[d + 1]? = some ⟨t1, i1, ifs1, 0⟩) :
    compTurn (.ListComp elt gens scope pos) d it acc env = (do
      standAt i0.pos
      match ← pyNext it with
      | none => pure (.done .next)
      | some v =>
        letOwnedTupleGo t0 it v
        assign t0 env v
        let mut ok := true
        for c in ifs0 do
          if ok then ok ← isTrue c env (eval c env)
        if ok then
          let x ← eval i1 env
          standAt i1.pos
          let x ← foldedSetIterable i1 env x
          let _ ← runOwn (.compStart (.ListComp elt gens scope pos) (d + 1) (← holding [x] (pyIter x)) acc env) env
        again (.compLoop (.ListComp elt gens scope pos) d it acc env)) := by
  unfold compTurn
  dsimp only
  rw [hd, hn]
  rfl
theorem compTurnG_in (elt t1 i1 : Expr) (ifs1 : List Expr) (gens : List Comprehension) (d : Nat) (scope : Scope) (pos : Pos) (it acc : Value) (env : Env) (hd : gens[d]? = some ⟨t1, i1, ifs1, 0⟩) (hn : gens[d + 1]? = none) :
    compTurn (.ListComp elt gens scope pos) d it acc env = (do
      standAt i1.pos
      match ← pyNext it with
      | none => pure (.done .next)
      | some v =>
        letOwnedTupleGo t1 it v
        assign t1 env v
        let mut ok := true
        for c in ifs1 do
          if ok then ok ← isTrue c env (eval c env)
        if ok then
          (do let _ ← call (.builtin "list.append") [acc, ← eval elt env])
        again (.compLoop (.ListComp elt gens scope pos) d it acc env)) := by
  unfold compTurn
  dsimp only
  rw [hd, hn]
  rfl

section
variable {prog : Program} {w : World} {A : Around} {R : Result → Shared → Prop} {s : Shared} {elt t0 i0 t1 i1 : Expr} {ifs0 ifs1 : List Expr} {gens : List Comprehension} {d : Nat} {scope : Scope} {pos : Pos} {it acc : Value} {env : Env}
theorem compLoopG_out (hd : gens[d]? = some ⟨t0, i0, ifs0, 0⟩) (hn : gens[d + 1]? = some ⟨t1, i1, ifs1, 0⟩) (hs : ∀ x, foldedSetIterable i1 env x = pure x) (I : Nat → Shared → Prop)
    (turn : ∀ n s, I n s → wpAny (model prog w) A (pyNext it) (fun r s₁ => match r with
      | none => R (.ok .next) s₁
      | some v => wpAny (model prog w) A (letOwnedTupleGo t0 it v) (fun _ s₁' => wpAny (model prog w) A (assign t0 env v) (fun _ s₂ =>
          wpAny (model prog w) A (forIn ifs0 true fun c r => if r = true then do let ok ← isTrue c env (eval c env); pure (ForInStep.yield ok) else pure (ForInStep.yield r)) (fun ok s₃ =>
            if ok = true then wpAny (model prog w) A (eval i1 env) (fun x s₄ => wpAny (model prog w) A (pyIter x) (fun it1 s₅ =>
              codeAny (model prog w) A (.compStart (.ListComp elt gens scope pos) (d + 1) it1 acc env) (fun r s' => match r with
                | .ok _ => ∃ m, m < n ∧ I m s'
                | .error _ => False) s₅) (notedBy (model prog w) A env fun e s' => R (.error e) s') s₄) (notedBy (model prog w) A env fun e s' => R (.error e) s') s₃
            else ∃ m, m < n ∧ I m s₃) (notedBy (model prog w) A env fun e s' => R (.error e) s') s₂) (notedBy (model prog w) A env fun e s' => R (.error e) s') s₁') (notedBy (model prog w) A env fun e s' => R (.error e) s') s₁) (notedBy (model prog w) A env fun e s' => R (.error e) s') s)
    (n : Nat) (h : I n s) :
    codeAny (model prog w) A (.compLoop (.ListComp elt gens scope pos) d it acc env) R s := by
  refine codeAny_loop rfl I (fun n s hI => ?_) n h
  show wpAny _ A ((compTurn (.ListComp elt gens scope pos) d it acc env).onRaise (fun x => do noteFrame x env; theTreesLotGoes x)) _ _ s
  refine wpAny_noted ?_
  rw [compTurnG_out elt t0 i0 t1 i1 ifs0 ifs1 gens d scope pos it acc env hd hn]
  refine wpAny_bind (wpAny_standAt (wpAny_bind (wpAny_mono (turn n s hI) (fun r s₁ h₁ => ?_) fun _ _ h' => h')))
  cases r with
  | none => exact wpAny_pure h₁
  | some v =>
    refine wpAny_bind (wpAny_mono h₁ (fun _ s₁' h₁' => ?_) fun _ _ h' => h')
    refine wpAny_bind (wpAny_mono h₁' (fun _ s₂ h₂ => wpAny_bind (wpAny_mono h₂ (fun ok s₃ h₃ => ?_) fun _ _ h' => h')) fun _ _ h' => h')
    cases ok with
    | false => exact wpAny_pure ⟨rfl, h₃⟩
    | true =>
      refine wpAny_bind (wpAny_mono h₃ (fun x s₄ h₄ => ?_) fun _ _ h' => h')
      refine wpAny_bind (wpAny_standAt (wpAny_bind (wpAny_of_eq (hs x) (wpAny_bind (wpAny_holding (wpAny_mono h₄ (fun it1 s₅ h₅ => ?_) fun _ _ h' => h'))))))
      refine wpAny_bind (wpAny_runOwn ?_)
      rw [Around.mark_none]
      refine codeAny_mono h₅ fun r s' hr => ?_
      cases r with
      | ok f =>
        first
          | exact wpAny_pure ⟨rfl, hr⟩
          | exact wpAny_bind (wpAny_pure (wpAny_pure ⟨rfl, hr⟩))
      | error e => exact hr.elim
theorem compLoopG_in (hd : gens[d]? = some ⟨t1, i1, ifs1, 0⟩) (hn : gens[d + 1]? = none) (I : Nat → Shared → Prop)
    (turn : ∀ n s, I n s → wpAny (model prog w) A (pyNext it) (fun r s₁ => match r with
      | none => R (.ok .next) s₁
      | some v => wpAny (model prog w) A (letOwnedTupleGo t1 it v) (fun _ s₁' => wpAny (model prog w) A (assign t1 env v) (fun _ s₂ =>
          wpAny (model prog w) A (forIn ifs1 true fun c r => if r = true then do let ok ← isTrue c env (eval c env); pure (ForInStep.yield ok) else pure (ForInStep.yield r)) (fun ok s₃ =>
            if ok = true then wpAny (model prog w) A (eval elt env) (fun x s₄ =>
              wpAny (model prog w) A (call (.builtin "list.append") [acc, x]) (fun _ s₅ => ∃ m, m < n ∧ I m s₅) (notedBy (model prog w) A env fun e s' => R (.error e) s') s₄) (notedBy (model prog w) A env fun e s' => R (.error e) s') s₃
            else ∃ m, m < n ∧ I m s₃) (notedBy (model prog w) A env fun e s' => R (.error e) s') s₂) (notedBy (model prog w) A env fun e s' => R (.error e) s') s₁') (notedBy (model prog w) A env fun e s' => R (.error e) s') s₁) (notedBy (model prog w) A env fun e s' => R (.error e) s') s)
    (n : Nat) (h : I n s) :
    codeAny (model prog w) A (.compLoop (.ListComp elt gens scope pos) d it acc env) R s := by
  refine codeAny_loop rfl I (fun n s hI => ?_) n h
  show wpAny _ A ((compTurn (.ListComp elt gens scope pos) d it acc env).onRaise (fun x => do noteFrame x env; theTreesLotGoes x)) _ _ s
  refine wpAny_noted ?_
  rw [compTurnG_in elt t1 i1 ifs1 gens d scope pos it acc env hd hn]
  refine wpAny_bind (wpAny_standAt (wpAny_bind (wpAny_mono (turn n s hI) (fun r s₁ h₁ => ?_) fun _ _ h' => h')))
  cases r with
  | none => exact wpAny_pure h₁
  | some v =>
    refine wpAny_bind (wpAny_mono h₁ (fun _ s₁' h₁' => ?_) fun _ _ h' => h')
    refine wpAny_bind (wpAny_mono h₁' (fun _ s₂ h₂ => wpAny_bind (wpAny_mono h₂ (fun ok s₃ h₃ => ?_) fun _ _ h' => h')) fun _ _ h' => h')
    cases ok with
    | false => exact wpAny_pure ⟨rfl, h₃⟩
    | true =>
      exact wpAny_bind (wpAny_bind (wpAny_mono h₃ (fun x s₄ h₄ => wpAny_bind (wpAny_mono h₄ (fun _ s₅ h₅ => wpAny_pure (wpAny_pure ⟨rfl, h₅⟩)) fun _ _ h' => h')) fun _ _ h' => h'))
theorem compStartG_ok (hd : gens[d]? = some ⟨t1, i1, ifs1, 0⟩) (h0 : codeAny (model prog w) A (.compLoop (.ListComp elt gens scope pos) d it acc env) R s)
    (h : wpAny (model prog w) A (pyIter it) (fun it' s' => codeAny (model prog w) A (.compLoop (.ListComp elt gens scope pos) d it' acc env) R s')
      (notedBy (model prog w) A env fun x s' => R (.error x) s') s) :
    codeAny (model prog w) A (.compStart (.ListComp elt gens scope pos) d it acc env) R s := by
  refine codeAny_of_tree ?_
  show wpAny _ _ ((compStart (.ListComp elt gens scope pos) d it acc env).onRaise (fun x => do noteFrame x env; standAt theWindowsPlace)) _ _ s
  refine wpAny_notedAt ?_
  have hc : (clausesOf (.ListComp elt gens scope pos))[d]? = some ⟨t1, i1, ifs1, 0⟩ := hd
  unfold compStart
  rw [hc]
  show wpAny _ _ (ask >>= _) _ _ s
  refine wpAny_bind (wpAny_askSetting (wpAny_ite ?_))
  split
  · first
      | exact wpAny_bind (wpAny_pure (wpAny_pure (And.intro rfl h0)))
      | exact wpAny_pure (And.intro rfl h0)
  · first
      | exact wpAny_bind (wpAny_rule (wpAny_bind (wpAny_standAt (wpAny_bind (wpAny_mono h (fun it' s' h' => wpAny_pure (And.intro rfl h')) fun _ _ x => x)))))
      | (refine wpAny_bind (wpAny_rule ?_); show wpAny _ _ (standAt i1.pos >>= _) _ _ s; exact wpAny_bind (wpAny_standAt (wpAny_bind (wpAny_mono h (fun it' s' h' => wpAny_pure (And.intro rfl h')) fun _ _ x => x))))
end

/-! ### several clauses -/
/-- a clause's parts and readings; vs: its target's slots and those of the clauses behind it -/
structure Cl where
  tg : Expr
  iter : Expr
  ifs : List Expr
  wi : TI
  g : TG
  tt : TT
  vs : List Nat
def Cl.c (c : Cl) : Comprehension := ⟨c.tg, c.iter, c.ifs, 0⟩
structure ClOk (Y : Cx) (c : Cl) : Prop where
  hi : PI Y c.tg c.iter c.wi
  hg : PG Y c.tg c.g
  ht : PTs Y c.ifs c.tt
  hs : ∀ x, foldedSetIterable c.iter Y.env x = pure x
/-- the clauses from one on, the list at D; Nx: what is wished behind them -/
def tIn (D : Addr) (te : TE) : List Cl → St → Hp → (Hp → Prop) → Prop
  | [], σ, H, Nx => te σ H fun y H1 => ∃ acc, H1 D = some (.lst acc) ∧ acc.length < sizeLine ∧ Nx (upd H1 D (.lst (acc ++ [y])))
  | c :: r, σ, H, Nx => c.wi σ H fun J H1 => ∃ W : Nat → Nat → Hp → Prop, (∃ m, W 0 m H1) ∧ ∀ j k H, W j k H →
      (J.stop j H ∧ Nx H) ∨ (J.go j H ∧ ∃ N1 : Hp → Prop, (∀ H', N1 H' → ∃ k', k' < k ∧ W (j + 1) k' H') ∧ ∀ x H', J.yld j H x H' → c.g x (wipe σ c.vs) H' fun σ1 H2 => wipe σ1 c.vs = wipe σ c.vs ∧ c.tt σ1 H2 fun b H3 =>
        if b = true then tIn D te r σ1 H3 N1 else N1 H3)
def vsOf : List Cl → List Nat
  | [] => []
  | c :: _ => c.vs
def nestVs : List Cl → Prop
  | [] => True
  | c :: r => (∀ i ∈ vsOf r, i ∈ c.vs) ∧ nestVs r
/-- what stands behind a clause's store and tests -/
def TailOk (Y : Cx) (elt : Expr) (gens : List Comprehension) (d : Nat) (scope : Scope) (pos : Pos) (D : Addr) (pins : List (Addr × Obj)) (σ : St) (vs : List Nat) (Nx : Hp → Prop) (s : Shared) : Prop :=
  match gens[d]? with
  | some g => wpAny (model Y.prog Y.w) Y.A (eval g.iter Y.env) (fun x s₄ => wpAny (model Y.prog Y.w) Y.A (pyIter x) (fun it1 s₅ =>
      codeAny (model Y.prog Y.w) Y.A (.compStart (.ListComp elt gens scope pos) d it1 (.ref D) Y.env) (fun r s' => match r with
        | .ok _ => ∃ H', Inv Y pins (wipe σ vs) H' s' ∧ Nx H'
        | .error _ => False) s₅) (fun _ _ => False) s₄) (fun _ _ => False) s
  | none => wpAny (model Y.prog Y.w) Y.A (eval elt Y.env) (fun x s₄ => wpAny (model Y.prog Y.w) Y.A (call (.builtin "list.append") [.ref D, x]) (fun _ s₅ => ∃ H', Inv Y pins (wipe σ vs) H' s₅ ∧ Nx H') (fun _ _ => False) s₄) (fun _ _ => False) s
end L2

set_option linter.all false
set_option maxRecDepth 100000
set_option maxHeartbeats 4000000
namespace L2
open PySem PySem.Spec PyProof.Rows
section
variable {Y : Cx} {elt : Expr} {te : TE} {gens : List Comprehension} {scope : Scope} {pos : Pos} {D : Addr}
theorem tail_ok (hc : Y.calm = true) (hxe : Y.xe = fun _ _ => False) (pe : PE Y elt te) : ∀ (cls : List Cl) (d : Nat), (∀ (k : Nat) (c : Cl), cls[k]? = some c → gens[d + k]? = some c.c) → gens[d + cls.length]? = none → (∀ c ∈ cls, ClOk Y c) → nestVs cls →
    ∀ (pins : List (Addr × Obj)) (s : Shared) (σ : St) (H : Hp) (Nx : Hp → Prop), Inv Y pins σ H s → tIn D te cls σ H Nx → TailOk Y elt gens d scope pos D pins σ (vsOf cls) Nx s
  | [], d, _, hn, _, _, pins, s, σ, H, Nx, I, h => by
    have hn : gens[d]? = none := hn
    unfold TailOk
    rw [hn]
    have run := pe.run pins s σ H _ I h
    rw [hxe] at run
    refine thnF run fun x s1 ⟨yv, H1, I1, r1, acc, hD, hz, nx⟩ => ?_
    exact app_ok I1 hD hz r1 fun s' I' => ⟨_, I', nx⟩
  | c :: r, d, hd, hn, hk, hv, pins, s, σ, H, Nx, I, h => by
    have hd0 : gens[d]? = some ⟨c.tg, c.iter, c.ifs, 0⟩ := hd 0 c rfl
    obtain ⟨hi, hg, ht, hs⟩ := hk c (List.mem_cons_self ..)
    have ihr := tail_ok hc hxe pe r (d + 1) (fun k c' e => by
      have q := hd (k + 1) c' e
      rw [show d + 1 + k = d + (k + 1) by omega]
      exact q) (by rw [show d + 1 + r.length = d + (c :: r).length by rw [List.length_cons]; omega]; exact hn) (fun c' hc' => hk c' (List.mem_cons_of_mem _ hc')) hv.2
    unfold TailOk
    rw [hd0]
    have run := hi.run pins s σ H _ I h
    rw [hxe] at run
    refine thnF run fun xv s1 hx => thnF hx fun itv s2 h2 => ?_
    obtain ⟨it, fp, tn, J, H2, e1, I2, T, st2, f2, W, ⟨m0, w0⟩, turn⟩ := h2
    subst e1
    have stat : ∀ {H' : Hp}, (∀ b ∈ fp, H' b = none) → ∀ b ∈ fp, FpOk Y pins H' b := fun hn b hb => ⟨hn b hb, (f2 b hb).2⟩
    have fin : ∀ {σ1 σ9 : St} {s7 s' : Shared} {H' : Hp} {n j : Nat} {N1 : Hp → Prop}, wipe σ1 c.vs = wipe σ c.vs → (∀ b ∈ fp, ∃ o, s7.heap.get? b = some o ∧ ∀ v, o.data ≠ .cell v) → tn (j + 1) s7.heap → (∀ H', N1 H' → ∃ k', k' < n ∧ W (j + 1) k' H') →
        Inv Y (pins ++ pinsAt fp s7.heap) σ9 H' s' → (σ9 = σ1 ∨ ∃ vs, (∀ i ∈ vs, i ∈ c.vs) ∧ σ9 = wipe σ1 vs) → N1 H' →
        ∃ m, m < n ∧ ∃ j H', Inv Y pins (wipe σ c.vs) H' s' ∧ tn j s'.heap ∧ (∀ b ∈ fp, H' b = none) ∧ W j m H' := fun {σ1 σ9 s7 s' H' n j N1} hw ho st7 hN I' h9 nx => by
      obtain ⟨m', hm, w'⟩ := hN H' nx
      have pin' : ∀ b ∈ fp, ∀ o, s7.heap.get? b = some o → s'.heap.get? b = some o ∧ H' b = none := fun b hb o e =>
        let z := I'.pin (b, o) (List.mem_append_right _ (List.mem_append_right _ (mem_pinsAt hb e)))
        ⟨z.1, z.2.1⟩
      have hl : (wipe σ c.vs).length = σ9.length := by
        rcases h9 with rfl | ⟨vs, _, rfl⟩
        · rw [← hw, wipe_length]
        · rw [← hw, wipe_length, wipe_length]
      have hk9 : ∀ (j : Nat) v, (wipe σ c.vs)[j]? = some (some v) → σ9[j]? = some (some v) := fun j v e => by
        rw [← hw] at e
        obtain ⟨e1, e2⟩ := wipe_some e
        rcases h9 with rfl | ⟨vs, hvs, rfl⟩
        · exact e1
        · rw [wipe_out fun z => e2 (hvs j z)]
          exact e1
      refine ⟨m', hm, j + 1, H', I'.unpinned.weak hl hk9, T.keep _ _ _ st7 fun b hb o e => (pin' b hb o e).1, fun b hb => ?_, w'⟩
      obtain ⟨o, e, _⟩ := ho b hb
      exact (pin' b hb o e).2
    have I2w : Inv Y pins (wipe σ c.vs) H2 s2 := I2.weak (wipe_length _ _) (fun j v e => (wipe_some e).1)
    have loop : codeAny (model Y.prog Y.w) Y.A (.compLoop (.ListComp elt gens scope pos) d (.ref it) (.ref D) Y.env)
        (fun r s' => match r with
          | .ok _ => ∃ H', Inv Y pins (wipe σ c.vs) H' s' ∧ Nx H'
          | .error _ => False) s2 := by
      cases r with
      | nil =>
        have hn1 : gens[d + 1]? = none := hn
        refine compLoopG_in hd0 hn1 (fun k s' => ∃ j H', Inv Y pins (wipe σ c.vs) H' s' ∧ tn j s'.heap ∧ (∀ b ∈ fp, H' b = none) ∧ W j k H') ?_ m0 ⟨0, H2, I2w, st2, fun b hb => (f2 b hb).1, w0⟩
        rintro k s3 ⟨j, H3, I3, st3, n3, w3⟩
        rcases turn j k H3 w3 with ⟨stop1, nx1⟩ | ⟨go1, N1, hN1, step1⟩
        · refine thnF (T.done Y rfl rfl rfl hc j _ s3 (wipe σ c.vs) H3 (fun _ _ => False) I3 (stat n3) st3 stop1) fun r s4 ⟨hr, I4⟩ => ?_
          subst hr
          exact ⟨H3, I4, nx1⟩
        · refine thnF (T.item Y rfl rfl rfl hc j _ s3 (wipe σ c.vs) H3 (fun _ _ => False) I3 (stat n3) st3 go1) fun r s4 ⟨u, hr, h4⟩ => ?_
          subst hr
          refine thnF h4 fun _ s5 ⟨x, H5, I5, r5, y5, st5, n5⟩ => ?_
          have I5' := I5.pinned (stat n5) (T.obj _ _ st5)
          have rg := hg.run _ s5 (wipe σ c.vs) H5 x u _ I5' r5 (step1 x H5 y5)
          rw [hxe] at rg
          refine thnF rg fun _ s6 ⟨σ6, H6, I6, hw6, q6⟩ => ?_
          have rt := ht.run _ s6 σ6 H6 _ I6 q6
          rw [hxe] at rt
          refine thnF rt fun b s7 ⟨H7, I7, q7⟩ => ?_
          cases b with
          | false =>
            simp only [Bool.false_eq_true, if_false] at q7 ⊢
            exact fin hw6 (T.obj _ _ st5) st5 hN1 I7 (.inl rfl) q7
          | true =>
            simp only [if_true] at q7 ⊢
            have tl := ihr _ s7 σ6 H7 N1 I7 q7
            unfold TailOk at tl
            rw [hn1] at tl
            refine thnF tl fun x s8 h8 => thnF h8 fun _ s9 ⟨H9, I9, nx⟩ => ?_
            exact fin hw6 (T.obj _ _ st5) st5 hN1 I9 (.inl rfl) nx
      | cons c1 r =>
        have hd1 : gens[d + 1]? = some ⟨c1.tg, c1.iter, c1.ifs, 0⟩ := hd 1 c1 rfl
        have hs1 := (hk c1 (List.mem_cons_of_mem _ (List.mem_cons_self ..))).hs
        refine compLoopG_out hd0 hd1 hs1 (fun k s' => ∃ j H', Inv Y pins (wipe σ c.vs) H' s' ∧ tn j s'.heap ∧ (∀ b ∈ fp, H' b = none) ∧ W j k H') ?_ m0 ⟨0, H2, I2w, st2, fun b hb => (f2 b hb).1, w0⟩
        rintro k s3 ⟨j, H3, I3, st3, n3, w3⟩
        rcases turn j k H3 w3 with ⟨stop1, nx1⟩ | ⟨go1, N1, hN1, step1⟩
        · refine thnF (T.done Y rfl rfl rfl hc j _ s3 (wipe σ c.vs) H3 (fun _ _ => False) I3 (stat n3) st3 stop1) fun r s4 ⟨hr, I4⟩ => ?_
          subst hr
          exact ⟨H3, I4, nx1⟩
        · refine thnF (T.item Y rfl rfl rfl hc j _ s3 (wipe σ c.vs) H3 (fun _ _ => False) I3 (stat n3) st3 go1) fun r s4 ⟨u, hr, h4⟩ => ?_
          subst hr
          refine thnF h4 fun _ s5 ⟨x, H5, I5, r5, y5, st5, n5⟩ => ?_
          have I5' := I5.pinned (stat n5) (T.obj _ _ st5)
          have rg := hg.run _ s5 (wipe σ c.vs) H5 x u _ I5' r5 (step1 x H5 y5)
          rw [hxe] at rg
          refine thnF rg fun _ s6 ⟨σ6, H6, I6, hw6, q6⟩ => ?_
          have rt := ht.run _ s6 σ6 H6 _ I6 q6
          rw [hxe] at rt
          refine thnF rt fun b s7 ⟨H7, I7, q7⟩ => ?_
          cases b with
          | false =>
            simp only [Bool.false_eq_true, if_false] at q7 ⊢
            exact fin hw6 (T.obj _ _ st5) st5 hN1 I7 (.inl rfl) q7
          | true =>
            simp only [if_true] at q7 ⊢
            have tl := ihr _ s7 σ6 H7 N1 I7 q7
            unfold TailOk at tl
            rw [hd1] at tl
            refine thnF tl fun x s8 h8 => thnF h8 fun it1 s9 h9 => codeAny_mono h9 fun rr s10 hr => ?_
            cases rr with
            | ok f =>
              obtain ⟨H10, I10, nx⟩ := hr
              exact fin hw6 (T.obj _ _ st5) st5 hN1 I10 (.inr ⟨_, hv.1, rfl⟩) nx
            | error e => exact hr
    exact compStartG_ok hd0 loop (T.self Y.A 0 _ _ _ st2 loop)
end
end L2

set_option linter.all false
set_option maxRecDepth 100000
set_option maxHeartbeats 4000000
namespace L2
open PySem PySem.Spec PyProof.Rows
section
variable {X : Cx}
/-- a list comprehension of several clauses: the first one's readings, the others as tIn has them -/
def tLcG (wi : TI) (g : TG) (tt : TT) (r : List Cl) (te : TE) (vs : List Nat) : TE := fun σ H Q => wi σ H fun J H1 => ∀ D, H1 D = none → ∃ W : Nat → Nat → Hp → Prop, (∃ m, W 0 m (upd H1 D (.lst []))) ∧ ∀ i m H, W i m H →
  (J.stop i H ∧ Q (.ref D) H) ∨ (J.go i H ∧ ∃ Nx : Hp → Prop, (∀ H', Nx H' → ∃ m', m' < m ∧ W (i + 1) m' H') ∧ ∀ x H', J.yld i H x H' → g x (wipe σ vs) H' fun σ2 H2 => wipe σ2 vs = wipe σ vs ∧ tt σ2 H2 fun b H3 =>
    if b = true then tIn D te r σ2 H3 Nx else Nx H3)
theorem lcG_core {pins : List (Addr × Obj)} {s : Shared} {σ : St} {H : Hp} {Q : VK} {elt tg iter : Expr} {ifs : List Expr} {c1 : Cl} {r : List Cl} {scope : Scope} {own : List (Str × Nat)} {pos pos' : Pos} {wi : TI} {g : TG} {tt : TT} {te : TE} {use : Option (Value → Sem Unit)} {Qf : Value → Shared → Prop}
    (hc : X.calm = true) (hN : X.N.Nodup) (I : Inv X pins σ H s) (hi : PI X tg iter wi) (ok : BlkOk X.N X.env.scope scope own) (hv : ∀ i ∈ c1.vs, i ∈ own.map (·.2)) (hnv : nestVs (c1 :: r))
    (hg : ∀ (s : Shared) (H : Hp) (C : Addr) (cl : List (Str × Addr)) (fp : List Addr), PG (X.blk s H scope (compEnvC scope cl C X.env) fp) tg g) (ht : ∀ (s : Shared) (H : Hp) (C : Addr) (cl : List (Str × Addr)) (fp : List Addr), PTs (X.blk s H scope (compEnvC scope cl C X.env) fp) ifs tt)
    (he : ∀ (s : Shared) (H : Hp) (C : Addr) (cl : List (Str × Addr)) (fp : List Addr), PE (X.blk s H scope (compEnvC scope cl C X.env) fp) elt te) (hs : ∀ x, foldedSetIterable iter X.env x = pure x)
    (hk : ∀ (s : Shared) (H : Hp) (C : Addr) (cl : List (Str × Addr)) (fp : List Addr), ∀ c ∈ c1 :: r, ClOk (X.blk s H scope (compEnvC scope cl C X.env) fp) c)
    (h : tLcG wi g tt (c1 :: r) te (own.map (·.2)) σ H Q)
    (hRR : ∀ D C s' m H', Inv X pins σ H' s' → Q (.ref D) H' → s'.heap.Ns C m → FpOk X pins H' C → compPost (model X.prog X.w) X.A X.xe use Qf (.ref D) C (.ok .next) s') :
    wpAny (model X.prog X.w) X.A (comprehension (.ListComp elt (⟨tg, iter, ifs, 0⟩ :: (c1 :: r).map Cl.c) scope pos) scope X.env pos' (newList []) false (eval iter X.env) use) Qf X.xe s := by
  have hfree : ∀ y ∈ scope.names, y.2 = .free → ∃ c, X.env.cells.lookup y.1 = some c := fun y hy e => by
    rcases ok.free y hy e with k | k
    · exact I.ok.has _ (.inl k)
    · exact I.ok.has _ (.inr k)
  refine wpAny_comprehension_free (use := use) rfl hs (closure_ok hfree) ok.kind (fun y hy e => by rw [ok.uniq y hy, e])
    (thn (hi.run pins s σ H _ I h) fun xv s1 hx => thn hx fun itv s2 h2 => ?_)
  obtain ⟨it, fp, tn, J, H2, e, I2, T, st2, f2, q⟩ := h2
  subst e
  refine wpAny_newObj_type (newEnv_comp ?_) (by show 0 ≤ sizeLine; decide)
  generalize hD : s2.heap.objs.size = D
  have hDn : H2 D = none := I2.hok.fresh (Nat.le_of_eq hD)
  obtain ⟨W, ⟨m0, w0⟩, turn⟩ := q D hDn
  -- the new list
  generalize hs3 : ({ s2 with heap := s2.heap.push { cls := .type "list", data := .seq ([] : List Value).toArray } } : Shared) = s3
  have I3 : Inv X pins σ (upd H2 D (.lst [])) s3 := by
    rw [← hs3]
    refine I2.laid (t' := s2.toks) (fun b o e => Heap.get?_push_of_some _ e) (Nat.le_of_eq hD) ⟨Nat.zero_le _, [], 0, .nil, ?_⟩
    rw [← hD]
    exact Heap.get?_push_size _ rfl
  have h3 : s3.heap = s2.heap.push { cls := .type "list", data := .seq ([] : List Value).toArray } := by rw [← hs3]
  have sz : ∀ b ∈ fp, b < s2.heap.objs.size := fun b hb => by
    obtain ⟨o, e, _⟩ := T.obj _ _ st2 b hb
    exact Heap.lt_size e
  have f3 : ∀ b ∈ fp, FpOk X pins (upd H2 D (.lst [])) b ∧ b < s3.heap.objs.size := fun b hb => by
    have hlt := sz b hb
    refine ⟨⟨?_, (f2 b hb).2⟩, by rw [h3, Heap.size_push]; exact Nat.lt_succ_of_lt hlt⟩
    rw [upd_ne (by rw [← hD]; exact Nat.ne_of_lt hlt)]
    exact (f2 b hb).1
  have st3 : tn 0 s3.heap := T.keep _ _ _ st2 fun b _ o e => by rw [h3]; exact Heap.get?_push_of_some _ e
  have I4 := block_start I3 ok hN f3
  have pg := hg s3 (upd H2 D (.lst [])) s3.heap.objs.size (cellsFrom (s3.heap.objs.size + 1) scope.names (cloFrom X.env.cells scope.names [])) fp
  have pt := ht s3 (upd H2 D (.lst [])) s3.heap.objs.size (cellsFrom (s3.heap.objs.size + 1) scope.names (cloFrom X.env.cells scope.names [])) fp
  have pe := he s3 (upd H2 D (.lst [])) s3.heap.objs.size (cellsFrom (s3.heap.objs.size + 1) scope.names (cloFrom X.env.cells scope.names [])) fp
  have pk := hk s3 (upd H2 D (.lst [])) s3.heap.objs.size (cellsFrom (s3.heap.objs.size + 1) scope.names (cloFrom X.env.cells scope.names [])) fp
  show codeAny _ _ (.compStart (.ListComp elt (⟨tg, iter, ifs, 0⟩ :: (c1 :: r).map Cl.c) scope pos) 0 (.ref it) (.ref D) (compEnvC scope (cellsFrom (s3.heap.objs.size + 1) scope.names (cloFrom X.env.cells scope.names [])) s3.heap.objs.size X.env)) (compPost (model X.prog X.w) X.A X.xe use Qf (.ref D) s3.heap.objs.size) { s3 with heap := pushCells (s3.heap.push { cls := .type "dict", data := .dict #[] }) scope.names }
  have nfp : ∀ b ∈ fp, (upd H2 D (.lst [])) b = none := fun b hb => (f3 b hb).1.1
  generalize hce : compEnvC scope (cellsFrom (s3.heap.objs.size + 1) scope.names (cloFrom X.env.cells scope.names [])) s3.heap.objs.size X.env = ce at I4 pg pt pe pk ⊢
  have cL : ce.locals = s3.heap.objs.size := by subst hce; rfl
  generalize hH3 : upd H2 D (.lst []) = H3 at I3 I4 pg pt pe pk w0 nfp f3
  generalize hs4 : ({ s3 with heap := pushCells (s3.heap.push { cls := .type "dict", data := .dict #[] }) scope.names } : Shared) = s4 at I4 ⊢
  have st4 : tn 0 s4.heap := T.keep _ _ _ st3 fun b _ o e => by rw [← hs4]; exact pushCells_keeps _ _ _ _ (Heap.get?_push_of_some _ e)
  have stat : ∀ {σ' : St} {H' : Hp} {s' : Shared}, Inv (X.blk s3 H3 scope ce fp) [] σ' H' s' → (∀ b ∈ fp, H' b = none) → ∀ b ∈ fp, FpOk (X.blk s3 H3 scope ce fp) [] H' b := fun {σ' H' s'} I' hn b hb =>
    ⟨hn b hb, (I'.ok.exf b hb).1, I'.ok.exfs b hb, .inl hb, fun x c e => (I'.ok.exf b hb).2 x c e, fun p hp => absurd (show p ∈ ([] : List (Addr × Obj)) ++ [] from hp) (by simp)⟩
  have loop : codeAny (model X.prog X.w) X.A (.compLoop (.ListComp elt (⟨tg, iter, ifs, 0⟩ :: (c1 :: r).map Cl.c) scope pos) 0 (.ref it) (.ref D) ce) (compPost (model X.prog X.w) X.A X.xe use Qf (.ref D) s3.heap.objs.size) s4 := by
    refine compLoopG_out (d := 0) rfl rfl (pk c1 (List.mem_cons_self ..)).hs (fun n s' => ∃ i H', Inv (X.blk s3 H3 scope ce fp) [] (wipe σ (own.map (·.2))) H' s' ∧ tn i s'.heap ∧ (∀ b ∈ fp, H' b = none) ∧ W i n H') ?_ m0 ⟨0, H3, I4, st4, nfp, w0⟩
    rintro n s5 ⟨i, H5, I5, st5, n5, w5⟩
    rcases turn i n H5 w5 with ⟨stop, qq⟩ | ⟨go, Nx, hNx, step⟩
    · have td := T.done (X.blk s3 H3 scope ce fp) rfl rfl rfl hc i [] s5 _ H5 (fun _ _ => False) I5 (stat I5 n5) st5 stop
      refine thnF td fun r s6 ⟨hr, I6⟩ => ?_
      subst hr
      -- back in the def's context
      have I7 : Inv X pins σ H5 s6 := I3.call' (ch := fp) I6.os I6.base I6.hok I6.bare fun b hb => ⟨(f3 b hb).1.2.2.2.1, (f3 b hb).1.2.1, (f3 b hb).1.2.2.2.2.1, (f3 b hb).1.2.2.2.2.2⟩
      have nC : H5 s3.heap.objs.size = none := by
        have z : H5 ce.locals = none := I6.free
        rw [cL] at z
        exact z
      obtain ⟨m, hn, _⟩ := I6.loc
      have hn : s6.heap.Ns ce.locals m := hn
      rw [cL] at hn
      exact hRR D s3.heap.objs.size s6 m H5 I7 qq hn (I3.fpOk (Nat.le_refl _) nC)
    · have ti := T.item (X.blk s3 H3 scope ce fp) rfl rfl rfl hc i [] s5 _ H5 (fun _ _ => False) I5 (stat I5 n5) st5 go
      refine thnF ti fun r s6 ⟨u, hr, h6⟩ => ?_
      subst hr
      refine thnF h6 fun _ s7 ⟨x, H7, I7, r7, y7, st7, n7⟩ => ?_
      have I7' := I7.pinned (stat I7 n7) (T.obj _ _ st7)
      refine thnF (pg.run _ s7 _ H7 x u _ I7' r7 (step x H7 y7)) fun _ s8 ⟨σ8, H8, I8, hw8, q8⟩ => ?_
      refine thnF (pt.run _ s8 σ8 H8 _ I8 q8) fun b s9 ⟨H9, I9, q9⟩ => ?_
      -- the turn's end, from any slots that know what the block knew at its start
      have fin : ∀ {σ9 : St} {s' : Shared} {H' : Hp}, Inv (X.blk s3 H3 scope ce fp) ([] ++ pinsAt fp s7.heap) σ9 H' s' → (wipe σ (own.map (·.2))).length = σ9.length → (∀ (j : Nat) v, (wipe σ (own.map (·.2)))[j]? = some (some v) → σ9[j]? = some (some v)) → Nx H' →
          ∃ m, m < n ∧ ∃ i H', Inv (X.blk s3 H3 scope ce fp) [] (wipe σ (own.map (·.2))) H' s' ∧ tn i s'.heap ∧ (∀ b ∈ fp, H' b = none) ∧ W i m H' := fun {σ9 s' H'} I' hl hk nx => by
        obtain ⟨m', hm, w'⟩ := hNx H' nx
        have pin' : ∀ b ∈ fp, ∀ o, s7.heap.get? b = some o → s'.heap.get? b = some o ∧ H' b = none := fun b hb o e =>
          let z := I'.pin (b, o) (List.mem_append_right _ (List.mem_append_right _ (mem_pinsAt hb e)))
          ⟨z.1, z.2.1⟩
        refine ⟨m', hm, i + 1, H', (I'.unpinned (pins := [])).weak hl hk, T.keep _ _ _ st7 fun b hb o e => (pin' b hb o e).1, fun b hb => ?_, w'⟩
        obtain ⟨o, e, _⟩ := T.obj _ _ st7 b hb
        exact (pin' b hb o e).2
      have hl8 : (wipe σ (own.map (·.2))).length = σ8.length := by rw [← hw8, wipe_length]
      have hk8 : ∀ (j : Nat) v, (wipe σ (own.map (·.2)))[j]? = some (some v) → σ8[j]? = some (some v) := fun j v e => by
        rw [← hw8] at e
        exact (wipe_some e).1
      have hk9 : ∀ (j : Nat) v, (wipe σ (own.map (·.2)))[j]? = some (some v) → (wipe σ8 c1.vs)[j]? = some (some v) := fun j v e => by
        rw [← hw8] at e
        obtain ⟨e1, e2⟩ := wipe_some e
        rw [wipe_out fun z => e2 (hv j z)]
        exact e1
      cases b with
      | false =>
        simp only [Bool.false_eq_true, if_false] at q9 ⊢
        exact fin I9 hl8 hk8 q9
      | true =>
        simp only [if_true] at q9 ⊢
        have tl := tail_ok (Y := X.blk s3 H3 scope ce fp) (elt := elt) (te := te) (gens := (⟨tg, iter, ifs, 0⟩ :: (c1 :: r).map Cl.c)) (scope := scope) (pos := pos) (D := D) hc rfl pe (c1 :: r) 1 (fun k c e => by
          show (((⟨tg, iter, ifs, 0⟩ : Comprehension) :: (c1 :: r).map Cl.c))[1 + k]? = some c.c
          rw [Nat.add_comm, List.getElem?_cons_succ, List.getElem?_map, e]
          rfl) (by
          rw [Nat.add_comm, List.getElem?_cons_succ, List.getElem?_map, List.getElem?_eq_none (Nat.le_refl _)]
          rfl) pk hnv _ s9 σ8 H9 Nx I9 q9
        refine thnF (show wpAny _ _ (eval c1.iter ce) _ (fun _ _ => False) s9 from tl) fun xv s10 hx => thnF hx fun itv s11 h11 => codeAny_mono h11 fun rr s12 hr => ?_
        cases rr with
        | ok f =>
          obtain ⟨H12, I12, nx⟩ := hr
          exact fin I12 (hl8.trans (wipe_length σ8 c1.vs).symm) hk9 nx
        | error e => exact hr
  exact codeAny_compStart_list loop (T.self X.A 0 _ _ _ st4 loop)
end
end L2

set_option linter.all false
set_option maxRecDepth 100000
set_option maxHeartbeats 4000000
namespace L2
open PySem PySem.Spec PyProof.Rows
section
variable {X : Cx}
/-- as a value -/
theorem pe_lcG {elt tg iter : Expr} {ifs : List Expr} {c1 : Cl} {r : List Cl} {scope : Scope} {own : List (Str × Nat)} {pos : Pos} {wi : TI} {g : TG} {tt : TT} {te : TE} (hc : X.calm = true) (hN : X.N.Nodup) (hi : PI X tg iter wi) (ok : BlkOk X.N X.env.scope scope own) (hv : ∀ i ∈ c1.vs, i ∈ own.map (·.2)) (hnv : nestVs (c1 :: r))
    (hg : ∀ (s : Shared) (H : Hp) (C : Addr) (cl : List (Str × Addr)) (fp : List Addr), PG (X.blk s H scope (compEnvC scope cl C X.env) fp) tg g) (ht : ∀ (s : Shared) (H : Hp) (C : Addr) (cl : List (Str × Addr)) (fp : List Addr), PTs (X.blk s H scope (compEnvC scope cl C X.env) fp) ifs tt)
    (hk : ∀ (s : Shared) (H : Hp) (C : Addr) (cl : List (Str × Addr)) (fp : List Addr), ∀ c ∈ c1 :: r, ClOk (X.blk s H scope (compEnvC scope cl C X.env) fp) c)
    (he : ∀ (s : Shared) (H : Hp) (C : Addr) (cl : List (Str × Addr)) (fp : List Addr), PE (X.blk s H scope (compEnvC scope cl C X.env) fp) elt te) (hs : ∀ x, foldedSetIterable iter X.env x = pure x) :
    PE X (.ListComp elt (⟨tg, iter, ifs, 0⟩ :: (c1 :: r).map Cl.c) scope pos) (tLcG wi g tt (c1 :: r) te (own.map (·.2))) := by
  refine ⟨fun pins s σ H Q I h => ?_⟩
  rw [eval_ListComp]
  refine lcG_core hc hN I hi ok hv hnv hg ht he hs hk h fun D C s' m H' I' q hn f => ⟨m, hn, fun h'' sb => ?_⟩
  obtain ⟨f0, f1, f2, f3, f4, f5⟩ := f
  exact ⟨.ref D, H', I'.turned (t' := s'.toks) (fun b o hb e => (sb.2 b hb).trans e) f0 f1 f3 f4 f5, rfl, q⟩
/-- stored straight into a local name -/
theorem ps_setLcG {i : Nat} {y : Str} {py : Pos} {elt tg iter : Expr} {ifs : List Expr} {c1 : Cl} {r : List Cl} {scope : Scope} {own : List (Str × Nat)} {pos spos : Pos} {wi : TI} {g : TG} {tt : TT} {te : TE} (hc : X.calm = true) (hN : X.N.Nodup) (hy : X.N[i]? = some y) (hyl : X.env.scope.names.lookup y = some .local)
    (hsw : swapsWith (.ListComp elt (⟨tg, iter, ifs, 0⟩ :: (c1 :: r).map Cl.c) scope pos) (some (.Name y py)) spos.line X.env = pure true) (hi : PI X tg iter wi) (ok : BlkOk X.N X.env.scope scope own) (hv : ∀ i ∈ c1.vs, i ∈ own.map (·.2)) (hnv : nestVs (c1 :: r))
    (hg : ∀ (s : Shared) (H : Hp) (C : Addr) (cl : List (Str × Addr)) (fp : List Addr), PG (X.blk s H scope (compEnvC scope cl C X.env) fp) tg g) (ht : ∀ (s : Shared) (H : Hp) (C : Addr) (cl : List (Str × Addr)) (fp : List Addr), PTs (X.blk s H scope (compEnvC scope cl C X.env) fp) ifs tt)
    (hk : ∀ (s : Shared) (H : Hp) (C : Addr) (cl : List (Str × Addr)) (fp : List Addr), ∀ c ∈ c1 :: r, ClOk (X.blk s H scope (compEnvC scope cl C X.env) fp) c)
    (he : ∀ (s : Shared) (H : Hp) (C : Addr) (cl : List (Str × Addr)) (fp : List Addr), PE (X.blk s H scope (compEnvC scope cl C X.env) fp) elt te) (hs : ∀ x, foldedSetIterable iter X.env x = pure x) :
    PS X (.Assign [.Name y py] (.ListComp elt (⟨tg, iter, ifs, 0⟩ :: (c1 :: r).map Cl.c) scope pos) spos) (tAsg (tLcG wi g tt (c1 :: r) te (own.map (·.2))) (gName i)) := by
  refine ⟨fun pins s σ H D I h => ?_⟩
  rw [exec_Assign_Name_used _ _ _ _ hsw]
  refine wpAny_bind (wpAny_standAt (wpAny_bind ?_))
  show wpAny _ X.A (do let _ ← comprehension (.ListComp elt (⟨tg, iter, ifs, 0⟩ :: (c1 :: r).map Cl.c) scope pos) scope X.env (firstIterPos (⟨tg, iter, ifs, 0⟩ :: (c1 :: r).map Cl.c) pos) (newList []) false (eval iter X.env) (some (assign (.Name y py) X.env))) _ _ s
  have h : tLcG wi g tt (c1 :: r) te (own.map (·.2)) σ H (fun x H1 => gName i x σ H1 D.nx) := h
  refine wpAny_bind (thn (lcG_core (Qf := fun _ s' => SP X pins D .next s') hc hN I hi ok hv hnv hg ht he hs hk h fun L C s' m H' I' q hn f => ?_) fun _ s' hq => wpAny_pure (wpAny_pure hq))
  show wpAny _ _ (assign (.Name y py) X.env (.ref L)) _ _ _
  refine wpAny_assign_Name (store_ok2 (v := V.ref L) I' hN hy (.inl hyl) rfl (fun s2 I2 ⟨a, sb, ha⟩ => ?_) (.inr hyl))
  obtain ⟨f0, f1, f2, f3, f4, f5⟩ := f
  have haC : C ≠ a := by
    rcases ha with z | z
    · rw [z]; exact f1
    · exact fun e => f4 y a z e.symm
  refine ⟨m, hn.sameBut sb haC, fun h3 sb3 => ?_⟩
  exact ⟨_, H', I2.turned (t' := s2.toks) (fun b o hb e => (sb3.2 b hb).trans e) f0 f1 f3 f4 f5, q⟩
end
end L2
namespace Mi
open PySem PySem.Spec PyProof.Rows L2
section
variable {X : Cx} {fa : Nat → Option Addr} {XR : Nat → List D → Value → Option Addr → Hp → List Addr → Prop} {F : Funs} {W : WX}
/-- the clauses and their short forms -/
inductive ClsM (K : PySem.W.Frag) (fa : Nat → Option Addr) (XR : Nat → List D → Value → Option Addr → Hp → List Addr → Prop) (F : Funs) : CLs → List Cl → Prop
  | nil : ClsM K fa XR F .nil []
  | cons {tg iter : Expr} {ifs : List Expr} {ct : CT} {src : Src} {ces : CEs} {cond : CE} {vs : List Nat} {r : CLs} {cls : List Cl} (hv : ∀ i ∈ ct.slots, i ∈ vs) (h : ClsM K fa XR F r cls) :
      ClsM K fa XR F (.cons ct src ces cond vs r) (⟨tg, iter, ifs, srcI K fa XR F W0 src ces, gI K fa ct, tT K fa XR F W0 cond, vs⟩ :: cls)
theorem tin_of {H0 : Hp} {m0 : List Addr} {D0 : Addr} {elt : CE} {rc : CLs} {cls : List Cl} (h : ClsM X.K fa XR F rc cls) : ∀ (σ : L2.St) (H : Hp) (m : List Addr) (ρ : Env) (a : Ac) (s : S) (r' : Ac × S) (Nx : Hp → Prop), Own X.K fa H0 m0 D0 H m s a.l → a.n = a.l.length → EnvR X.K fa H m σ ρ → evT F (ev F elt) rc ρ a s = some r' →
    (∀ H' m', LeW H m H' m' → Own X.K fa H0 m0 D0 H' m' r'.2 r'.1.l → r'.1.n = r'.1.l.length → Nx H') → tIn D0 (tI X.K fa XR F W0 elt) cls σ H Nx := by
  induction h with
  | nil =>
    intro σ H m ρ a s r' Nx O ha E h nx
    have h : (match ev F elt ρ s with
      | .ok x s1 => if Nat.ble a.n 16777215 then some ((⟨a.n + 1, x :: a.l⟩ : Ac), s1) else none
      | _ => none) = some r' := h
    cases ee : ev F elt ρ s with
    | ex x fs s1 => rw [ee] at h; cases h
    | no => rw [ee] at h; cases h
    | ok z s5 =>
      rw [ee] at h
      refine ⟨m, ρ, s, O.rel, E, ?_⟩
      rw [ee]
      intro yv H5 m5 L5 R5 ry
      dsimp only at h
      by_cases hz : Nat.ble a.n 16777215 = true
      · rw [if_pos hz] at h
        cases h
        have O5 := O.step L5 R5
        obtain ⟨us, hu, _⟩ := O5.at'
        have hz := Nat.le_of_ble_eq_true hz
        exact ⟨us, hu, by rw [O5.len hu, sizeLine_eq]; omega, nx _ m5 (L5.w.trans (leW_mutC hu trivial)) (O5.push hu ry) (by show a.n + 1 = (z :: a.l).length; rw [List.length_cons, ha])⟩
      · rw [if_neg hz] at h; cases h
  | @cons tg iter ifs ct src ces cond vs r cls hv hm ih =>
    intro σ H m ρ a s r' Nx O ha E h nx
    have h : (match evs F ces ρ s with
      | .ok ds s1 => loopN (itemAt src ds) ct (ev F cond) (evT F (ev F elt) r) (clears vs ρ) 100000 0 a s1
      | _ => none) = some r' := h
    cases es : evs F ces ρ s with
    | ex x fs s1 => rw [es] at h; cases h
    | no => rw [es] at h; cases h
    | ok ds s1 =>
      rw [es] at h
      dsimp only at h
      refine ⟨m, ρ, s, O.rel, E, ?_⟩
      rw [es]
      intro xs H1 m1 L1 R1 r1
      refine ⟨m1, ds, s1, L1, R1, r1, fun z => ?_, fun J hJ => ?_⟩
      · unfold loopN at h
        rw [z] at h
        cases h
      refine ⟨fun i k H2 => ∃ m2 s2 a2, LeW H1 m1 H2 m2 ∧ Own X.K fa H0 m0 D0 H2 m2 s2 a2.l ∧ a2.n = a2.l.length ∧ loopN (itemAt src ds) ct (ev F cond) (evT F (ev F elt) r) (clears vs ρ) k i a2 s2 = some r', ⟨100000, m1, s1, a, LeW.refl, O.step L1 R1, ha, h⟩, fun i k H2 ⟨m2, s2, a2, L2', O2, ha2, h2⟩ => ?_⟩
      have wj := hJ i H2 m2 s2 L2' O2.rel
      cases k with
      | zero => cases h2
      | succ k =>
        unfold loopN at h2
        cases e : itemAt src ds i s2 with
        | none => rw [e] at h2; cases h2
        | some o =>
          rw [e] at wj h2
          cases o with
          | none =>
            cases h2
            exact .inl ⟨wj, nx H2 m2 (L1.w.trans L2') O2 ha2⟩
          | some d =>
            obtain ⟨go, yl⟩ := wj
            refine .inr ⟨go, fun H' => ∃ m' s3 a3, LeW H1 m1 H' m' ∧ Own X.K fa H0 m0 D0 H' m' s3 a3.l ∧ a3.n = a3.l.length ∧ loopN (itemAt src ds) ct (ev F cond) (evT F (ev F elt) r) (clears vs ρ) k (i + 1) a3 s3 = some r', fun H' q => ⟨k, Nat.lt_succ_self k, q⟩, fun x H3 y => ?_⟩
            obtain ⟨m3, L3, R3, rx⟩ := yl x H3 y
            dsimp only at h2
            cases ep : put ct d (clears vs ρ) with
            | none => rw [ep] at h2; cases h2
            | some ρ' =>
              rw [ep] at h2
              dsimp only at h2
              have E3 : EnvR X.K fa H3 m3 σ ρ := ((E.le L1).leW L2').le L3
              refine ⟨m3, clears vs ρ, d, ρ', env_clears E3 vs, rx, ep, fun σ2 E2 o2 => ⟨?_, m3, ρ', s2, R3, E2, ?_⟩⟩
              · have w2 : wipe σ2 vs = wipe (wipe σ vs) vs := wipe_same (fun j hj => o2.2 j fun z => hj (hv j z)) o2.1
                show wipe σ2 vs = wipe σ vs
                rw [w2]
                refine wipe_same (fun j hj => ?_) (wipe_length σ vs)
                exact wipe_out hj
              · cases et : tst (ev F cond ρ' s2) with
                | ex x fs s' => rw [et] at h2; cases h2
                | no => rw [et] at h2; cases h2
                | ok b s4 =>
                  rw [et] at h2
                  intro b' H4 m4 L4 R4 eb
                  cases eb
                  cases b with
                  | false => exact iteF ⟨m4, s4, a2, (L2'.trans L3.w).trans L4.w, O2.step (L3.trans L4) R4, ha2, h2⟩
                  | true =>
                    refine iteT ?_
                    dsimp only at h2
                    cases eT : evT F (ev F elt) r ρ' a2 s4 with
                    | none => rw [eT] at h2; cases h2
                    | some q5 =>
                      rw [eT] at h2
                      exact ih σ2 H4 m4 ρ' a2 s4 q5 _ (O2.step (L3.trans L4) R4) ha2 (E2.le L4) eT fun H' m' l' O' hn => ⟨m', q5.2, q5.1, ((L2'.trans L3.w).trans L4.w).trans l', O', hn, h2⟩
theorem ti_compN {elt cond : CE} {tg : CT} {src : Src} {ces : CEs} {vs : List Nat} {rc : CLs} {cls : List Cl} {σ : L2.St} {H : Hp} {Q : VK} (hv : ∀ i ∈ tg.slots, i ∈ vs) (hm : ClsM X.K fa XR F rc cls) (h : tI X.K fa XR F W (.compN elt tg src ces cond rc vs) σ H Q) :
    tLcG (srcI X.K fa XR F W src ces) (gI X.K fa tg) (tT X.K fa XR F W0 cond) cls (tI X.K fa XR F W0 elt) vs σ H Q := by
  obtain ⟨m, ρ, s, R, E, h⟩ := h
  refine ⟨m, ρ, s, R, E, (Post.bind (Re := RpL X.K fa) (f := fun ds s => match loopN (itemAt src ds) tg (ev F cond) (evT F (ev F elt) rc) (clears vs ρ) 100000 0 ⟨0, []⟩ s with
    | some (a, s') => Mi.R.ok (Mi.D.ref s'.l.length) ⟨s'.l ++ [.lst a.l.reverse], s'.e⟩
    | none => Mi.R.no) h).imp fun xs H1 ⟨m1, ds, s1, l1, R1, r1, _, h1⟩ => ⟨m1, ds, s1, l1, R1, r1, ?_, fun J hJ D0 hD => ?_⟩⟩
  · intro z
    unfold loopN at h1
    rw [z] at h1
    exact h1
  cases hl : loopN (itemAt src ds) tg (ev F cond) (evT F (ev F elt) rc) (clears vs ρ) 100000 0 ⟨0, []⟩ s1 with
  | none => rw [hl] at h1; exact h1.elim
  | some r' =>
    rw [hl] at h1
    refine ⟨fun i k H2 => ∃ m2 s2 a2, Own X.K fa H1 m1 D0 H2 m2 s2 a2.l ∧ a2.n = a2.l.length ∧ loopN (itemAt src ds) tg (ev F cond) (evT F (ev F elt) rc) (clears vs ρ) k i a2 s2 = some r',
      ⟨100000, m1, s1, ⟨0, []⟩, own_0 R1 hD, rfl, hl⟩, fun i k H2 ⟨m2, s2, a2, O2, ha2, h2⟩ => ?_⟩
    have wj := hJ i H2 m2 s2 O2.le.w O2.rel
    cases k with
    | zero => cases h2
    | succ k =>
      unfold loopN at h2
      cases e : itemAt src ds i s2 with
      | none => rw [e] at h2; cases h2
      | some o =>
        rw [e] at wj h2
        cases o with
        | none =>
          cases h2
          obtain ⟨l9, R9, at9⟩ := O2.last
          exact .inl ⟨wj, h1 (.ref D0) H2 _ l9 R9 ⟨D0, rfl, at9⟩⟩
        | some d =>
          obtain ⟨go, yl⟩ := wj
          refine .inr ⟨go, fun H' => ∃ m' s3 a3, Own X.K fa H1 m1 D0 H' m' s3 a3.l ∧ a3.n = a3.l.length ∧ loopN (itemAt src ds) tg (ev F cond) (evT F (ev F elt) rc) (clears vs ρ) k (i + 1) a3 s3 = some r', fun H' q => ⟨k, Nat.lt_succ_self k, q⟩, fun x H3 y => ?_⟩
          obtain ⟨m3, L3, R3, rx⟩ := yl x H3 y
          dsimp only at h2
          cases ep : put tg d (clears vs ρ) with
          | none => rw [ep] at h2; cases h2
          | some ρ' =>
            rw [ep] at h2
            dsimp only at h2
            have E3 : EnvR X.K fa H3 m3 σ ρ := ((E.le l1).le O2.le).le L3
            refine ⟨m3, clears vs ρ, d, ρ', env_clears E3 vs, rx, ep, fun σ2 E2 o2 => ⟨?_, m3, ρ', s2, R3, E2, ?_⟩⟩
            · have w2 : wipe σ2 vs = wipe (wipe σ vs) vs := wipe_same (fun j hj => o2.2 j fun z => hj (hv j z)) o2.1
              rw [w2]
              refine wipe_same (fun j hj => ?_) (wipe_length σ vs)
              exact wipe_out hj
            · cases et : tst (ev F cond ρ' s2) with
              | ex x fs s' => rw [et] at h2; cases h2
              | no => rw [et] at h2; cases h2
              | ok b s4 =>
                rw [et] at h2
                intro b' H4 m4 L4 R4 eb
                cases eb
                cases b with
                | false => exact iteF ⟨m4, s4, a2, O2.step (L3.trans L4) R4, ha2, h2⟩
                | true =>
                  refine iteT ?_
                  dsimp only at h2
                  cases eT : evT F (ev F elt) rc ρ' a2 s4 with
                  | none => rw [eT] at h2; cases h2
                  | some q5 =>
                    rw [eT] at h2
                    exact tin_of hm σ2 H4 m4 ρ' a2 s4 q5 _ (O2.step (L3.trans L4) R4) ha2 (E2.le L4) eT fun H' m' l' O' hn => ⟨m', q5.2, q5.1, O', hn, h2⟩
end
end Mi

set_option linter.all false
set_option maxRecDepth 100000
set_option maxHeartbeats 2000000
namespace Mi
open PySem PySem.Spec PyProof.Rows L2

section
variable (K : PySem.W.Frag) (fa : Nat → Option Addr) (XR : Nat → List D → Value → Option Addr → Hp → List Addr → Prop) (F : Funs) (W : WX)
/-- what is wanted of an outcome of statements -/
def PostS (D : Ends) (H : Hp) (m : List Addr) (r : RS) : Prop := match r with
  | .ok (.nx ρ) s => ∀ σ' H' m', Le H m H' m' → RelS K fa H' m' s → EnvR K fa H' m' σ' ρ → D.nx σ' H'
  | .ok (.rt d) s => ∀ v H' m', Le H m H' m' → RelS K fa H' m' s → Rp K fa H' m' d v → D.rt v H'
  | .ok (.bk ρ) s => ∀ σ' H' m', Le H m H' m' → RelS K fa H' m' s → EnvR K fa H' m' σ' ρ → D.bk σ' H'
  | .ok (.ct ρ) s => ∀ σ' H' m', Le H m H' m' → RelS K fa H' m' s → EnvR K fa H' m' σ' ρ → D.ct σ' H'
  | .ex x fs ρ s => ∀ cls d σ' H' m', Le H m H' m' → RelS K fa H' m' s → EnvR K fa H' m' σ' ρ → XR x fs cls d H' m' → W cls d σ' H'
  | .no => False
def tS (st : CS) : TS := fun D σ H => ∃ m ρ s, RelS K fa H m s ∧ EnvR K fa H m σ ρ ∧ PostS K fa XR W D H m (ex F st ρ s)
def tSs (sts : CSs) : TS := fun D σ H => ∃ m ρ s, RelS K fa H m s ∧ EnvR K fa H m σ ρ ∧ PostS K fa XR W D H m (exs F sts ρ s)
end
section
variable {X : Cx} {fa : Nat → Option Addr} {XR : Nat → List D → Value → Option Addr → Hp → List Addr → Prop} {F : Funs} {W : WX} {D : Ends} {H H' : Hp} {m m' : List Addr} {σ : L2.St} {ρ : Env} {pos : Pos}
theorem PostS.le {r : RS} (l : Le H m H' m') (h : PostS X.K fa XR W D H m r) : PostS X.K fa XR W D H' m' r := by
  cases r with
  | ok f s =>
    cases f with
    | nx ρ => exact fun σ' H2 m2 l2 => h σ' H2 m2 (l.trans l2)
    | rt d => exact fun v H2 m2 l2 => h v H2 m2 (l.trans l2)
    | bk ρ => exact fun σ' H2 m2 l2 => h σ' H2 m2 (l.trans l2)
    | ct ρ => exact fun σ' H2 m2 l2 => h σ' H2 m2 (l.trans l2)
  | ex x fs ρ s => exact fun cls d σ' H2 m2 l2 => h cls d σ' H2 m2 (l.trans l2)
  | no => exact h
theorem PostS.of {α β : Type} {Re : Hp → List Addr → α → β → Prop} {r : R α} {f : α → S → RS} (E : EnvR X.K fa H m σ ρ) (h : PostS X.K fa XR W D H m (RS.of r ρ f)) :
    Post X.K fa XR Re W σ H m r (fun b H1 => ∃ m1 a s1, Le H m H1 m1 ∧ RelS X.K fa H1 m1 s1 ∧ Re H1 m1 a b ∧ r = .ok a s1 ∧ PostS X.K fa XR W D H1 m1 (f a s1)) := by
  cases r with
  | ok a s => exact fun b H1 m1 l R re => ⟨m1, a, s, l, R, re, rfl, PostS.le (r := f a s) l h⟩
  | ex x fs s => exact fun cls d H1 m1 l R z => h cls d σ H1 m1 l R (E.le l) z
  | no => exact h
theorem tT_of {ce : CE} {s : S} {f : Bool → S → RS} (R : RelS X.K fa H m s) (E : EnvR X.K fa H m σ ρ) (h : PostS X.K fa XR W D H m (RS.of (tst (ev F ce ρ s)) ρ f)) :
    tT X.K fa XR F W ce σ H (fun k H1 => ∃ m1 s1, Le H m H1 m1 ∧ RelS X.K fa H1 m1 s1 ∧ EnvR X.K fa H1 m1 σ ρ ∧ PostS X.K fa XR W D H1 m1 (f k s1)) :=
  ⟨m, ρ, s, R, E, (PostS.of (Re := Eqb) E h).imp fun k H1 ⟨m1, a, s1, l1, R1, r1, _, h1⟩ => by cases r1; exact ⟨m1, s1, l1, R1, E.le l1, h1⟩⟩
theorem tI_of {ce : CE} {s : S} {f : Mi.D → S → RS} (R : RelS X.K fa H m s) (E : EnvR X.K fa H m σ ρ) (h : PostS X.K fa XR W D H m (RS.of (ev F ce ρ s) ρ f)) :
    tI X.K fa XR F W ce σ H (fun v H1 => ∃ m1 d s1, Le H m H1 m1 ∧ RelS X.K fa H1 m1 s1 ∧ EnvR X.K fa H1 m1 σ ρ ∧ Rp X.K fa H1 m1 d v ∧ PostS X.K fa XR W D H1 m1 (f d s1)) :=
  ⟨m, ρ, s, R, E, (PostS.of (Re := Rp X.K fa) E h).imp fun v H1 ⟨m1, d, s1, l1, R1, r1, _, h1⟩ => ⟨m1, d, s1, l1, R1, E.le l1, r1, h1⟩⟩

/-! ### statements, one by one -/
theorem ss_nil : PSs X [] (tSs X.K fa XR F W .nil) := PSs.imp pss_nil fun D σ H ⟨m, ρ, s, R, E, h⟩ => h σ H m Le.refl R E
theorem ss_cons {st : Stmt} {sts : List Stmt} {cst : CS} {csts : CSs} (h1 : PS X st (tS X.K fa XR F W cst)) (h2 : PSs X sts (tSs X.K fa XR F W csts)) : PSs X (st :: sts) (tSs X.K fa XR F W (.cons cst csts)) :=
  PSs.imp (pss_cons h1 h2) fun D σ H ⟨m, ρ, s, R, E, h⟩ => by
    refine ⟨m, ρ, s, R, E, ?_⟩
    have h : PostS X.K fa XR W D H m (match ex F cst ρ s with
      | .ok (.nx ρ2) s2 => exs F csts ρ2 s2
      | r => r) := h
    cases e : ex F cst ρ s with
    | ok f s2 =>
      rw [e] at h
      cases f with
      | nx ρ2 => exact fun σ' H' m' l R' E' => ⟨m', ρ2, s2, R', E', h.le l⟩
      | rt d => exact h
      | bk ρ2 => exact h
      | ct ρ2 => exact h
    | ex x fs ρ2 s2 => rw [e] at h; exact h
    | no => rw [e] at h; exact h
theorem s_set {t e : Expr} {ct : CT} {ce : CE} (he : PE X e (tI X.K fa XR F W ce)) (hg : PG X t (gI X.K fa ct)) (hs : swapsWithSole [t] e pos.line X.env = pure false) (hw : swappedStores [t] e X.env = pure none) (hp : plainT t = true) :
    PS X (.Assign [t] e pos) (tS X.K fa XR F W (.set ct ce)) :=
  PS.imp (ps_asg he hg hs hw (by rw [each_cons hp]; rfl)) fun D σ H ⟨m, ρ, s, R, E, h⟩ => by
    obtain ⟨m0, ρ0, s0, R0, E0, h⟩ := tI_of (ce := ce) (f := fun d s => match Mi.put ct d ρ with
      | some ρ' => RS.ok (.nx ρ') s
      | none => .no) R E h
    refine ⟨m0, ρ0, s0, R0, E0, h.imp fun v H1 ⟨m1, d, s1, l1, R1, E1, r1, h1⟩ => ?_⟩
    cases ep : Mi.put ct d ρ with
    | none => simp only [ep] at h1; exact h1.elim
    | some ρ' =>
      simp only [ep] at h1
      exact ⟨m1, ρ, d, ρ', E1, r1, ep, fun σ' E' _ => h1 σ' H1 m1 Le.refl R1 E'⟩
theorem pg_or {e : Expr} {t1 t2 : TG} (h1 : PG X e t1) (h2 : PG X e t2) : PG X e (fun v σ H Q => t1 v σ H Q ∨ t2 v σ H Q) :=
  ⟨fun pins s σ H v u Q I r q => q.elim (fun q => h1.run pins s σ H v u Q I r q) (fun q => h2.run pins s σ H v u Q I r q)⟩
/-- a, b, .. = e: a tuple or a list -/
theorem s_setU {ts : List Expr} {kt : Nat} {pt : Pos} {e : Expr} {cts : CTs} {ce : CE} (hc : X.calm = true) (he : PE X e (tI X.K fa XR F W ce)) (hg : PGs X ts (gsI X.K fa cts)) (hp : ts.all plainT = true) (hl : ts.length = cts.len)
    (hs : swapsWithSole [.Tuple ts kt pt] e pos.line X.env = pure false) (hw : swappedStores [.Tuple ts kt pt] e X.env = pure none) : PS X (.Assign [.Tuple ts kt pt] e pos) (tS X.K fa XR F W (.setU cts ce)) :=
  PS.imp (ps_asg he (pg_or (pg_tup (n := ts.length) hc hg (each_len hp).1 (each_len hp).2) (pg_lst (n := ts.length) hc hg (each_len hp).1 (each_len hp).2)) hs hw (by rw [each_cons rfl]; rfl)) fun D σ H ⟨m, ρ, s, R, E, h⟩ => by
    obtain ⟨m0, ρ0, s0, R0, E0, h⟩ := tI_of (ce := ce) (f := fun d s => match itemsOf s d with
      | some xs => match puts cts xs ρ with
        | some ρ' => RS.ok (.nx ρ') s
        | none => .no
      | none => .no) R E h
    refine ⟨m0, ρ0, s0, R0, E0, h.imp fun v H1 ⟨m1, d, s1, l1, R1, E1, r1, h1⟩ => ?_⟩
    cases ei : itemsOf s1 d with
    | none => simp only [ei] at h1; exact h1.elim
    | some xs =>
      simp only [ei] at h1
      cases ep : puts cts xs ρ with
      | none => simp only [ep] at h1; exact h1.elim
      | some ρ' =>
        simp only [ep] at h1
        obtain ⟨a, vs, rfl, hq, hr⟩ := items_k R1 r1 ei
        have hn : vs.length = ts.length := by rw [hl, ← puts_length ep, hr.length]
        have z : gsI X.K fa cts vs σ H1 _ := ⟨m1, ρ, xs, ρ', E1, hr, ep, fun σ' E' _ => h1 σ' H1 m1 Le.refl R1 E'⟩
        cases it : isTup d with
        | true =>
          rw [it] at hq
          exact .inl ⟨a, vs, rfl, hq, hn, z⟩
        | false =>
          rw [it] at hq
          exact .inr ⟨a, vs, rfl, (show SqL X.K H1 a vs by simpa using hq), hn, z⟩
theorem s_setLc {i : Nat} {y : Str} {py : Pos} {elt tg iter : Expr} {ifs : List Expr} {scope : Scope} {p2 : Pos} {te : TE} {ce : CE} (hp : PS X (.Assign [.Name y py] (.ListComp elt [⟨tg, iter, ifs, 0⟩] scope p2) pos) (tAsg te (gName i)))
    (hi : ∀ σ H Q, tI X.K fa XR F W ce σ H Q → te σ H Q) : PS X (.Assign [.Name y py] (.ListComp elt [⟨tg, iter, ifs, 0⟩] scope p2) pos) (tS X.K fa XR F W (.set (.name i) ce)) :=
  PS.imp hp fun D σ H ⟨m, ρ, s, R, E, h⟩ => by
    refine hi _ _ _ ?_
    obtain ⟨m0, ρ0, s0, R0, E0, h⟩ := tI_of (ce := ce) (f := fun d s => match Mi.put (.name i) d ρ with
      | some ρ' => RS.ok (.nx ρ') s
      | none => .no) R E h
    refine ⟨m0, ρ0, s0, R0, E0, h.imp fun v H1 ⟨m1, d, s1, l1, R1, E1, r1, h1⟩ => ?_⟩
    exact h1 _ H1 m1 Le.refl R1 (E1.set i r1)
theorem s_setLcG {i : Nat} {y : Str} {py : Pos} {elt : Expr} {gs : List Comprehension} {scope : Scope} {p2 : Pos} {te : TE} {ce : CE} (hp : PS X (.Assign [.Name y py] (.ListComp elt gs scope p2) pos) (tAsg te (gName i)))
    (hi : ∀ σ H Q, tI X.K fa XR F W ce σ H Q → te σ H Q) : PS X (.Assign [.Name y py] (.ListComp elt gs scope p2) pos) (tS X.K fa XR F W (.set (.name i) ce)) :=
  PS.imp hp fun D σ H ⟨m, ρ, s, R, E, h⟩ => by
    refine hi _ _ _ ?_
    obtain ⟨m0, ρ0, s0, R0, E0, h⟩ := tI_of (ce := ce) (f := fun d s => match Mi.put (.name i) d ρ with
      | some ρ' => RS.ok (.nx ρ') s
      | none => .no) R E h
    refine ⟨m0, ρ0, s0, R0, E0, h.imp fun v H1 ⟨m1, d, s1, l1, R1, E1, r1, h1⟩ => ?_⟩
    exact h1 _ H1 m1 Le.refl R1 (E1.set i r1)
theorem ip_add : PIp X .Add (ipI fun i j => i + j) := L2.ip_add
theorem ip_sub : PIp X .Sub (ipI fun i j => i - j) := L2.ip_sub
theorem s_aug {i : Nat} {x : Str} {e : Expr} {ce : CE} {op : Operator} {p : Pos} {neg : Bool} (hN : X.N.Nodup) (hi : X.N[i]? = some x) (hx : Loc X.env.scope x) (hf : X.fn x = true ∨ X.env.scope.names.lookup x = some .local) (he : PE X e (tI X.K fa XR F W ce))
    (ho : PIp X op (ipI fun a b => if neg then a - b else a + b)) : PS X (.AugAssign (.Name x p) op e pos) (tS X.K fa XR F W (.aug i neg ce)) :=
  PS.imp (ps_aug hN hi hx he ho hf) fun D σ H ⟨m, ρ, s, R, E, h⟩ => by
    have h : PostS X.K fa XR W D H m (match ρ[i]? with
      | some (some x) => RS.of (ev F ce ρ s) ρ fun d s => match x, d with
        | .int a, .int b => .ok (.nx (ρ.set i (some (.int (if neg then a - b else a + b))))) s
        | _, _ => .no
      | _ => .no) := h
    cases ei : ρ[i]? with
    | none => rw [ei] at h; exact h.elim
    | some o =>
      cases o with
      | none => rw [ei] at h; exact h.elim
      | some d0 =>
        rw [ei] at h
        obtain ⟨v, hv, rv⟩ := E.2 i d0 ei
        refine ⟨v, hv, ?_⟩
        obtain ⟨m0, ρ0, s0, R0, E0, h⟩ := tI_of (ce := ce) R E h
        refine ⟨m0, ρ0, s0, R0, E0, h.imp fun y H1 ⟨m1, d, s1, l1, R1, E1, r1, h1⟩ => ?_⟩
        cases d0 with
        | int a =>
          cases rv
          cases d with
          | int b =>
            cases r1
            exact ⟨a, b, rfl, rfl, h1 _ H1 m1 Le.refl R1 (E1.set i rfl)⟩
          | _ => exact h1.elim
        | _ => exact h1.elim
theorem s_put {o i e : Expr} {co ci ce : CE} {p : Pos} (ho : PE X o (tI X.K fa XR F W co)) (hi : PE X i (tI X.K fa XR F W ci)) (he : PE X e (tI X.K fa XR F W ce)) (hs : swapsWithSole [.Subscript o i p] e pos.line X.env = pure false) (hw : swappedStores [.Subscript o i p] e X.env = pure none)
    (ha : ∀ v, assign (.Subscript o i p) X.env v = (do
      let ov ← PySem.holding [v] (eval o X.env)
      let iv ← PySem.holding [v, ov] (eval i X.env)
      standAt p
      PySem.holding [v, ov, iv] (setItem ov iv v)
      release [v, ov, iv] [])) : PS X (.Assign [.Subscript o i p] e pos) (tS X.K fa XR F W (.put co ci ce)) :=
  PS.imp (ps_asg he (pg_sub ho hi set_list ha) hs hw (by rfl)) fun D σ H ⟨m, ρ, s, R, E, h⟩ => by
    obtain ⟨m0, ρ0, s0, R0, E0, h⟩ := tI_of (ce := ce) R E h
    refine ⟨m0, ρ0, s0, R0, E0, h.imp fun v H1 ⟨m1, d, s1, l1, R1, E1, r1, h1⟩ => ?_⟩
    obtain ⟨m0, ρ0, s0, R0, E0, h⟩ := tI_of (ce := co) R1 E1 h1
    refine ⟨m0, ρ0, s0, R0, E0, h.imp fun x H2 ⟨m2, g, s2, l2, R2, E2, r2, h2⟩ => ?_⟩
    obtain ⟨m0, ρ0, s0, R0, E0, h⟩ := tI_of (ce := ci) R2 E2 h2
    refine ⟨m0, ρ0, s0, R0, E0, h.imp fun y H3 ⟨m3, j, s3, l3, R3, E3, r3, h3⟩ => ?_⟩
    have r1 := (r1.le l2).le l3
    have r2 := r2.le l3
    cases g with
    | ref n =>
      cases j with
      | int k =>
        cases r3
        have h3 : PostS X.K fa XR W D H3 m3 (match setAt n k d s3 with
          | some s => .ok (.nx ρ) s
          | none => .no) := h3
        unfold setAt at h3
        cases ec : s3.l[n]? with
        | none => rw [ec] at h3; exact h3.elim
        | some cl =>
          cases cl with
          | lst zs =>
            obtain ⟨a, vs, rfl, hm, hu, ru⟩ := cell_of R3 r2 ec
            rw [ec] at h3
            dsimp only at h3
            cases ej : ixN zs.length k with
            | none => rw [ej] at h3; exact h3.elim
            | some jj =>
              rw [ej] at h3
              dsimp only at h3
              refine ⟨a, vs, k, jj, rfl, rfl, hu, by rw [← ru.length]; exact ej, ?_⟩
              refine h3 σ _ m3 (le_mut hm hu) (R3.store hm hu (ru.set jj r1) ec fun n h1 h2 => refsL_set h2 h1) (E3.le (le_mut hm hu))
          | dct kvs => rw [ec] at h3; exact h3.elim
      | _ => exact h3.elim
    | _ => cases j <;> exact h3.elim
theorem s_push {o e : Expr} {co ce : CE} {p p2 : Pos} (ho : PE X o (tI X.K fa XR F W co)) (he : PE X e (tI X.K fa XR F W ce)) (hp : plainE e = true) (hb : PE X (.Call (.Attribute o "append" p) [e] [] p2) (tBM X.K "list" rAppend (tI X.K fa XR F W co) (tCons (tI X.K fa XR F W ce) tNil)))
    (hs : swapsWith (.Call (.Attribute o "append" p) [e] [] p2) none pos.line X.env = pure false) : PS X (.Expr (.Call (.Attribute o "append" p) [e] [] p2) pos) (tS X.K fa XR F W (.push co ce)) :=
  PS.imp (ps_expr hb hs) fun D σ H ⟨m, ρ, s, R, E, h⟩ => by
    obtain ⟨m0, ρ0, s0, R0, E0, h⟩ := tI_of (ce := co) R E h
    refine ⟨m0, ρ0, s0, R0, E0, h.imp fun v H1 ⟨m1, g, s1, l1, R1, E1, r1, h1⟩ => ?_⟩
    cases g with
    | ref n =>
      dsimp only at h1
      cases ec : s1.l[n]? with
      | none => rw [ec] at h1; exact h1.elim
      | some cl =>
        rw [ec] at h1
        cases cl with
        | lst zs =>
          obtain ⟨a, vs, rfl, hm, hu, ru⟩ := cell_of R1 r1 ec
          refine ⟨.inl ⟨rfl, vs, .inl (.inl hu)⟩, ?_⟩
          obtain ⟨m0, ρ0, s0, R0, E0, h⟩ := tI_of (ce := ce) R1 E1 h1
          refine ⟨m0, ρ0, s0, R0, E0, h.imp fun y H2 ⟨m2, d, s2, l2, R2, E2, r2, h2⟩ => ?_⟩
          have h2 : PostS X.K fa XR W D H2 m2 (match pushTo n d s2 with
            | some s => .ok (.nx ρ) s
            | none => .no) := h2
          unfold pushTo at h2
          cases ec2 : s2.l[n]? with
          | none => rw [ec2] at h2; exact h2.elim
          | some cl2 =>
            cases cl2 with
            | lst zs2 =>
              rw [ec2] at h2
              dsimp only at h2
              by_cases hz : zs2.length < 16777216
              · rw [if_pos hz] at h2
                obtain ⟨a2, vs2, e2, hm2, hu2, ru2⟩ := cell_of R2 (r1.le l2) ec2
                cases ref_inj e2
                refine ⟨a, vs2, y, rfl, rfl, hu2, by rw [← ru2.length, sizeLine_eq]; exact hz, ?_⟩
                refine h2 σ _ m2 (le_mut hm2 hu2) (R2.store hm2 hu2 (ru2.append (RpL.one r2)) ec2 fun n h1 h2 => ?_) (E2.le (le_mut hm2 hu2))
                rw [refsL_append, h1]
                show (true && (refsLt n d && true)) = true
                rw [h2]; rfl
              · rw [if_neg hz] at h2; exact h2.elim
            | dct kvs => rw [ec2] at h2; exact h2.elim
        | dct kvs => exact h1.elim
    | _ => exact h1.elim
theorem s_drop {e : Expr} {ce : CE} (he : PE X e (tI X.K fa XR F W ce)) (hs : swapsWith e none pos.line X.env = pure false) : PS X (.Expr e pos) (tS X.K fa XR F W (.drop ce)) :=
  PS.imp (ps_expr he hs) fun D σ H ⟨m, ρ, s, R, E, h⟩ => by
    obtain ⟨m0, ρ0, s0, R0, E0, h⟩ := tI_of (ce := ce) (f := fun _ s => RS.ok (.nx ρ) s) R E h
    exact ⟨m0, ρ0, s0, R0, E0, h.imp fun v H1 ⟨m1, d, s1, l1, R1, E1, r1, h1⟩ => h1 σ H1 m1 Le.refl R1 E1⟩
theorem s_ret {e : Expr} {ce : CE} (he : PE X e (tI X.K fa XR F W ce)) : PS X (.Return (some e) pos) (tS X.K fa XR F W (.ret ce)) :=
  PS.imp (ps_ret he) fun D σ H ⟨m, ρ, s, R, E, h⟩ => by
    obtain ⟨m0, ρ0, s0, R0, E0, h⟩ := tI_of (ce := ce) (f := fun d s => RS.ok (.rt d) s) R E h
    exact ⟨m0, ρ0, s0, R0, E0, h.imp fun v H1 ⟨m1, d, s1, l1, R1, E1, r1, h1⟩ => h1 v H1 m1 Le.refl R1 r1⟩
theorem s_retN : PS X (.Return none pos) (tS X.K fa XR F W .retN) := PS.imp ps_retN fun D σ H ⟨m, ρ, s, R, E, h⟩ => h .non H m Le.refl R rfl
theorem s_cond {c : Expr} {a b : List Stmt} {cc : CE} {ca cb : CSs} (hc : PT X c (tT X.K fa XR F W cc)) (ha : PSs X a (tSs X.K fa XR F W ca)) (hb : PSs X b (tSs X.K fa XR F W cb)) : PS X (.If c a b pos) (tS X.K fa XR F W (.cond cc ca cb)) :=
  PS.imp (ps_if hc ha hb) fun D σ H ⟨m, ρ, s, R, E, h⟩ => by
    obtain ⟨m0, ρ0, s0, R0, E0, h⟩ := tT_of (ce := cc) R E h
    refine ⟨m0, ρ0, s0, R0, E0, h.imp fun k H1 ⟨m1, s1, l1, R1, E1, h1⟩ => ?_⟩
    cases k with
    | true => exact iteT ⟨m1, ρ, s1, R1, E1, h1⟩
    | false => exact iteF ⟨m1, ρ, s1, R1, E1, h1⟩
theorem s_pass : PS X (.Pass pos) (tS X.K fa XR F W .skip) := PS.imp ps_pass fun D σ H ⟨m, ρ, s, R, E, h⟩ => h σ H m Le.refl R E
theorem s_brk : PS X (.Break pos) (tS X.K fa XR F W .brk) := PS.imp ps_break fun D σ H ⟨m, ρ, s, R, E, h⟩ => h σ H m Le.refl R E
theorem s_cont : PS X (.Continue pos) (tS X.K fa XR F W .cont) := PS.imp ps_continue fun D σ H ⟨m, ρ, s, R, E, h⟩ => h σ H m Le.refl R E
theorem s_each {tg iter : Expr} {body : List Stmt} {ct : CT} {src : Src} {ces : CEs} {cb : CSs} (hp : PassesOwn (model X.prog X.w) X.A X.env X.xe) (hc : X.calm = true) (hi : PI X tg iter (srcI X.K fa XR F W src ces)) (hg : PG X tg (gI X.K fa ct)) (hb : PSs X body (tSs X.K fa XR F W cb))
    (hs : ∀ x, foldedSetIterable iter X.env x = pure x) : PS X (.For tg iter body [] pos) (tS X.K fa XR F W (.each ct src ces cb)) :=
  PS.imp (ps_for hp hc hi hg hb hs) fun D σ H ⟨m, ρ, s, R, E, h⟩ => by
    have h : PostS X.K fa XR W D H m (RS.of (evs F ces ρ s) ρ fun ds s => eachLoop (itemAt src ds) ct (exs F cb) 100000 0 ρ s) := h
    refine ⟨m, ρ, s, R, E, (PostS.of (Re := RpL X.K fa) E h).imp fun xs H1 ⟨m1, ds, s1, l1, R1, r1, _, h1⟩ => ⟨m1, ds, s1, l1, R1, r1, ?_, fun J hJ => ?_⟩⟩
    · intro z
      have h1 : PostS X.K fa XR W D H1 m1 (match itemAt src ds 0 s1 with
        | none => .no
        | some none => .ok (.nx ρ) s1
        | some (some d) => _) := h1
      rw [z] at h1
      exact h1
    refine ⟨fun i k σ2 H2 => ∃ m2 ρ2 s2, Le H1 m1 H2 m2 ∧ RelS X.K fa H2 m2 s2 ∧ EnvR X.K fa H2 m2 σ2 ρ2 ∧ PostS X.K fa XR W D H2 m2 (eachLoop (itemAt src ds) ct (exs F cb) k i ρ2 s2),
      ⟨100000, m1, ρ, s1, Le.refl, R1, E.le l1, h1⟩, fun i k σ2 H2 ⟨m2, ρ2, s2, L2', R2, E2, h2⟩ => ?_⟩
    have wj := hJ i H2 m2 s2 L2'.w R2
    cases k with
    | zero => exact h2.elim
    | succ k =>
      have h2 : PostS X.K fa XR W D H2 m2 (match itemAt src ds i s2 with
        | none => .no
        | some none => .ok (.nx ρ2) s2
        | some (some d) => match Mi.put ct d ρ2 with
          | none => .no
          | some ρ' => match exs F cb ρ' s2 with
            | .ok (.nx ρ2) s2 => eachLoop (itemAt src ds) ct (exs F cb) k (i + 1) ρ2 s2
            | .ok (.ct ρ2) s2 => eachLoop (itemAt src ds) ct (exs F cb) k (i + 1) ρ2 s2
            | .ok (.bk ρ2) s2 => .ok (.nx ρ2) s2
            | r => r) := h2
      cases e : itemAt src ds i s2 with
      | none => rw [e] at h2; exact h2.elim
      | some o =>
        rw [e] at wj h2
        cases o with
        | none => exact .inl ⟨wj, h2 σ2 H2 m2 Le.refl R2 E2⟩
        | some d =>
          obtain ⟨go, yl⟩ := wj
          refine .inr ⟨go, fun σ' H' => ∃ m' ρ' s', Le H1 m1 H' m' ∧ RelS X.K fa H' m' s' ∧ EnvR X.K fa H' m' σ' ρ' ∧ PostS X.K fa XR W D H' m' (eachLoop (itemAt src ds) ct (exs F cb) k (i + 1) ρ' s'),
            fun σ' H' n => ⟨k, Nat.lt_succ_self k, n⟩, fun x H3 y => ?_⟩
          obtain ⟨m3, L3, R3, rx⟩ := yl x H3 y
          dsimp only at h2
          cases ep : Mi.put ct d ρ2 with
          | none => rw [ep] at h2; exact h2.elim
          | some ρ' =>
            rw [ep] at h2
            dsimp only at h2
            refine ⟨m3, ρ2, d, ρ', E2.le L3, rx, ep, fun σ3 E3 _ => ⟨m3, ρ', s2, R3, E3, ?_⟩⟩
            cases eb : exs F cb ρ' s2 with
            | ok f s4 =>
              rw [eb] at h2
              cases f with
              | nx ρ4 => exact fun σ5 H5 m5 L5 R5 E5 => ⟨m5, ρ4, s4, (L2'.trans L3).trans L5, R5, E5, h2.le (L3.trans L5)⟩
              | ct ρ4 => exact fun σ5 H5 m5 L5 R5 E5 => ⟨m5, ρ4, s4, (L2'.trans L3).trans L5, R5, E5, h2.le (L3.trans L5)⟩
              | bk ρ4 => exact fun σ5 H5 m5 L5 R5 E5 => h2 σ5 H5 m5 (L3.trans L5) R5 E5
              | rt d4 => exact fun v H5 m5 L5 R5 r5 => h2 v H5 m5 (L3.trans L5) R5 r5
            | ex x fs ρ4 s4 =>
              rw [eb] at h2
              exact fun cls d σ5 H5 m5 L5 R5 E5 z => h2 cls d σ5 H5 m5 (L3.trans L5) R5 E5 z
            | no => rw [eb] at h2; exact h2.elim
theorem s_loop {c : Expr} {body : List Stmt} {cc : CE} {cb : CSs} (hp : PassesOwn (model X.prog X.w) X.A X.env X.xe) (hc : PT X c (tT X.K fa XR F W cc)) (hb : PSs X body (tSs X.K fa XR F W cb)) : PS X (.While c body [] pos) (tS X.K fa XR F W (.loop cc cb)) :=
  PS.imp (ps_while hp hc hb) fun D σ H ⟨m, ρ, s, R, E, h⟩ => by
    refine ⟨fun k σ2 H2 => ∃ m2 ρ2 s2, RelS X.K fa H2 m2 s2 ∧ EnvR X.K fa H2 m2 σ2 ρ2 ∧ PostS X.K fa XR W D H2 m2 (whileLoop (ev F cc) (exs F cb) k ρ2 s2), ⟨100000, m, ρ, s, R, E, h⟩, fun k σ2 H2 ⟨m2, ρ2, s2, R2, E2, h2⟩ => ?_⟩
    cases k with
    | zero => exact h2.elim
    | succ k =>
      have h2 : PostS X.K fa XR W D H2 m2 (match tst (ev F cc ρ2 s2) with
        | .ok true s1 => match exs F cb ρ2 s1 with
          | .ok (.nx ρ2) s2 => whileLoop (ev F cc) (exs F cb) k ρ2 s2
          | .ok (.ct ρ2) s2 => whileLoop (ev F cc) (exs F cb) k ρ2 s2
          | .ok (.bk ρ2) s2 => .ok (.nx ρ2) s2
          | r => r
        | .ok false s1 => .ok (.nx ρ2) s1
        | .ex x fs s1 => .ex x fs ρ2 s1
        | _ => .no) := h2
      refine ⟨m2, ρ2, s2, R2, E2, ?_⟩
      cases et : tst (ev F cc ρ2 s2) with
      | no => rw [et] at h2; exact h2.elim
      | ex x fs s' => rw [et] at h2; exact fun cls d H5 m5 L5 R5 z => h2 cls d σ2 H5 m5 L5 R5 (E2.le L5) z
      | ok b s4 =>
        rw [et] at h2
        intro b' H4 m4 L4 R4 eb
        cases eb
        cases b with
        | false => exact iteF (h2 σ2 H4 m4 L4 R4 (E2.le L4))
        | true =>
          refine iteT ⟨fun σ' H' => ∃ m' ρ' s', RelS X.K fa H' m' s' ∧ EnvR X.K fa H' m' σ' ρ' ∧ PostS X.K fa XR W D H' m' (whileLoop (ev F cc) (exs F cb) k ρ' s'), fun σ' H' n => ⟨k, Nat.lt_succ_self k, n⟩, m4, ρ2, s4, R4, E2.le L4, ?_⟩
          dsimp only at h2
          cases eb : exs F cb ρ2 s4 with
          | ok f s5 =>
            rw [eb] at h2
            cases f with
            | nx ρ4 => exact fun σ5 H5 m5 L5 R5 E5 => ⟨m5, ρ4, s5, R5, E5, h2.le (L4.trans L5)⟩
            | ct ρ4 => exact fun σ5 H5 m5 L5 R5 E5 => ⟨m5, ρ4, s5, R5, E5, h2.le (L4.trans L5)⟩
            | bk ρ4 => exact fun σ5 H5 m5 L5 R5 E5 => h2 σ5 H5 m5 (L4.trans L5) R5 E5
            | rt d4 => exact fun v H5 m5 L5 R5 r5 => h2 v H5 m5 (L4.trans L5) R5 r5
          | ex x fs ρ4 s5 =>
            rw [eb] at h2
            exact fun cls d σ5 H5 m5 L5 R5 E5 z => h2 cls d σ5 H5 m5 (L4.trans L5) R5 E5 z
          | no => rw [eb] at h2; exact h2.elim
end
end Mi

set_option linter.all false
set_option maxRecDepth 100000
set_option maxHeartbeats 4000000
namespace Mi
open PySem PySem.Spec PyProof.Rows L2

section
variable {X : Cx} {o e : Expr} {es : List Expr} {to te : TE} {ta : TA} {f : Str} {p p' p1 p2 pos : Pos}
/-! ### an exception without fields -/
/-- the end of C(): the exception is let go; it has no dict of its own -/
theorem mk_endN {pins : List (Addr × Obj)} {σ : L2.St} {H1 H2 : Hp} {hp hp2 h2 : Heap} {g1 g2 : Array GenState} {d1 d2 : Drawn} {t1 t2 : Nat} {os1 os2 : OsState} {a C : Addr} (I1 : Inv X pins σ H1 ⟨hp, g1, d1, t1, os1⟩)
    (ha : hp.objs.size ≤ a) (k : ∀ b o, hp.get? b = some o → hp2.get? b = some o) (un : Un (frs X.stack) [] (upd H1 a (exo a C none)) H2 hp2 h2) (hok : HOk X.prog X.w H2 h2) (ho : os2 = os1) (hb : AllBare g2)
    (ea : H2 a = some (exo a C none)) :
    ∃ (t0 : Addr) (G : Heap), Inv X pins σ (del H2 a) ⟨G, g2, d2, t2, os2⟩ ∧ (∀ b o, G.get? b = some o → h2.get? b = some o) ∧ G.get? a = none ∧
      h2.get? a = some ({ cls := .ref C, dict := none, data := .fields #[.ref t0, .none, .none, .none, .bool false, .none] } : Obj) ∧ (del H2 a) a = none := by
  obtain ⟨t0, hoe⟩ := exo_at hok ea
  have hn : H1 a = none := I1.hok.fresh ha
  obtain ⟨G, g1', g2'⟩ := restrict h2 fun b => decide (b ≠ a)
  have gk : ∀ b, b ≠ a → G.get? b = h2.get? b := fun b hb => g1' b (decide_eq_true hb)
  have ge : G.get? a = none := g2' a (by simp)
  have nha : ∀ {b : Addr} {o : Obj}, hp.get? b = some o → b ≠ a := fun {b o} z => Nat.ne_of_lt (Nat.lt_of_lt_of_le (Heap.lt_size z) ha)
  have up : ∀ {b : Addr}, b ≠ a → H1 b = none → upd H1 a (exo a C none) b = none := fun {b} hb n => by rw [upd_ne hb]; exact n
  have U : Un (frs X.stack) [] H1 (del H2 a) hp G := {
    keep := fun b o z n hf hx => by
      rw [gk b (nha z)]
      exact un.keep b o (k b o z) (up (nha z) n) hf hx
    slot := fun b o z n hf hx => by
      rw [gk b (nha z)]
      exact un.slot b o (k b o z) (up (nha z) n) hf hx
    free := fun b o z n hx => by
      rw [del_ne (nha z)]
      exact un.free b o (k b o z) (up (nha z) n) hx
    there := fun b o z hx => by
      rw [gk b (nha z)]
      exact un.there b o (k b o z) hx
    tups := fun b xs z => by
      rw [del_ne (ne_of_none z hn)]
      exact un.tups b xs (by rw [upd_ne (ne_of_none z hn)]; exact z)
    frzs := fun b o v z => by
      rw [del_ne (ne_of_none z hn)]
      exact un.frzs b o v (by rw [upd_ne (ne_of_none z hn)]; exact z)
    tbls := fun b ps z => by
      rw [del_ne (ne_of_none z hn)]
      exact un.tbls b ps (by rw [upd_ne (ne_of_none z hn)]; exact z) }
  have hok3 : HOk X.prog X.w (del H2 a) G := fun b o z => by
    have hba : b ≠ a := fun e => by
      rw [e, del_same] at z
      cases z
    rw [del_ne hba] at z
    have noa : ∀ {c : Addr}, H2 c = some (.own b) → c ≠ a := fun {c} hc => at_ne ea hc exo_own
    exact (hok b o z).stay (fun c v hc y => by
        have hca : c ≠ a := by
          rcases hc with hc | hc
          · rw [hc]
            exact hba
          · exact noa hc
        rw [gk c hca]
        exact y)
      (fun c hc => by rw [del_ne (noa hc)]; exact hc) (fun c xs hc => by rw [del_ne (at_ne ea hc exo_tup)]; exact hc)
  have J : Inv X pins σ (del H2 a) ⟨G, g2, d2, t2, os2⟩ := I1.call' (ch := []) ho U hok3 hb (fun b z => absurd z (by simp))
  refine ⟨t0, G, J, fun b o z => ?_, ge, hoe, del_same⟩
  by_cases hba : b = a
  · rw [hba, ge] at z
    cases z
  · exact (gk b hba).symm.trans z
/-- the promise of such an __init__ -/
def spNew (C : Addr) : Sp := fun vs H Q _ => ∃ a, vs = [.ref a] ∧ H a = some (exo a C none) ∧ Q .non H
theorem del_upd {H : Hp} {a : Addr} {o : HO} (h : H a = none) : del (upd H a o) a = H := by
  funext b
  by_cases hb : b = a
  · subst hb; rw [del_same, h]
  · rw [del_ne hb, upd_ne hb]
/-- C() -/
theorem pmk_new {x : Str} {C fI : Addr} {k : Nat} {fd : FuncData} (T : OexC X.K C) (iC : PySem.W.findIn X.K (.ref C) "__init__" = some (some (.ref fI))) (tI : PySem.W.typeIn X.K (.ref fI) = some (.type "function"))
    (F1 : FnOk X.prog X.w X.K X.mg X.base CX0 k fI fd ["self"] (spNew C)) (hr : Room (k + 1) X.A) (hb : Binds X.K fd ["self"] []) (hg : Gl X x) (hm : X.mg x = some (.ref C))
    (hdb : (x == ("__debug__" : Str)) = false) : PMk X (.Call (.Name x p) [] [] pos) (fun _ H Q => Q (.ref C) none H) := by
  intro pins s σ H Q I h
  obtain ⟨nm, q, N, bs, bm, sn, sub, ab, col, dd, k0, k1, k2, k3, k5, hC, hbm⟩ := T.cls
  refine wpAny_Call_Name_kw (ld_glob I hg hm ?_ hdb)
  refine PySem.W.callWith_K0 I.kIn T.kC ?_
  show wpAny _ _ (call (.ref C) []) _ _ _
  obtain ⟨hp, g, dr, tk, os⟩ := s
  have hsz : hp.objs.size ≤ hp.objs.size + 1 := Nat.le_succ _
  have hn : H (hp.objs.size + 1) = none := I.hok.fresh hsz
  have kk : ∀ b o, hp.get? b = some o → ((hp.push (PySem.W.kdv_tup [])).push (PySem.HandSPX.excO C hp.objs.size)).get? b = some o := fun b o e => Heap.get?_push_of_some _ (Heap.get?_push_of_some _ e)
  have hget : ((hp.push (PySem.W.kdv_tup [])).push (PySem.HandSPX.excO C hp.objs.size)).get? (hp.objs.size + 1) = some (PySem.HandSPX.excO C hp.objs.size) := by heap_get
  have I2 : Inv X pins σ (upd H (hp.objs.size + 1) (exo (hp.objs.size + 1) C none)) ⟨(hp.push (PySem.W.kdv_tup [])).push (PySem.HandSPX.excO C hp.objs.size), g, dr, tk, os⟩ :=
    I.laid (t' := tk) (a := hp.objs.size + 1) (o := exo (hp.objs.size + 1) C none) (h' := (hp.push (PySem.W.kdv_tup [])).push (PySem.HandSPX.excO C hp.objs.size)) kk hsz (exo_ok hget)
  have r2 : Vals [V.ref (hp.objs.size + 1)] [Value.ref (hp.objs.size + 1)] := .cons rfl .nil
  refine wpAny_call (PySem.HandSPX.call_own F.excBase_ValueError (fun Y => PySem.HandSPX.refsVE_contains Y bm hbm) (I.kIn _ _ hC) (PySem.W.looks_findIn I.kIn iC) (fun self => PySem.W.bind_fn I.kIn self tI) (Nat.zero_le _)
    (codeAny_mono (F1.run _ X.stack _ _ ⟨[Value.ref (hp.objs.size + 1)], []⟩ [Value.ref (hp.objs.size + 1)] _ (fun v H2 => v = .non ∧ H2 = upd H (hp.objs.size + 1) (exo (hp.objs.size + 1) C none)) (fun _ _ _ => False) (hr.make C [] []) (I2.env0.make C [] [])
      (hb _ [Value.ref (hp.objs.size + 1)] I2.kIn rfl) r2 ⟨_, rfl, upd_same, rfl, rfl⟩) fun r s' hq' => ?_))
  cases r with
  | error er => exact False.elim hq'
  | ok fl =>
    cases fl with
    | ret u =>
      obtain ⟨v, H2, os2, bare2, un2, hok2, rv, ev, eH⟩ := hq'
      subst ev
      subst eH
      obtain ⟨h2, g2, d2, t2, os'⟩ := s'
      obtain ⟨t0, G, J, kG, ge, hoe, na⟩ := mk_endN (d2 := d2) (t2 := t2) I hsz kk un2 hok2 os2 bare2 upd_same
      rw [del_upd hn] at J na
      exact ⟨rv, _, _, _, ⟨G, g2, d2, t2, os'⟩, _, .ref C, none, rfl, J, kG, ge, hoe, ⟨rfl, rfl⟩, rfl, rfl, na, rfl, bare2, raises_own T.exC T.tyC, h⟩
    | next => exact False.elim hq'
    | brk => exact False.elim hq'
    | cont => exact False.elim hq'
end
end Mi

set_option linter.all false
set_option maxRecDepth 100000
set_option maxHeartbeats 4000000
namespace L2
open PySem PySem.Spec PyProof.Rows
/-- several clauses, with names and without -/
inductive Hd where
  | plain (c : Value) (ts : Addr → Value → Option Addr → TS)
  | named (c : Value) (i : Nat) (ts : Addr → Value → Option Addr → TS)
def wBoth (K : PySem.W.Frag) (Wout : WX) (D : Ends) : List Hd → WX
  | [] => Wout
  | .plain c ts :: r => fun cls d σ H => ∃ b, PySem.W.exmOne K cls c = some b ∧ (b = true → ∀ a, H a = none → ts a cls d D σ H) ∧ (b = false → wBoth K Wout D r cls d σ H)
  | .named c i ts :: r => fun cls d σ H => ∃ b, PySem.W.exmOne K cls c = some b ∧
    (b = true → ∀ a, H a = none → ts a cls d { nx := fun σ' H' => D.nx (σ'.set i none) H', rt := D.rt, bk := fun σ' H' => D.bk (σ'.set i none) H', ct := fun σ' H' => D.ct (σ'.set i none) H' } (σ.set i (some (.ref a))) H) ∧ (b = false → wBoth K Wout D r cls d σ H)
inductive HdsB (X : Cx) : List ExceptHandler → List Hd → Prop
  | nil : HdsB X [] []
  | plain {x : Str} {c : Value} {ts : Addr → Value → Option Addr → TS} {b₀ : Stmt} {suite : List Stmt} {np pos' : Pos} {hds : List ExceptHandler} {l : List Hd} (hc : Names X x c)
      (hsu : ∀ (a : Addr) (oe : Obj) (cls : Value) (d : Option Addr) (pn : List (Addr × Obj)), Zc cls d oe → (∃ vs, oe.data = .fields vs) → PSs (X.suite a ((a, oe) :: pn)) (b₀ :: suite) (ts a cls d)) (r : HdsB X hds l) :
      HdsB X (.ExceptHandler (some (.Name x np)) none (b₀ :: suite) pos' :: hds) (.plain c ts :: l)
  | named {x n : Str} {c : Value} {i : Nat} {ts : Addr → Value → Option Addr → TS} {b₀ : Stmt} {suite : List Stmt} {np pos' : Pos} {hds : List ExceptHandler} {l : List Hd} (hc : Names X x c) (hN : X.N.Nodup) (hi : X.N[i]? = some n) (hln : X.env.kindOf n = some .local)
      (hsu : ∀ (a : Addr) (oe : Obj) (cls : Value) (d : Option Addr) (pn : List (Addr × Obj)), Zc cls d oe → (∃ vs, oe.data = .fields vs) → PSs (X.suite a ((a, oe) :: pn)) (b₀ :: suite) (ts a cls d)) (r : HdsB X hds l) :
      HdsB X (.ExceptHandler (some (.Name x np)) (some n) (b₀ :: suite) pos' :: hds) (.named c i ts :: l)
section
variable {X : Cx} {body : List Stmt} {h₀ : ExceptHandler} {hds : List ExceptHandler} {l : List Hd} {pos : Pos} {tb : WX → TS} {Wout : WX}
theorem ps_try_both (hs : X.stack = X.env :: X.outer) (hf : X.env.frame = some X.env.locals) (tk : Takes X Wout)
    (hb : ∀ (W : WX) (pn : List (Addr × Obj)) (xe : Value → Shared → Prop), Takes (X.tr pn xe) W → PassesOwn (model X.prog X.w) X.A X.env xe → PSs (X.tr pn xe) body (tb W))
    (hh : HdsB X (h₀ :: hds) l) : PS X (.Try body (h₀ :: hds) [] [] pos) (fun D σ H => tb (wBoth X.K Wout D l) D σ H) := by
  refine ⟨fun pins s σ H D I h => ?_⟩
  have ok := I.ok
  have hfr : X.A.frames = some (X.env :: X.outer) := by rw [ok.frames, hs]
  refine wpAny_Try_except ?_
  refine wpAny_mono ((hb (wBoth X.K Wout D l) (X.pn ++ pins) (fun e s₁ => wpAny (model X.prog X.w) X.A (noteFrame e X.env) (fun _ s₂ => wpAny (model X.prog X.w) X.A (setFlight e none) (fun _ s₃ =>
    wpAny (model X.prog X.w) X.A (handleBy e X.env (h₀ :: hds)) (SP X pins D) X.xe s₃) X.xe s₂) X.xe s₁) (fun u s' xx => ?_) PassesOwn.looking).run [] s σ H D (I.toTry _) h) (fun f s1 hsp => ?_) (fun e s1 he => he)
  · -- the catch
    obtain ⟨a, B, sI, pins', σ', H', cls, d, rfl, J', nb, up, sky, na, os, ag, w⟩ := xx
    have J : Inv X pins σ' H' sI := J'.ofTry ok
    have sky' : Sky B (X.env :: X.outer) a (Zc cls d) X.env.locals s'.heap := by rw [← hs]; exact sky
    show wpAny (model X.prog X.w) X.A (noteFrame (.ref a) X.env) _ _ _
    refine Sky.land Zc.steady hfr hf sky' fun h3 fl3 up3 => ?_
    have J3 : Inv X pins σ' H' { s' with heap := h3 } := J.landed nb fl3.1 (up.trans up3) os ag
    obtain ⟨oe3, vs3, he3, hz3, hd3⟩ := fl3.there
    have notFr : ∀ {h : Heap} {o : Obj} {vs : Array Value}, h.FunFrames B (X.env :: X.outer) → h.get? a = some o → o.data = .fields vs → a ∉ frs (X.env :: X.outer) := fun {h o vs} ff e dd hm => by
      obtain ⟨_, o', e', hnf⟩ := ff.mem hm
      rw [e] at e'; cases e'
      exact hnf _ dd
    have nfr := notFr fl3.2.2.1 he3 hd3
    have nL : a ≠ X.env.locals := fun z => nfr (List.mem_filterMap.mpr ⟨X.env, List.mem_cons_self, by rw [hf, z]⟩)
    have nF : a ∉ X.fs := fun hm => by
      obtain ⟨e, he, q⟩ := List.mem_filterMap.mp hm
      exact nfr (List.mem_filterMap.mpr ⟨e, List.mem_cons_of_mem _ he, q⟩)
    have S3 := J3.suite he3 hd3 na nL nF
    have go : ∀ {hds' : List ExceptHandler} {l' : List Hd}, HdsB X hds' l' → wBoth X.K Wout D l' cls d σ' H' →
        wpAny (model X.prog X.w) X.A (handleBy (.ref a) X.env hds') (SP X pins D) X.xe { s' with heap := h3 } := by
      intro hds' l' hk
      induction hk with
      | nil =>
        intro w
        refine wpAny_handleBy_nil ?_
        obtain ⟨k1, k2, k3, oe, vs, T, oT, ts', he, hz, hd, h1, hr⟩ := id fl3
        unfold PySem.passOn
        refine wpAny_bind (wpAny_field he hd h1 ?_)
        rw [if_neg (show ¬ ((Value.ref T == Value.none) = true) from by simp)]
        have fin : wpAny (model X.prog X.w) X.A (setFlight (.ref a) X.env.frame) (fun _ s4 => wpAny (model X.prog X.w) X.A (throw (.ref a) : Sem Flow) (SP X pins D) X.xe s4) X.xe { s' with heap := h3 } := by
          rw [hf]
          refine HandSPX.setFlight_upZ fl3 fun h4 hh4 up4 => wpAny_throw (tk _ _ ?_)
          exact ⟨a, B, sI, pins, σ', H', cls, d, rfl, J, nb, (up.trans up3).trans up4, .inr (.inr (by rw [hs]; exact hh4)), na, os, ag, w⟩
        first
          | exact wpAny_bind (wpAny_pure (wpAny_bind fin))
          | exact wpAny_bind fin
      | @plain x c ts b₀ suite np pos' hds2 l2 hc hsu r ih =>
        intro w
        obtain ⟨b, hb1, hyes, hno⟩ := w
        refine wpAny_handleBy_cons (codeAny_handlers_test ?_) (by intro q; cases q)
        have LT : PySem.W.Looks (model X.prog X.w) h3 (typeOf (.ref a)) cls := fun A Q E s k q => wpAny_typeOf_ref (k _ _ he3) (by rw [hz3.1]; exact q)
        have LM := PySem.W.exm_one (M := model X.prog X.w) (J3.kIn) LT hb1
        have test : ∀ {Q : Value → Shared → Prop} {E : Value → Shared → Prop}, Q c { s' with heap := h3 } → wpAny (model X.prog X.w) (X.A.mark (some (.ref a))) (eval (.Name x np) X.env) Q E { s' with heap := h3 } := fun {Q E} q => by
          obtain ⟨hg, hdbg, hm | ⟨hm, hv, hnn⟩⟩ := hc
          · exact ld_glob (X := X.suite a ((a, oe3) :: (X.pn ++ pins))) S3 hg hm q hdbg
          · exact ld_blt (X := X.suite a ((a, oe3) :: (X.pn ++ pins))) S3 hg hm hv q hnn hdbg
        refine test (LM.here ?_)
        cases b with
        | true =>
          refine codeAny_handlers_suite ?_
          refine HandSPX.lands_againZ fl3 fun h4 fl4 up4 => ?_
          have J4 : Inv X pins σ' H' { s' with heap := h4 } := J.landed nb fl4.1 ((up.trans up3).trans up4) os ag
          obtain ⟨oe4, vs4, he4, hz4, hd4⟩ := fl4.there
          have S4 := J4.suite he4 hd4 na nL nF
          refine wpAny_mono ((hsu a oe4 cls d (X.pn ++ pins) hz4 ⟨_, hd4⟩).run [] _ _ H' _ S4 (hyes rfl a na)) (fun f s6 hsp => ?_) (fun _ _ z => False.elim z)
          cases f with
          | next =>
            obtain ⟨σ6, H6, S6, q6⟩ := hsp
            exact ⟨_, _, S6.unsuite ok, q6⟩
          | brk =>
            obtain ⟨σ6, H6, S6, q6⟩ := hsp
            exact ⟨_, _, S6.unsuite ok, q6⟩
          | cont =>
            obtain ⟨σ6, H6, S6, q6⟩ := hsp
            exact ⟨_, _, S6.unsuite ok, q6⟩
          | ret u =>
            obtain ⟨v6, σ6, H6, S6, r6, q6⟩ := hsp
            exact ⟨_, _, _, S6.unsuite ok, r6, q6⟩
        | false =>
          show wpAny _ X.A (handleBy (.ref a) X.env hds2) _ _ _
          exact ih (hno rfl)
      | @named x n c i ts b₀ suite np pos' hds2 l2 hc hN hi hln hsu r ih =>
        intro w
        obtain ⟨b, hb1, hyes, hno⟩ := w
        have hloc : Loc X.env.scope n := .inl hln
        refine wpAny_handleBy_cons (codeAny_handlers_test ?_) (by intro q; cases q)
        have LT : PySem.W.Looks (model X.prog X.w) h3 (typeOf (.ref a)) cls := fun A Q E s k q => wpAny_typeOf_ref (k _ _ he3) (by rw [hz3.1]; exact q)
        have LM := PySem.W.exm_one (M := model X.prog X.w) (J3.kIn) LT hb1
        have test : ∀ {Q : Value → Shared → Prop} {E : Value → Shared → Prop}, Q c { s' with heap := h3 } → wpAny (model X.prog X.w) (X.A.mark (some (.ref a))) (eval (.Name x np) X.env) Q E { s' with heap := h3 } := fun {Q E} q => by
          obtain ⟨hg, hdbg, hm | ⟨hm, hv, hnn⟩⟩ := hc
          · exact ld_glob (X := X.suite a ((a, oe3) :: (X.pn ++ pins))) S3 hg hm q hdbg
          · exact ld_blt (X := X.suite a ((a, oe3) :: (X.pn ++ pins))) S3 hg hm hv q hnn hdbg
        refine test (LM.here ?_)
        cases b with
        | true =>
          refine codeAny_handlers_suite_as ?_
          refine HandSPX.lands_againZ fl3 fun h4 fl4 up4 => ?_
          have J4 : Inv X pins σ' H' { s' with heap := h4 } := J.landed nb fl4.1 ((up.trans up3).trans up4) os ag
          obtain ⟨oe4, vs4, he4, hz4, hd4⟩ := fl4.there
          have S4 := J4.suite he4 hd4 na nL nF
          refine store_ok (X := X.suite a ((a, oe4) :: (X.pn ++ pins))) (v := .ref a) S4 hN hi hloc rfl (fun s5 S5 => ?_) (.inr hln)
          refine wpAny_mono ((hsu a oe4 cls d (X.pn ++ pins) hz4 ⟨_, hd4⟩).run [] s5 _ H' _ S5 (hyes rfl a na)) (fun f s6 hsp => ?_) (fun _ _ z => False.elim z)
          have end_ : ∀ {σ6 : St} {H6 : Hp} {Q : Shared → Prop}, Inv (X.suite a ((a, oe4) :: (X.pn ++ pins))) [] σ6 H6 s6 → (∀ s7, Inv X pins (σ6.set i none) H6 s7 → Q s7) →
              wpAny (model X.prog X.w) X.A (do bindName X.env n .none; unbindBehindTheSuite X.env n pos') (fun _ s7 => Q s7) X.xe s6 := fun {σ6 H6 Q} S6 hq => gone_ok (S6.unsuite ok) hN hi hln hq
          cases f with
          | next =>
            obtain ⟨σ6, H6, S6, q6⟩ := hsp
            exact end_ S6 fun s7 J7 => ⟨_, _, J7, q6⟩
          | brk =>
            obtain ⟨σ6, H6, S6, q6⟩ := hsp
            exact end_ S6 fun s7 J7 => ⟨_, _, J7, q6⟩
          | cont =>
            obtain ⟨σ6, H6, S6, q6⟩ := hsp
            exact end_ S6 fun s7 J7 => ⟨_, _, J7, q6⟩
          | ret u =>
            obtain ⟨v6, σ6, H6, S6, r6, q6⟩ := hsp
            exact end_ S6 fun s7 J7 => ⟨_, _, _, J7, r6, q6⟩
        | false =>
          show wpAny _ X.A (handleBy (.ref a) X.env hds2) _ _ _
          exact ih (hno rfl)
    exact go hh w
  · cases f with
    | next =>
      obtain ⟨σ', H', J', q⟩ := hsp
      exact wpAny_execs_nil ⟨σ', H', J'.ofTry ok, q⟩
    | brk =>
      obtain ⟨σ', H', J', q⟩ := hsp
      exact ⟨σ', H', J'.ofTry ok, q⟩
    | cont =>
      obtain ⟨σ', H', J', q⟩ := hsp
      exact ⟨σ', H', J'.ofTry ok, q⟩
    | ret u =>
      obtain ⟨v, σ', H', J', r, q⟩ := hsp
      exact ⟨v, σ', H', J'.ofTry ok, r, q⟩
end
end L2

set_option linter.all false
set_option maxRecDepth 100000
set_option maxHeartbeats 4000000
namespace Mi
open PySem PySem.Spec PyProof.Rows L2

/-- with a caught exception at a, its own dict d -/
def faE (fa : Nat → Option Addr) (a : Addr) (d : Option Addr) : Nat → Option Addr := fun n => if n = 1000000 then some a else if n = 1000001 then d else fa n
section
variable {K : PySem.W.Frag} {fa : Nat → Option Addr} {a : Addr} {dd : Option Addr} {H : Hp} {m : List Addr}
theorem faE_lt {n : Nat} (h : n < 1000000) : faE fa a dd n = fa n := by
  unfold faE
  rw [if_neg (by omega), if_neg (by omega)]
theorem low_of (hf : ∀ n, 999999 ≤ n → fa n = none) {n : Nat} {x : Addr} (h : fa n = some x) : n < 999999 := by
  rcases Nat.lt_or_ge n 999999 with z | z
  · exact z
  · rw [hf n z] at h; cases h
mutual
theorem Rp.up (hf : ∀ n, 999999 ≤ n → fa n = none) : ∀ {d : D} {v : V}, Rp K fa H m d v → Rp K (faE fa a dd) H m d v
  | .non, _, h => h
  | .bl _, _, h => h
  | .int _, _, h => h
  | .str _, _, h => h
  | .tup _, _, h => by
    obtain ⟨p, vs, e, q, r⟩ := h
    exact ⟨p, vs, e, q, RpL.up hf r⟩
  | .lk _, _, h => by
    obtain ⟨p, vs, e, q, r⟩ := h
    exact ⟨p, vs, e, q, RpL.up hf r⟩
  | .ref _, _, h => h
  | .fn n, _, h => by
    obtain ⟨p, e, q⟩ := h
    exact ⟨p, e, by rw [faE_lt (Nat.lt_of_lt_of_le (low_of hf q) (by decide))]; exact q⟩
  | .err n _ _, _, h => by
    obtain ⟨p, e, q, z⟩ := h
    have hn := low_of hf q
    refine ⟨p, e, by rw [faE_lt (by omega)]; exact q, ?_⟩
    rw [faE_lt (n := n + 1) (by omega)]
    exact z.elim .inl fun ⟨x, vs, z1, z2, z3⟩ => .inr ⟨x, vs, z1, z2, RpL.up hf z3⟩
theorem RpL.up (hf : ∀ n, 999999 ≤ n → fa n = none) : ∀ {ds : List D} {vs : List V}, RpL K fa H m ds vs → RpL K (faE fa a dd) H m ds vs
  | [], _, h => h
  | d :: ds, _, h => by
    obtain ⟨v, r, e, q, q2⟩ := h
    exact ⟨v, r, e, Rp.up hf q, RpL.up hf q2⟩
end
mutual
theorem Rp.down : ∀ {d : D} {v : V}, noE d = true → Rp K (faE fa a dd) H m d v → Rp K fa H m d v
  | .non, _, _, h => h
  | .bl _, _, _, h => h
  | .int _, _, _, h => h
  | .str _, _, _, h => h
  | .tup _, _, n, h => by
    obtain ⟨p, vs, e, q, r⟩ := h
    exact ⟨p, vs, e, q, RpL.down n r⟩
  | .lk _, _, n, h => by
    obtain ⟨p, vs, e, q, r⟩ := h
    exact ⟨p, vs, e, q, RpL.down n r⟩
  | .ref _, _, _, h => h
  | .fn n, _, z, h => by
    obtain ⟨p, e, q⟩ := h
    have hn : n < 999999 := Nat.le_of_ble_eq_true z
    exact ⟨p, e, by rw [faE_lt (by omega)] at q; exact q⟩
  | .err _ _ _, _, z, _ => by cases z
theorem RpL.down : ∀ {ds : List D} {vs : List V}, noEL ds = true → RpL K (faE fa a dd) H m ds vs → RpL K fa H m ds vs
  | [], _, _, h => h
  | d :: ds, _, n, h => by
    obtain ⟨v, r, e, q, q2⟩ := h
    have n : (noE d && noEL ds) = true := n
    rw [Bool.and_eq_true] at n
    exact ⟨v, r, e, Rp.down n.1 q, RpL.down n.2 q2⟩
end
theorem RelS.up {s : S} (hf : ∀ n, 999999 ≤ n → fa n = none) (R : RelS K fa H m s) : RelS K (faE fa a dd) H m s :=
  ⟨⟨R.rel.len, R.rel.nd, fun n b x e1 e2 => by
    have q := R.rel.ok n b x e1 e2
    cases x with
    | lst xs => obtain ⟨vs, e, r⟩ := q; exact ⟨vs, e, RpL.up hf r⟩
    | dct xs => obtain ⟨vs, e, r⟩ := q; exact ⟨vs, e, RpL.up hf r⟩⟩, R.low⟩
theorem RelS.down {s : S} (n : noES s = true) (R : RelS K (faE fa a dd) H m s) : RelS K fa H m s :=
  ⟨⟨R.rel.len, R.rel.nd, fun k b x e1 e2 => by
    have q := R.rel.ok k b x e1 e2
    cases x with
    | lst xs =>
      obtain ⟨vs, e, r⟩ := q
      have z := List.all_eq_true.mp n (.lst xs) (List.mem_of_getElem? e2)
      exact ⟨vs, e, RpL.down z r⟩
    | dct xs =>
      obtain ⟨vs, e, r⟩ := q
      have z := List.all_eq_true.mp n (.dct xs) (List.mem_of_getElem? e2)
      exact ⟨vs, e, RpL.down z r⟩⟩, R.low⟩
theorem EnvR.up {σ : L2.St} {ρ : Env} (hf : ∀ n, 999999 ≤ n → fa n = none) (E : EnvR K fa H m σ ρ) : EnvR K (faE fa a dd) H m σ ρ := ⟨E.1, fun i d e => let ⟨v, h, r⟩ := E.2 i d e; ⟨v, h, Rp.up hf r⟩⟩
theorem EnvR.down {σ : L2.St} {ρ : Env} (n : noEE ρ = true) (E : EnvR K (faE fa a dd) H m σ ρ) : EnvR K fa H m σ ρ := ⟨E.1, fun i d e => by
  obtain ⟨v, h, r⟩ := E.2 i d e
  have z := List.all_eq_true.mp n (some d) (List.mem_of_getElem? e)
  exact ⟨v, h, Rp.down z r⟩⟩
end
/-- how an exception of class x with fields fs is told -/
def XRc (K : PySem.W.Frag) (fa : Nat → Option Addr) (ca : Nat → Option Addr) (cn : Nat → List Str) : Nat → List D → Value → Option Addr → Hp → List Addr → Prop := fun x fs cls d H m =>
  ∃ C, ca x = some C ∧ cls = .ref C ∧ ((cn x = [] ∧ fs = [] ∧ d = none) ∨ (cn x ≠ [] ∧ ∃ dd vs, d = some dd ∧ H dd = some (.xd ((cn x).zip vs)) ∧ RpL K fa H m fs vs))
section
variable {X : Cx} {fa : Nat → Option Addr} {ca : Nat → Option Addr} {cn : Nat → List Str} {F : Funs} {W : WX} {pos : Pos}
/-- raise C() -/
theorem s_raise0 {e : Expr} {x : Nat} {C : Addr} (hc : X.calm = true) (tk : Takes X W) (he : PMk X e (fun _ H Q => Q (.ref C) none H)) (hx : ca x = some C) (hn : cn x = []) : PS X (.Raise (some e) none pos) (tS X.K fa (XRc X.K fa ca cn) F W (.raise x .nil)) :=
  PS.imp (ps_raise hc tk he) fun D σ H ⟨m, ρ, s, R, E, h⟩ => h (.ref C) none σ H m Le.refl R E ⟨C, hx, rfl, .inl ⟨hn, rfl, rfl⟩⟩

/-- an except clause and its short form: c the class that it names; cl the classes that it takes -/
inductive HOk (X : Cx) (fa : Nat → Option Addr) (ca : Nat → Option Addr) (cn : Nat → List Str) (F : Funs) : List ExceptHandler → CHs → Prop
  | nil : HOk X fa ca cn F [] .nil
  | plain {x : Str} {c : Value} {b₀ : Stmt} {suite : List Stmt} {np pos' : Pos} {hds : List ExceptHandler} {cl : List Nat} {ns : List Str} {cb : CSs} {chs : CHs} (hc : Names X x c) (hm : ∀ x C, ca x = some C → PySem.W.exmOne X.K (.ref C) c = some (cl.contains x))
      (hsu : ∀ (a : Addr) (oe : Obj) (pn : List (Addr × Obj)), PSs (X.suite a ((a, oe) :: pn)) (b₀ :: suite) (tSs X.K fa (XRc X.K fa ca cn) F W0 cb)) (r : HOk X fa ca cn F hds chs) :
      HOk X fa ca cn F (.ExceptHandler (some (.Name x np)) none (b₀ :: suite) pos' :: hds) (.cons cl none ns cb chs)
  | named {x n : Str} {c : Value} {i : Nat} {b₀ : Stmt} {suite : List Stmt} {np pos' : Pos} {hds : List ExceptHandler} {cl : List Nat} {ns : List Str} {cb : CSs} {chs : CHs} (hc : Names X x c) (hm : ∀ x C, ca x = some C → PySem.W.exmOne X.K (.ref C) c = some (cl.contains x))
      (hN : X.N.Nodup) (hi : X.N[i]? = some n) (hln : X.env.kindOf n = some .local) (hns : ∀ x, cl.contains x = true → cn x = ns)
      (hsu : ∀ (a : Addr) (oe : Obj) (C : Addr) (d : Option Addr) (pn : List (Addr × Obj)), (∃ x, cl.contains x = true ∧ ca x = some C ∧ (cn x = [] → d = none)) → Zc (.ref C) d oe → (∃ vs, oe.data = .fields vs) → PSs (X.suite a ((a, oe) :: pn)) (b₀ :: suite) (tSs X.K (faE fa a d) (XRc X.K (faE fa a d) ca cn) F W0 cb)) (r : HOk X fa ca cn F hds chs) :
      HOk X fa ca cn F (.ExceptHandler (some (.Name x np)) (some n) (b₀ :: suite) pos' :: hds) (.cons cl (some i) ns cb chs)
/-- the wishes of the clauses -/
def hdsOf (X : Cx) (fa : Nat → Option Addr) (ca : Nat → Option Addr) (cn : Nat → List Str) (F : Funs) {hds : List ExceptHandler} {chs : CHs} (_ : HOk X fa ca cn F hds chs) : Prop := True
theorem try_hds (hf : ∀ n, 999999 ≤ n → fa n = none) {hds : List ExceptHandler} {chs : CHs} (h : HOk X fa ca cn F hds chs) : ∃ l : List Hd, HdsB X hds l ∧ ∀ (D : Ends) (x : Nat) (fs : List Mi.D) (ρ : Env) (s : S) (H : Hp) (m : List Addr) (cls : Value) (d : Option Addr) (σ : L2.St),
    RelS X.K fa H m s → EnvR X.K fa H m σ ρ → XRc X.K fa ca cn x fs cls d H m → PostS X.K fa (XRc X.K fa ca cn) W D H m (exh F chs x fs ρ s) → wBoth X.K W D l cls d σ H := by
  induction h with
  | nil => exact ⟨[], .nil, fun D x fs ρ s H m cls d σ R E z h => h cls d σ H m Le.refl R E z⟩
  | @plain x c b₀ suite np pos' hds cl ns cb chs hc hm hsu r ih =>
    obtain ⟨l, hl, hw⟩ := ih
    refine ⟨.plain c (fun a cls d => tSs X.K fa (XRc X.K fa ca cn) F W0 cb) :: l, .plain hc (fun a oe cls d pn _ _ => hsu a oe pn) hl, fun D x fs ρ s H m cls d σ R E z h => ?_⟩
    obtain ⟨C, hC, rfl, z'⟩ := id z
    refine ⟨cl.contains x, hm x C hC, fun hb a ha => ?_, fun hb => ?_⟩
    · refine ⟨m, ρ, s, R, E, ?_⟩
      have h : PostS X.K fa (XRc X.K fa ca cn) W D H m (if cl.contains x then calmS (exs F cb ρ s) else exh F chs x fs ρ s) := h
      rw [if_pos hb] at h
      cases e : exs F cb ρ s with
      | ok f s2 =>
        rw [e] at h
        cases f <;> exact h
      | ex y gs ρ2 s2 => rw [e] at h; exact h.elim
      | no => rw [e] at h; exact h.elim
    · have h : PostS X.K fa (XRc X.K fa ca cn) W D H m (if cl.contains x then calmS (exs F cb ρ s) else exh F chs x fs ρ s) := h
      rw [if_neg (by rw [hb]; exact Bool.false_ne_true)] at h
      exact hw D x fs ρ s H m _ d σ R E z h
  | @named x n c i b₀ suite np pos' hds cl ns cb chs hc hm hN hi hln hns hsu r ih =>
    obtain ⟨l, hl, hw⟩ := ih
    refine ⟨.named c i (fun a cls d => fun D σ H => (∃ C, cls = .ref C ∧ ∃ x, cl.contains x = true ∧ ca x = some C ∧ (cn x = [] → d = none)) ∧ tSs X.K (faE fa a d) (XRc X.K (faE fa a d) ca cn) F W0 cb D σ H) :: l,
      .named hc hN hi hln (fun a oe cls d pn hz hd => ⟨fun pins s σ H D I ⟨⟨C, eC, q⟩, w⟩ => by subst eC; exact (hsu a oe C d pn q hz hd).run pins s σ H D I w⟩) hl, fun D x fs ρ s H m cls d σ R E z h => ?_⟩
    obtain ⟨C, hC, rfl, z'⟩ := id z
    refine ⟨cl.contains x, hm x C hC, fun hb a ha => ⟨⟨C, rfl, x, hb, hC, fun z0 => z'.elim (fun q => q.2.2) fun q => absurd z0 q.1⟩, ?_⟩, fun hb => ?_⟩
    · have h : PostS X.K fa (XRc X.K fa ca cn) W D H m (if cl.contains x then gone i (exs F cb (ρ.set i (some (.err 1000000 ns fs))) s) else exh F chs x fs ρ s) := h
      rw [if_pos hb] at h
      have e1 : faE fa a d 1000000 = some a := by unfold faE; rw [if_pos rfl]
      have e2 : faE fa a d 1000001 = d := by unfold faE; rw [if_neg (by decide), if_pos rfl]
      have re : Rp X.K (faE fa a d) H m (.err 1000000 ns fs) (.ref a) := by
        refine ⟨a, rfl, e1, ?_⟩
        rcases z' with ⟨_, z1, z2⟩ | ⟨_, dx, vs, z1, z2, z3⟩
        · exact .inl ⟨z1, by rw [e2]; exact z2⟩
        · exact .inr ⟨dx, vs, by rw [e2]; exact z1, by rw [← hns x hb]; exact z2, RpL.up hf z3⟩
      refine ⟨m, ρ.set i (some (.err 1000000 ns fs)), s, R.up hf, (E.up hf).set i re, ?_⟩
      cases e : exs F cb (ρ.set i (some (.err 1000000 ns fs))) s with
      | ex y gs ρ2 s2 => rw [e] at h; exact h.elim
      | no => rw [e] at h; exact h.elim
      | ok f s2 =>
        rw [e] at h
        cases f with
        | nx ρ2 =>
          have h : PostS X.K fa (XRc X.K fa ca cn) W D H m (if noES s2 && noEE (ρ2.set i none) then .ok (.nx (ρ2.set i none)) s2 else .no) := h
          split at h
          · rename_i hb2
            rw [Bool.and_eq_true] at hb2
            exact fun σ' H' m' l R' E' => h _ H' m' l (R'.down hb2.1) ((E'.clear i).down hb2.2)
          · exact h.elim
        | bk ρ2 =>
          have h : PostS X.K fa (XRc X.K fa ca cn) W D H m (if noES s2 && noEE (ρ2.set i none) then .ok (.bk (ρ2.set i none)) s2 else .no) := h
          split at h
          · rename_i hb2
            rw [Bool.and_eq_true] at hb2
            exact fun σ' H' m' l R' E' => h _ H' m' l (R'.down hb2.1) ((E'.clear i).down hb2.2)
          · exact h.elim
        | ct ρ2 =>
          have h : PostS X.K fa (XRc X.K fa ca cn) W D H m (if noES s2 && noEE (ρ2.set i none) then .ok (.ct (ρ2.set i none)) s2 else .no) := h
          split at h
          · rename_i hb2
            rw [Bool.and_eq_true] at hb2
            exact fun σ' H' m' l R' E' => h _ H' m' l (R'.down hb2.1) ((E'.clear i).down hb2.2)
          · exact h.elim
        | rt d2 =>
          have h : PostS X.K fa (XRc X.K fa ca cn) W D H m (if noES s2 && noE d2 then .ok (.rt d2) s2 else .no) := h
          split at h
          · rename_i hb2
            rw [Bool.and_eq_true] at hb2
            exact fun v H' m' l R' r' => h v H' m' l (R'.down hb2.1) (r'.down hb2.2)
          · exact h.elim
    · have h : PostS X.K fa (XRc X.K fa ca cn) W D H m (if cl.contains x then gone i (exs F cb (ρ.set i (some (.err 1000000 ns fs))) s) else exh F chs x fs ρ s) := h
      rw [if_neg (by rw [hb]; exact Bool.false_ne_true)] at h
      exact hw D x fs ρ s H m _ d σ R E z h
/-- try .. except -/
theorem s_try {body : List Stmt} {cb : CSs} {h₀ : ExceptHandler} {hds : List ExceptHandler} {chs : CHs} (hf : ∀ n, 999999 ≤ n → fa n = none) (hs : X.stack = X.env :: X.outer) (hfr : X.env.frame = some X.env.locals) (tk : Takes X W)
    (hb : ∀ (W' : WX) (pn : List (Addr × Obj)) (xe : Value → Shared → Prop), Takes (X.tr pn xe) W' → PassesOwn (model X.prog X.w) X.A X.env xe → PSs (X.tr pn xe) body (tSs X.K fa (XRc X.K fa ca cn) F W' cb))
    (hh : HOk X fa ca cn F (h₀ :: hds) chs) : PS X (.Try body (h₀ :: hds) [] [] pos) (tS X.K fa (XRc X.K fa ca cn) F W (.tryx cb chs)) := by
  obtain ⟨l, hl, hw⟩ := try_hds (W := W) hf hh
  refine PS.imp (ps_try_both (tb := fun W' => tSs X.K fa (XRc X.K fa ca cn) F W' cb) hs hfr tk hb hl) fun D σ H ⟨m, ρ, s, R, E, h⟩ => ⟨m, ρ, s, R, E, ?_⟩
  have h : PostS X.K fa (XRc X.K fa ca cn) W D H m (match exs F cb ρ s with
    | .ex x fs ρ2 s2 => exh F chs x fs ρ2 s2
    | r => r) := h
  cases e : exs F cb ρ s with
  | ok f s2 =>
    rw [e] at h
    cases f <;> exact h
  | ex x fs ρ2 s2 =>
    rw [e] at h
    exact fun cls d σ' H' m' l R' E' z => hw D x fs ρ2 s2 H' m' cls d σ' R' E' z (h.le l)
  | no => rw [e] at h; exact h
end
end Mi

set_option linter.all false
set_option maxRecDepth 100000
set_option maxHeartbeats 4000000
namespace Mi
open PySem PySem.Spec PyProof.Rows L2

/-! ### isinstance -/
def tyS : Ty → String
  | .non => "NoneType" | .bl => "bool" | .int => "int" | .str => "str" | .tup => "tuple" | .lst => "list" | .dict => "dict" | .set => "set" | .flt => "float"
def tyN : List (Str × Ty) := [("bool", .bl), ("int", .int), ("str", .str), ("tuple", .tup), ("list", .lst), ("dict", .dict), ("set", .set), ("float", .flt)]
theorem kit_tys : ∀ a b : Ty, b ≠ .non → kitB (tyS a) (tyS b) = some (isA a b) := by
  intro a b h
  cases a <;> cases b <;> first
    | exact absurd rfl h
    | decide +kernel
section
variable {X : Cx} {fa : Nat → Option Addr} {XR : Nat → List D → Value → Option Addr → Hp → List Addr → Prop} {F : Funs} {W : WX} {pos : Pos}
theorem tyx_of {H : Hp} {m : List Addr} {s : S} {d : Mi.D} {v : V} {t : Ty} (R : RelS X.K fa H m s) (r : Rp X.K fa H m d v) (hd : ¬ dctD s d = true) (h : tyOf d = some t) : TyX X.K H v (.type (tyS t)) := by
  cases d with
  | non => cases r; cases h; exact .base .non
  | bl b => cases r; cases h; exact .base (.bl b)
  | int i => cases r; cases h; exact .base (.int i)
  | str x => cases r; cases h; exact .base (.str x)
  | tup xs =>
    cases h
    obtain ⟨a, vs, rfl, hq, _⟩ := r
    rcases hq with (z | ⟨o, z⟩) | ⟨o, its, n, z, c, _⟩
    · exact .base (.tup z)
    · exact .fTuple z
    · exact .kTuple z c
  | lk xs =>
    cases h
    obtain ⟨a, vs, rfl, hq, _⟩ := r
    rcases hq with ⟨o, z⟩ | ⟨o, its, n, z, c, _⟩
    · exact .base (.frz z)
    · exact .kList z c
  | ref n =>
    cases h
    obtain ⟨a, rfl, e⟩ := r
    obtain ⟨x, hx⟩ : ∃ x, s.l[n]? = some x := by
      have hn : n < m.length := by
        rcases Nat.lt_or_ge n m.length with q | q
        · exact q
        · rw [List.getElem?_eq_none q] at e; cases e
      rw [R.rel.len] at hn
      exact ⟨_, List.getElem?_eq_getElem hn⟩
    cases x with
    | lst xs =>
      obtain ⟨vs, z, _⟩ := R.rel.ok n a _ e hx
      exact .base (.lst z)
    | dct xs =>
      refine absurd ?_ hd
      show (match s.l[n]? with | some (.dct _) => true | _ => false) = true
      rw [hx]
  | fn n => cases h
  | err n ns fs => cases h
theorem kit_any {t : Ty} : ∀ {ts : List Ty}, (∀ u ∈ ts, u ≠ .non) → PySem.W.kitAny X.K (.type (tyS t)) (ts.map fun u => Value.type (tyS u)) = some (ts.any fun u => isA t u)
  | [], _ => rfl
  | u :: ts, h => by
    rw [List.map_cons, List.any_cons]
    refine kitAny_cons (kit_ty (kit_tys t u (h u (List.mem_cons_self ..)))) (fun e => ?_) fun e => ?_
    · rw [e, Bool.false_or]
      exact kit_any fun v hv => h v (List.mem_cons_of_mem _ hv)
    · rw [e, Bool.true_or]
/-- a written name of a built-in type -/
structure TyNm (X : Cx) (x : Str) (t : Ty) : Prop where
  gl : Gl X x
  mg : X.mg x = none
  bt : bootBuiltins x = some (.type (tyS t))
  n1 : x ≠ "__name__"
  n2 : (x == ("__debug__" : Str)) = false
  nn : t ≠ .non
theorem tyNm_of {x : Str} {t : Ty} (h : (x, t) ∈ tyN) (hg : Gl X x) (hm : X.mg x = none) : TyNm X x t := by
  simp only [tyN, List.mem_cons, List.mem_nil_iff, or_false, Prod.mk.injEq] at h
  rcases h with ⟨rfl, rfl⟩ | ⟨rfl, rfl⟩ | ⟨rfl, rfl⟩ | ⟨rfl, rfl⟩ | ⟨rfl, rfl⟩ | ⟨rfl, rfl⟩ | ⟨rfl, rfl⟩ | ⟨rfl, rfl⟩ <;> exact ⟨hg, hm, by decide +kernel, by decide, by decide, by decide⟩
theorem TyNm.pe {x : Str} {t : Ty} {p : Pos} (h : TyNm X x t) : PE X (.Name x p) (tC (.ty (tyS t))) := pe_bltn h.gl h.mg h.bt rfl h.n1 h.n2
theorem e_isTy1 {e : Expr} {ce : CE} {x : Str} {t : Ty} {p p2 : Pos} (hg : Gl X "isinstance") (hm : X.mg "isinstance" = none) (hx : TyNm X x t) (he : PE X e (tI X.K fa XR F W ce)) (hp : plainE e = true) :
    PE X (.Call (.Name "isinstance" p) [e, .Name x p2] [] pos) (tI X.K fa XR F W (.prim (.isTy [t]) (.cons ce .nil))) :=
  PE.imp (pe_callB call_isi hg hm (by decide +kernel) (pa_cons he (pa_cons hx.pe pa_nil (by rfl)) (star_cons hp)) (by decide) (by decide) (star_cons hp) (by rfl)) fun σ H Q ⟨m, ρ, s, R, E, h⟩ => by
    have h : Post X.K fa XR (Rp X.K fa) W σ H m ((evs F (.cons ce .nil) ρ s).bind fun ds s => prim (.isTy [t]) ds s) Q := h
    rw [evs1] at h
    refine ⟨m, ρ, s, R, E, (Post.bind (Re := Rp X.K fa) h).imp fun v H1 ⟨m1, d, s1, l1, R1, r1, _, h1⟩ => ?_⟩
    have h1 : Post X.K fa XR (Rp X.K fa) W σ H1 m1 (if dctD s1 d then .no else ob (tyOf d) (fun u => .bl (_ : Bool)) s1) Q := h1
    by_cases hd : dctD s1 d = true
    · rw [if_pos hd] at h1; exact h1.elim
    rw [if_neg hd] at h1
    obtain ⟨a, ha, h1⟩ := post_ob (o := tyOf d) (f := fun u => .bl ([t].any fun w => isA u w)) h1
    have e1 : ([t].any fun w => isA a w) = isA a t := by rw [List.any_cons, List.any_nil, Bool.or_false]
    rw [e1] at h1
    exact ⟨v, .ty (tyS t), .type (tyS a), .type (tyS t), isA a t, rfl, .ty _, tyx_of R1 r1 hd ha, kit_ty (kit_tys a t hx.nn), post_ok h1 R1 rfl⟩
/-- several written names -/
theorem pa_tys {p2 : Str → Pos} : ∀ {xs : List (Str × Ty × Pos)}, (∀ q ∈ xs, TyNm X q.1 q.2.1) → PA X (xs.map fun q => .Name q.1 q.2.2) (fun _ H Q => Q (xs.map fun q => V.ty (tyS q.2.1)) H)
  | [], _ => pa_nil
  | q :: xs, h => PA.imp (pa_cons (h q (List.mem_cons_self ..)).pe (pa_tys (p2 := p2) fun y hy => h y (List.mem_cons_of_mem _ hy)) (by rfl)) fun σ H Q h => h
theorem paired_tys : ∀ {xs : List (Str × Ty × Pos)}, Paired ClsV (xs.map fun q => V.ty (tyS q.2.1)) ((xs.map fun q => q.2.1).map fun u => Value.type (tyS u))
  | [] => .nil
  | q :: xs => .cons (.ty _) paired_tys
theorem e_isTyN {e : Expr} {ce : CE} {xs : List (Str × Ty × Pos)} {p p2 : Pos} {kk : Nat} (hz : xs.length ≤ 16777216) (hg : Gl X "isinstance") (hm : X.mg "isinstance" = none) (hx : ∀ q ∈ xs, TyNm X q.1 q.2.1) (he : PE X e (tI X.K fa XR F W ce)) (hp : plainE e = true) :
    PE X (.Call (.Name "isinstance" p) [e, .Tuple (xs.map fun q => .Name q.1 q.2.2) kk p2] [] pos) (tI X.K fa XR F W (.prim (.isTy (xs.map fun q => q.2.1)) (.cons ce .nil))) :=
  PE.imp (pe_callB call_isiT hg hm (by decide +kernel) (pa_cons he (pa_cons (pe_tup (pa_tys (p2 := fun _ => p) hx)) pa_nil (by rfl)) (star_cons hp)) (by decide) (by decide) (star_cons hp) (by rfl)) fun σ H Q ⟨m, ρ, s, R, E, h⟩ => by
    have h : Post X.K fa XR (Rp X.K fa) W σ H m ((evs F (.cons ce .nil) ρ s).bind fun ds s => prim (.isTy (xs.map fun q => q.2.1)) ds s) Q := h
    rw [evs1] at h
    refine ⟨m, ρ, s, R, E, (Post.bind (Re := Rp X.K fa) h).imp fun v H1 ⟨m1, d, s1, l1, R1, r1, _, h1⟩ => ?_⟩
    have h1 : Post X.K fa XR (Rp X.K fa) W σ H1 m1 (if dctD s1 d then .no else ob (tyOf d) (fun u => .bl (_ : Bool)) s1) Q := h1
    by_cases hd : dctD s1 d = true
    · rw [if_pos hd] at h1; exact h1.elim
    rw [if_neg hd] at h1
    obtain ⟨a, ha, h1⟩ := post_ob (o := tyOf d) (f := fun u => .bl ((xs.map fun q => q.2.1).any fun w => isA u w)) h1
    refine ⟨?_, fun tp hn => ?_⟩
    · rw [List.length_map, sizeLine_eq]
      exact hz
    · refine ⟨v, tp, xs.map fun q => V.ty (tyS q.2.1), .type (tyS a), (xs.map fun q => q.2.1).map fun u => Value.type (tyS u), _, rfl, upd_same, paired_tys, ?_, kit_any fun u hu => ?_, ?_⟩
      · exact tyx_of (R1.new hn) (r1.le (le_new hn)) hd ha
      · obtain ⟨q, hq, rfl⟩ := List.mem_map.mp hu
        exact (hx q hq).nn
      · exact h1 _ _ m1 (le_new hn) (R1.new hn) rfl
/-! ### len(set(..)) -/
theorem firsts_fold : ∀ (ns acc : List Int), firsts acc ns = ns.foldl PyProof.Rows.step_dedup acc
  | [], _ => rfl
  | n :: ns, acc => by
    show firsts (if acc.any (fun y => decide (y = n)) then acc else acc ++ [n]) ns = _
    rw [firsts_fold ns]
    rfl
theorem range_getD (ns : List Int) : (List.range ns.length).map (fun i => ns.getD i 0) = ns := by
  apply List.ext_getElem
  · simp
  · intro i h1 h2
    simp [List.getD_eq_getElem?_getD, List.getElem?_eq_getElem h2]
theorem firsts_met (ns : List Int) : PyProof.Rows.firstMet (fun i => ns.getD i 0) ns.length = firsts [] ns := by
  unfold PyProof.Rows.firstMet
  rw [range_getD, firsts_fold]
theorem sameIs_iff : ∀ {a b : List Int}, sameIs a b = true ↔ a = b
  | [], [] => ⟨fun _ => rfl, fun _ => rfl⟩
  | [], _ :: _ => ⟨fun h => (by cases h), fun h => (by cases h)⟩
  | _ :: _, [] => ⟨fun h => (by cases h), fun h => (by cases h)⟩
  | x :: r, y :: s => by
    show (decide (x = y) && sameIs r s) = true ↔ _
    rw [Bool.and_eq_true, decide_eq_true_eq, sameIs_iff]
    exact ⟨fun ⟨e1, e2⟩ => by rw [e1, e2], fun e => by cases e; exact ⟨rfl, rfl⟩⟩
theorem firstsT_ok : ∀ (ks acc : List (List Int)), acc.Nodup → (firstsT acc ks).Nodup ∧ ∀ k, k ∈ firstsT acc ks ↔ k ∈ acc ∨ k ∈ ks
  | [], acc, h => ⟨h, fun k => by simp [firstsT]⟩
  | x :: r, acc, h => by
    show (firstsT (if acc.any (fun y => sameIs y x) then acc else acc ++ [x]) r).Nodup ∧ ∀ k, k ∈ firstsT (if acc.any (fun y => sameIs y x) then acc else acc ++ [x]) r ↔ _
    by_cases hx : acc.any (fun y => sameIs y x) = true
    · rw [if_pos hx]
      obtain ⟨h1, h2⟩ := firstsT_ok r acc h
      refine ⟨h1, fun k => ?_⟩
      obtain ⟨y, hy, e⟩ := List.any_eq_true.mp hx
      rw [sameIs_iff] at e
      subst e
      rw [h2 k, List.mem_cons]
      exact ⟨fun z => z.elim .inl fun z => .inr (.inr z), fun z => z.elim .inl fun z => z.elim (fun e => .inl (e ▸ hy)) .inr⟩
    · rw [if_neg hx]
      have hn : x ∉ acc := fun z => hx (List.any_eq_true.mpr ⟨x, z, sameIs_iff.mpr rfl⟩)
      obtain ⟨h1, h2⟩ := firstsT_ok r (acc ++ [x]) (by
        rw [List.nodup_append]
        exact ⟨h, by simp, fun a ha b hb => by
          have e : b = x := by simpa using hb
          rw [e]
          exact fun z => hn (z ▸ ha)⟩)
      refine ⟨h1, fun k => ?_⟩
      rw [h2 k, List.mem_append, List.mem_singleton, List.mem_cons]
      exact ⟨fun z => z.elim (fun z => z.elim .inl fun e => .inr (.inl e)) fun z => .inr (.inr z), fun z => z.elim (fun z => .inl (.inl z)) fun z => z.elim (fun e => .inl (.inr e)) .inr⟩
theorem nodup_le {α : Type} [DecidableEq α] : ∀ {l r : List α}, l.Nodup → (∀ x ∈ l, x ∈ r) → l.length ≤ r.length
  | [], _, _, _ => Nat.zero_le _
  | a :: l, r, hn, h => by
    rw [List.nodup_cons] at hn
    have ha := h a (List.mem_cons_self ..)
    have := nodup_le (l := l) (r := r.erase a) hn.2 fun x hx => (List.mem_erase_of_ne (fun e : x = a => hn.1 (e ▸ hx))).mpr (h x (List.mem_cons_of_mem _ hx))
    rw [List.length_erase_of_mem ha] at this
    have : 0 < r.length := List.length_pos_of_mem ha
    rw [List.length_cons]
    omega
def tLenSet (K : PySem.W.Frag) (ta : TE) : TE := fun σ H Q => ta σ H fun x H1 => ∃ l, x = V.ref l ∧ ((∃ ns : List Int, SqL K H1 l (ns.map V.int) ∧ ns.length < 64 ∧ Q (.int (firsts [] ns).length) H1) ∨
  ∃ ks : List (Addr × List Int), SqL K H1 l (ks.map fun p => V.ref p.1) ∧ (∀ p ∈ ks, SqT K H1 p.1 (p.2.map V.int)) ∧ ks.length < 64 ∧ Q (.int (firstsT [] (ks.map (·.2))).length) H1)
theorem pe_lenSet {a : Expr} {ta : TE} {p p2 q pos : Pos} (hc : X.calm = true) (hu : X.A.units + 65 < cLine) (hg : Gl X "len") (hm : X.mg "len" = none) (hg2 : Gl X "set") (hm2 : X.mg "set" = none) (ha : PE X a ta)
    (na : starEach [a] X.env = (false, eval a X.env) :: starEach [] X.env) : PE X (.Call (.Name "len" p) [.Call (.Name "set" p2) [a] [] q] [] pos) (tLenSet X.K ta) := by
  refine ⟨fun pins s σ H Q I h => ?_⟩
  refine Call_ (ld_blt I hg hm PySem.boot_len ?_)
  refine PyProof.Rows.callWith_builtin1 (PyProof.Rows.args_cons ?_ rfl) rfl rfl
  refine Call_ (ld_blt I hg2 hm2 PyProof.Rows.boot_set ?_)
  refine PyProof.Rows.callWith_type1 (PyProof.Rows.args_cons (thn (ha.run pins s σ H _ I h) fun v s1 ⟨x, H1, I1, r1, q1⟩ => PyProof.Rows.args_nil ?_) na) na rfl
  obtain ⟨l, rfl, q1⟩ := q1
  cases r1
  rcases q1 with ⟨ns, hq, h1, q1⟩ | ⟨ks, hq, hk, h1, q1⟩
  · obtain ⟨its, r, pl, hz⟩ := I1.list hq
    have hl : its.toArray.size = ns.length := by rw [List.size_toArray, ← r.length, List.length_map]
    refine call_set_list (I1.ok.hd hc) pl.isList (ns := ns) (by simpa using r.ints) (by unfold scanBound; omega) fun h' tk hS hk => ?_
    rw [hl, firsts_met] at hS
    refine PyProof.Rows.args_nil ?_
    obtain ⟨o, es, ep, t, ho, hex, hd, _, _, _, hf, hn⟩ := hS
    have hle : (firsts [] ns).length ≤ ns.length := by
      rw [← firsts_met]
      exact PyProof.Rows.firstMet_length_le _ _
    have I2 : Inv X pins σ H1 { s1 with heap := h', toks := tk } := I1.kept fun b o e => hk b o (Heap.lt_size e) e
    exact call_len_set ho hex hd hf (by rw [hn] <;> omega) ⟨.int (firsts [] ns).length, H1, I2.tok _, ⟨_, by rw [hn]⟩, q1⟩
  · obtain ⟨its, rv, pl, hz⟩ := I1.list hq
    refine call_set_tups (P := X.prog) (w := X.w) ks (I1.ok.hd hc) pl.isList (by simpa using refs_of_vals rv) (fun p hp => I1.isT (hk p hp)) h1 (by omega) fun h' tk L es ep t R g k => ?_
    refine PyProof.Rows.args_nil ?_
    obtain ⟨o, ho, hex, hd⟩ := R.ob
    have I2 : Inv X pins σ H1 { s1 with heap := h', toks := tk } := I1.kept k
    have hlen : L.length = (firstsT [] (ks.map (·.2))).length := by
      obtain ⟨n1, n2⟩ := firstsT_ok (ks.map (·.2)) [] List.nodup_nil
      have e1 : (L.map (·.2)).length ≤ (firstsT [] (ks.map (·.2))).length := nodup_le R.nd fun x hx => by
        obtain ⟨p, hp, rfl⟩ := List.mem_map.mp hx
        exact (n2 _).mpr (.inr (List.mem_map.mpr ⟨p, List.mem_of_mem_take (g.sub p hp), rfl⟩))
      have e2 : (firstsT [] (ks.map (·.2))).length ≤ (L.map (·.2)).length := nodup_le n1 fun x hx => by
        rcases (n2 x).mp hx with z | z
        · cases z
        · obtain ⟨p, hp, rfl⟩ := List.mem_map.mp z
          exact g.all p (by rw [List.take_length]; exact hp)
      rw [List.length_map] at e1 e2
      omega
    have hs : es.size = L.length := SetTR.size (s := { s1 with heap := h', toks := tk }) R
    refine call_len_set ho hex hd (SetTR.fits (s := { s1 with heap := h', toks := tk }) R) (by have := R.few; omega) ⟨.int (firstsT [] (ks.map (·.2))).length, H1, I2.tok _, ⟨_, by rw [hs, hlen]⟩, q1⟩
theorem ints_rp {H : Hp} {m : List Addr} : ∀ {ds : List Mi.D} {vs : List V} {ns : List Int}, RpL X.K fa H m ds vs → intsOf ds = some ns → vs = ns.map V.int
  | [], _, _, r, h => by cases h; exact r
  | d :: ds, _, ns, r, h => by
    obtain ⟨v, w, rfl, r1, r2⟩ := r
    cases d with
    | int i =>
      cases r1
      have h : (match intsOf ds with | some is => some (i :: is) | none => none) = some ns := h
      cases e : intsOf ds with
      | none => rw [e] at h; cases h
      | some is =>
        rw [e] at h
        cases h
        rw [ints_rp r2 e]; rfl
    | _ => cases h
theorem tups_rp {H : Hp} {m : List Addr} : ∀ {ds : List Mi.D} {vs : List V} {ks : List (List Int)}, RpL X.K fa H m ds vs → tupsOf ds = some ks → ∃ ps : List (Addr × List Int), vs = ps.map (fun p => V.ref p.1) ∧ ps.map (·.2) = ks ∧ ∀ p ∈ ps, SqT X.K H p.1 (p.2.map V.int)
  | [], _, _, r, h => by cases h; exact ⟨[], r, rfl, fun p hp => by cases hp⟩
  | d :: ds, _, ks, r, h => by
    obtain ⟨v, w, rfl, r1, r2⟩ := r
    cases d with
    | tup xs =>
      obtain ⟨a, vs, rfl, hq, r3⟩ := r1
      have h : (match intsOf xs, tupsOf ds with | some is, some iss => some (is :: iss) | _, _ => none) = some ks := h
      cases e : intsOf xs with
      | none => rw [e] at h; cases h
      | some is =>
        cases e2 : tupsOf ds with
        | none => rw [e, e2] at h; cases h
        | some iss =>
          rw [e, e2] at h
          cases h
          obtain ⟨ps, q1, q2, q3⟩ := tups_rp r2 e2
          have hv := ints_rp r3 e
          subst hv
          exact ⟨(a, is) :: ps, by rw [q1]; rfl, by rw [List.map_cons, q2], fun p hp => by
            rcases List.mem_cons.mp hp with rfl | hp
            · exact hq
            · exact q3 p hp⟩
    | _ => cases h
theorem e_lenSet {e : Expr} {ce : CE} {p p2 q : Pos} (hc : X.calm = true) (hu : X.A.units + 65 < cLine) (hg : Gl X "len") (hm : X.mg "len" = none) (hg2 : Gl X "set") (hm2 : X.mg "set" = none) (he : PE X e (tI X.K fa XR F W ce)) (hp : plainE e = true) :
    PE X (.Call (.Name "len" p) [.Call (.Name "set" p2) [e] [] q] [] pos) (tI X.K fa XR F W (.prim .lenSet (.cons ce .nil))) :=
  PE.imp (pe_lenSet hc hu hg hm hg2 hm2 he (star_cons hp)) fun σ H Q ⟨m, ρ, s, R, E, h⟩ => by
    have h : Post X.K fa XR (Rp X.K fa) W σ H m ((evs F (.cons ce .nil) ρ s).bind fun ds s => prim .lenSet ds s) Q := h
    rw [evs1] at h
    refine ⟨m, ρ, s, R, E, (Post.bind (Re := Rp X.K fa) h).imp fun v H1 ⟨m1, d, s1, l1, R1, r1, _, h1⟩ => ?_⟩
    have h1 : Post X.K fa XR (Rp X.K fa) W σ H1 m1 (if isLst d then match itemsOf s1 d with
      | some xs => if xs.length < 64 then match intsOf xs with
        | some is => .ok (.int (firsts [] is).length) s1
        | none => match tupsOf xs with
          | some ks => .ok (.int (firstsT [] ks).length) s1
          | none => .no
        else .no
      | none => .no
      else .no) Q := h1
    split at h1
    · rename_i hl
      cases ei : itemsOf s1 d with
      | none => rw [ei] at h1; exact h1.elim
      | some xs =>
        rw [ei] at h1
        dsimp only at h1
        have hq : ∃ a vs, v = .ref a ∧ SqL X.K H1 a vs ∧ RpL X.K fa H1 m1 xs vs := by
          cases d with
          | lk ys =>
            cases ei
            obtain ⟨a, vs, rfl, hq, r⟩ := r1
            exact ⟨a, vs, rfl, hq.l, r⟩
          | ref n =>
            have ei : (match s1.l[n]? with | some (.lst xs) => some xs | _ => none) = some xs := ei
            cases ec : s1.l[n]? with
            | none => rw [ec] at ei; cases ei
            | some cl =>
              cases cl with
              | lst ys =>
                rw [ec] at ei
                cases ei
                obtain ⟨a, vs, rfl, hm, hu, r⟩ := cell_of R1 r1 ec
                exact ⟨a, vs, rfl, .inl (.inl hu), r⟩
              | dct ys => rw [ec] at ei; cases ei
          | _ => cases hl
        obtain ⟨a, vs, rfl, hq, r⟩ := hq
        split at h1
        · rename_i hz
          cases e1 : intsOf xs with
          | some is =>
            rw [e1] at h1
            have hv := ints_rp r e1
            subst hv
            exact ⟨a, rfl, .inl ⟨is, hq, by have := r.length; rw [List.length_map] at this; omega, post_ok h1 R1 rfl⟩⟩
          | none =>
            rw [e1] at h1
            cases e2 : tupsOf xs with
            | none => rw [e2] at h1; exact h1.elim
            | some ks =>
              rw [e2] at h1
              obtain ⟨ps, q1, q2, q3⟩ := tups_rp r e2
              subst q1
              subst q2
              exact ⟨a, rfl, .inr ⟨ps, hq, q3, by have := r.length; rw [List.length_map] at this; omega, post_ok h1 R1 rfl⟩⟩
        · exact h1.elim
    · exact h1.elim
end
end Mi

set_option linter.all false
set_option maxRecDepth 100000
set_option maxHeartbeats 4000000
namespace Mi
open PySem PySem.Spec PyProof.Rows L2

/-! ### calls by keywords alone -/
def permV {α : Type} (perm : List Nat) (ws : List α) : List α := if ws.length = perm.length then perm.filterMap fun i => ws[i]? else []
structure KB0 (K : PySem.W.Frag) (fd : FuncData) (ps ks : List Str) (perm : List Nat) : Prop where
  to : ∀ (s : Shared) (ws : List Value), K.In s.heap → (permV perm ws).length = ps.length → BindsTo s fd ⟨[], ks.zip ws⟩ (ps.zip (permV perm ws))
theorem perm_vals {perm : List Nat} {zs : List V} {ws : List Value} (r : Vals zs ws) : Vals (permV perm zs) (permV perm ws) := by
  have key : ∀ l : List Nat, Vals (l.filterMap fun i => zs[i]?) (l.filterMap fun i => ws[i]?) := by
    intro l
    induction l with
    | nil => exact .nil
    | cons i l ih =>
      rw [List.filterMap_cons, List.filterMap_cons]
      cases e : zs[i]? with
      | none =>
        rw [r.none_of e]
        exact ih
      | some z =>
        obtain ⟨u, e2, r2⟩ := r.get e
        rw [e2]
        exact .cons r2 ih
  unfold permV
  rw [r.length]
  split
  · exact key perm
  · exact .nil
section
variable {X : Cx} {fa : Nat → Option Addr} {XR : Nat → List D → Value → Option Addr → Hp → List Addr → Prop} {F : Funs} {W : WX} {pos : Pos} {kws : List Keyword} {t : TA} {ces : CEs}
theorem PK.imp {t' : TA} (h : PK X kws t) (hi : ∀ σ H Q, t' σ H Q → t σ H Q) : PK X kws t' := ⟨fun pos pins s σ H Q I q => h.run pos pins s σ H Q I (hi σ H Q q)⟩
theorem k_nil : PK X [] (tA X.K fa XR F W .nil) := PK.imp pk_nil fun σ H Q ⟨m, ρ, s, R, E, h⟩ => h [] H m Le.refl R rfl
theorem k_cons {e : Expr} {ce : CE} {nm : Option Str} {kp : Pos} (he : PE X e (tI X.K fa XR F W ce)) (hes : PK X kws (tA X.K fa XR F W ces)) : PK X (⟨nm, e, kp⟩ :: kws) (tA X.K fa XR F W (.cons ce ces)) :=
  PK.imp (pk_cons he hes) fun σ H Q ⟨m, ρ, s, R, E, h⟩ => by
    have h : Post X.K fa XR (RpL X.K fa) W σ H m ((ev F ce ρ s).bind fun d s => (evs F ces ρ s).bind fun ds s => .ok (d :: ds) s) Q := h
    refine ⟨m, ρ, s, R, E, (Post.bind (Re := Rp X.K fa) h).imp fun x H1 ⟨m1, d, s1, l1, R1, r1, _, h1⟩ => ?_⟩
    refine ⟨m1, ρ, s1, R1, E.le l1, (Post.bind (Re := RpL X.K fa) h1).imp fun xs H2 ⟨m2, ds, s2, l2, R2, r2, _, h2⟩ => ?_⟩
    exact h2 (x :: xs) H2 m2 Le.refl R2 ⟨x, xs, rfl, r1.le l2, r2⟩
def tCallKw (sp : Sp) (perm : List Nat) (E : L2.St → XK) (tk : TA) : TE := fun σ H Q => tk σ H fun zs H2 => sp (permV perm zs) H2 Q (E σ)
theorem pe_callKw {CXv : CXT} {k : Nat} {f : Addr} {fd : FuncData} {ps ks : List Str} {perm : List Nat} {sp : Sp} {E : L2.St → XK} {x : Str} {p : Pos} (Fo : FnOk X.prog X.w X.K X.mg X.base CXv k f fd ps sp) (hr : Room k X.A) (hg : Gl X x) (hm : X.mg x = some (.ref f)) (hk : PySem.W.keepIn X.K (.ref f) = true)
    (hb : KB0 X.K fd ps ks perm) (hx : ∀ σ, PassesAt CXv X σ (E σ)) (hkw : PK X kws t) (hall : (backToKw pos (keywordEach kws X.env)).all (·.1.isSome) = true) (hks : (backToKw pos (keywordEach kws X.env)).filterMap (·.1) = ks) (hdb : (x == ("__debug__" : Str)) = false)
    (hpl : ((backTo pos (starEach [] X.env)).any (·.1) || (backToKw pos (keywordEach kws X.env)).any (·.1.isNone)) = false) : PE X (.Call (.Name x p) [] kws pos) (tCallKw sp perm E t) := by
  refine ⟨fun pins s σ H Q I h => ?_⟩
  refine wpAny_Call_Name_kw (ld_glob I hg hm ?_ hdb)
  refine PySem.W.callWith_KW0 (h₀ := X.base) I.ok.mod.kin hk hall (thn (hkw.run pos pins s σ H _ I h) fun ws s1 ⟨zs, H1, I1, rz, q⟩ => ⟨I1.kIn, ?_⟩) hpl
  rw [hks]
  have r2 := perm_vals (perm := perm) rz
  have hl : (permV perm ws).length = ps.length := by rw [← r2.length]; exact Fo.len _ _ _ _ q
  refine wpAny_call (codeAny_mono (Fo.run X.A X.stack s1 H1 ⟨[], ks.zip ws⟩ (permV perm ws) (permV perm zs) Q (E σ) hr I1.env0 (hb.to s1 ws I1.kIn hl) r2 q) fun r s' hq => ?_)
  cases r with
  | error e => exact hx σ pins H1 s1 e s' I1 hq
  | ok fl =>
    cases fl with
    | ret u => exact I1.after hq
    | next => exact False.elim hq
    | brk => exact False.elim hq
    | cont => exact False.elim hq
theorem permG_rp {H : Hp} {m : List Addr} {ds : List Mi.D} {vs : List V} (r : RpL X.K fa H m ds vs) : ∀ {perm : List Nat} {ds' : List Mi.D}, permG perm ds = some ds' → RpL X.K fa H m ds' (perm.filterMap fun i => vs[i]?)
  | [], _, h => by cases h; rfl
  | i :: perm, ds', h => by
    have h : (match ds[i]?, permG perm ds with | some d, some q => some (d :: q) | _, _ => none) = some ds' := h
    cases e : ds[i]? with
    | none => rw [e] at h; cases h
    | some d =>
      cases e2 : permG perm ds with
      | none => rw [e, e2] at h; cases h
      | some q =>
        rw [e, e2] at h
        cases h
        obtain ⟨v, h1, h2⟩ := r.get e
        rw [List.filterMap_cons, h1]
        exact ⟨v, _, rfl, h2, permG_rp r e2⟩
theorem e_callp {k f n : Nat} {fA : Addr} {fd : FuncData} {ps ks : List Str} {perm : List Nat} {x : Str} {p : Pos} (Fo : FnOk X.prog X.w X.K X.mg X.base (L2.CX X.prog X.w) k fA fd ps (spI X.K fa XR F f n)) (hr : Room k X.A) (hg : Gl X x) (hm : X.mg x = some (.ref fA))
    (hk : PySem.W.keepIn X.K (.ref fA) = true) (hb : KB0 X.K fd ps ks perm) (tk : Takes X W) (hn : ∀ ds s, F f ds s ≠ .no → ds.length = n) (hkw : PK X kws (tA X.K fa XR F W ces)) (hall : (backToKw pos (keywordEach kws X.env)).all (·.1.isSome) = true)
    (hks : (backToKw pos (keywordEach kws X.env)).filterMap (·.1) = ks) (hdb : (x == ("__debug__" : Str)) = false) (hpl : ((backTo pos (starEach [] X.env)).any (·.1) || (backToKw pos (keywordEach kws X.env)).any (·.1.isNone)) = false) :
    PE X (.Call (.Name x p) [] kws pos) (tI X.K fa XR F W (.callp f perm ces)) :=
  PE.imp (pe_callKw Fo hr hg hm hk hb (fun σ => passAt tk σ) hkw hall hks hdb hpl) fun σ H Q ⟨m, ρ, s, R, E, h⟩ => by
    refine ⟨m, ρ, s, R, E, (Post.bind (Re := RpL X.K fa) (f := fun ds s => match permD perm ds with
      | some ds' => F f ds' s
      | none => .no) h).imp fun xs H1 ⟨m1, ds, s1, l1, R1, r1, _, h1⟩ => ?_⟩
    cases e : permD perm ds with
    | none => rw [e] at h1; exact h1.elim
    | some ds' =>
      rw [e] at h1
      unfold permD at e
      split at e
      · rename_i hl
        have r2 := permG_rp r1 e
        have e3 : permV perm xs = perm.filterMap fun i => xs[i]? := by
          unfold permV
          rw [if_pos (by rw [← r1.length]; exact hl.symm)]
        rw [← e3] at r2
        refine ⟨?_, m1, s1, ds', R1, r2, post_w h1 fun _ _ _ z => z⟩
        rw [← r2.length]
        have h1 : Post X.K fa XR (Rp X.K fa) W σ H1 m1 (F f ds' s1) Q := h1
        exact hn ds' s1 fun z => by
          rw [z] at h1
          exact h1
      · cases e
/-! ### calls of a value -/
structure HeldF (X : Cx) (fa : Nat → Option Addr) (XR : Nat → List D → Value → Option Addr → Hp → List Addr → Prop) (F : Funs) (k : Nat) (i : Nat) (f : Addr) : Prop where
  ex : ∃ fd ps n, PySem.W.keepIn X.K (.ref f) = true ∧ Binds X.K fd ps [] ∧ FnOk X.prog X.w X.K X.mg X.base (L2.CX X.prog X.w) k f fd ps (spI X.K fa XR F i n) ∧ ∀ ds s, F i ds s ≠ .no → ds.length = n
def tCallV (X : Cx) (k : Nat) (E : L2.St → XK) (tf : TE) (t : TA) : TE := fun σ H Q => tf σ H fun v H1 => ∃ f fd ps sp, v = .ref f ∧ PySem.W.keepIn X.K (.ref f) = true ∧ Binds X.K fd ps [] ∧ FnOk X.prog X.w X.K X.mg X.base (L2.CX X.prog X.w) k f fd ps sp ∧ t σ H1 fun vs H2 => sp vs H2 Q (E σ)
theorem pe_callVal {k : Nat} {fe e : Expr} {es : List Expr} {tf : TE} {E : L2.St → XK} (hr : Room k X.A) (hf : PE X fe tf) (hx : ∀ σ, PassesAt (L2.CX X.prog X.w) X σ (E σ)) (ha : PA X (e :: es) t)
    (he : starEach (e :: es) X.env = (false, eval e X.env) :: starEach es X.env) (hpl : (backTo pos (starEach es X.env)).any (·.1) = false)
    (ht : eval (.Call fe (e :: es) [] pos) X.env = (do callWith pos (← eval fe X.env) [] (backTo pos (starEach (e :: es) X.env)) (backToKw pos (keywordEach [] X.env)))) : PE X (.Call fe (e :: es) [] pos) (tCallV X k E tf t) := by
  refine ⟨fun pins s σ H Q I h => ?_⟩
  refine Call_ (thn (hf.run pins s σ H _ I h) fun u s1 ⟨x, H1, I1, r1, f, fd, ps, sp, ex, hk, hb, Fo, q⟩ => ?_) ht
  subst ex
  cases r1
  refine PySem.W.callWith_K (h₀ := X.base) I.ok.mod.kin hk (thn (ha.run pos pins s1 σ H1 _ I1 q) fun us s2 ⟨vs, H2, I2, r, q2⟩ => ⟨I2.kIn, ?_⟩) he hpl
  exact run_fnS Fo hr hb (hx σ) I2 r q2
theorem pe_callVal0 {k : Nat} {fe : Expr} {tf : TE} {E : L2.St → XK} (hr : Room k X.A) (hf : PE X fe tf) (hx : ∀ σ, PassesAt (L2.CX X.prog X.w) X σ (E σ))
    (ht : eval (.Call fe [] [] pos) X.env = (do callWith pos (← eval fe X.env) [] (backTo pos (starEach [] X.env)) (backToKw pos (keywordEach [] X.env)))) : PE X (.Call fe [] [] pos) (tCallV X k E tf tNil) := by
  refine ⟨fun pins s σ H Q I h => ?_⟩
  refine Call_ (thn (hf.run pins s σ H _ I h) fun u s1 ⟨x, H1, I1, r1, f, fd, ps, sp, ex, hk, hb, Fo, q⟩ => ?_) ht
  subst ex
  cases r1
  exact PySem.W.callWith_K0 I1.kIn hk (run_fnS (us := []) Fo hr hb (hx σ) I1 .nil q)
theorem ti_callv {k : Nat} {oks : List Nat} {ce : CE} {σ : L2.St} {H : Hp} {Q : VK} (h : tI X.K fa XR F W (.callv oks ce ces) σ H Q) (hF : ∀ i f, oks.contains i = true → fa i = some f → HeldF X fa XR F k i f) :
    tCallV X k (WE W) (tI X.K fa XR F W ce) (tA X.K fa XR F W ces) σ H Q := by
  obtain ⟨m, ρ, s, R, E, h⟩ := h
  refine ⟨m, ρ, s, R, E, (Post.bind (Re := Rp X.K fa) (f := fun d s => match d with
    | .fn f => if oks.contains f then (evs F ces ρ s).bind fun ds s => F f ds s else .no
    | _ => .no) h).imp fun v H1 ⟨m1, d, s1, l1, R1, r1, _, h1⟩ => ?_⟩
  cases d with
  | fn i =>
    obtain ⟨f, rfl, ef⟩ := r1
    dsimp only at h1
    split at h1
    · rename_i ho
      obtain ⟨fd, ps, n, hk, hb, Fo, hn⟩ := (hF i f ho ef).ex
      refine ⟨f, fd, ps, _, rfl, hk, hb, Fo, m1, ρ, s1, R1, E.le l1, (Post.bind (Re := RpL X.K fa) (f := fun ds s => F i ds s) h1).imp fun xs H2 ⟨m2, ds, s2, l2, R2, r2, _, h2⟩ => ⟨?_, m2, s2, ds, R2, r2, post_w h2 fun _ _ _ z => z⟩⟩
      rw [← r2.length]
      exact hn ds s2 fun z => by
        rw [z] at h2
        exact h2
    · exact h1.elim
  | _ => exact h1.elim
theorem e_callv {k : Nat} {oks : List Nat} {fe e : Expr} {es : List Expr} {ce : CE} (hr : Room k X.A) (hf : PE X fe (tI X.K fa XR F W ce)) (hF : ∀ i f, oks.contains i = true → fa i = some f → HeldF X fa XR F k i f) (tk : Takes X W) (ha : PA X (e :: es) (tA X.K fa XR F W ces)) (hp : (e :: es).all plainE = true)
    (ht : eval (.Call fe (e :: es) [] pos) X.env = (do callWith pos (← eval fe X.env) [] (backTo pos (starEach (e :: es) X.env)) (backToKw pos (keywordEach [] X.env)))) : PE X (.Call fe (e :: es) [] pos) (tI X.K fa XR F W (.callv oks ce ces)) := by
  rw [List.all_cons, Bool.and_eq_true] at hp
  exact PE.imp (pe_callVal hr hf (fun σ => passAt tk σ) ha (star_cons hp.1) (back_any hp.2) ht) fun _ _ _ h => ti_callv h hF
theorem e_callv0 {k : Nat} {oks : List Nat} {fe : Expr} {ce : CE} (hr : Room k X.A) (hf : PE X fe (tI X.K fa XR F W ce)) (hF : ∀ i f, oks.contains i = true → fa i = some f → HeldF X fa XR F k i f) (tk : Takes X W)
    (ht : eval (.Call fe [] [] pos) X.env = (do callWith pos (← eval fe X.env) [] (backTo pos (starEach [] X.env)) (backToKw pos (keywordEach [] X.env)))) : PE X (.Call fe [] [] pos) (tI X.K fa XR F W (.callv oks ce .nil)) :=
  PE.imp (pe_callVal0 hr hf (fun σ => passAt tk σ) ht) fun σ H Q h => by
    obtain ⟨m, ρ, s, R, E, h⟩ := ti_callv h hF
    refine ⟨m, ρ, s, R, E, h.imp fun v H1 ⟨f, fd, ps, sp, e1, e2, e3, e4, q⟩ => ⟨f, fd, ps, sp, e1, e2, e3, e4, ?_⟩⟩
    obtain ⟨m1, ρ1, s1, R1, E1, q⟩ := q
    exact q [] H1 m1 Le.refl R1 rfl
end
end Mi

set_option linter.all false
set_option maxRecDepth 100000
set_option maxHeartbeats 4000000
namespace Mi
open PySem PySem.Spec PyProof.Rows L2

/-! ### from the text to the short program -/
structure Tb where
  /-- defs: number, parameters -/
  fns : List (Str × Nat × Nat)
  cons : List (Str × D)
  /-- classes that are raised, without arguments -/
  excs : List (Str × Nat)
  /-- classes in except clauses: those that they take, the fields' names -/
  hnd : List (Str × List Nat × List Str)
  /-- built-ins that the module does not shadow -/
  blt : List Str
  /-- built-in classes that every caught error is of -/
  isx : List Str
  /-- calls by keywords alone: the name, the keywords, where each parameter's value stands among them -/
  kws : List (Str × List Str × List Nat)
  /-- defs that are called by value -/
  oks : List Nat
  /-- tables of the module by numbers -/
  tabs : List (Str × List (Int × D))
def slotOf : List Str → Str → Nat → Option Nat
  | [], _, _ => none
  | y :: r, x, k => if y = x then some k else slotOf r x (k + 1)
theorem slotOf_ok : ∀ {N : List Str} {x : Str} {k i : Nat}, slotOf N x k = some i → ∃ j, i = k + j ∧ N[j]? = some x
  | [], _, _, _, h => by cases h
  | y :: r, x, k, i, h => by
    unfold slotOf at h
    split at h
    · rename_i e
      cases h
      exact ⟨0, rfl, by simp [e]⟩
    · obtain ⟨j, e, h2⟩ := slotOf_ok h
      exact ⟨j + 1, by omega, by simpa using h2⟩
theorem slot_ok {N : List Str} {x : Str} {i : Nat} (h : slotOf N x 0 = some i) : N[i]? = some x := by
  obtain ⟨j, e, h2⟩ := slotOf_ok h
  rw [show i = j by omega]; exact h2
def visB (sc : Scope) (x : Str) : Bool := match sc.names.lookup x with
  | some .local => true
  | some .cell => true
  | some .free => true
  | _ => false
def locB (sc : Scope) (x : Str) : Bool := match sc.names.lookup x with
  | some .local => true
  | some .cell => true
  | _ => false
def glB (sc : Scope) (x : Str) : Bool := match sc.names.lookup x with
  | some .globalImplicit => true
  | _ => false
def okName (x : Str) : Bool := !(x == ("__debug__" : Str)) && !(x == ("__classdict__" : Str)) && !decide (x = ("__name__" : Str))
def binP : Operator → Option Prim
  | .Add => some .add | .Sub => some .sub | .Mult => some .mul | .FloorDiv => some .fdiv | .Mod => some .mod | .Pow => some .pow
  | _ => none
def cmpP : CmpOp → Option Prim
  | .Eq => some .eq | .NotEq => some .ne | .Lt => some .lt | .LtE => some .le | .Gt => some .gt | .GtE => some .ge | .Is => some .isN | .IsNot => some .notN | .In => some .inn | .NotIn => some .notin
/-- built-ins by name -/
inductive BI where
  | len | abs | sum | all | any | int | list | tuple | min | max
def BI.name : BI → Str
  | .len => "len" | .abs => "abs" | .sum => "sum" | .all => "all" | .any => "any" | .int => "int" | .list => "list" | .tuple => "tuple" | .min => "min" | .max => "max"
def BI.prim : BI → Prim
  | .len => .len | .abs => .abs | .sum => .sum | .all => .all | .any => .any | .int => .toInt | .list => .listOf | .tuple => .tupleOf | .min => .min2 | .max => .max2
def biAll : List (Str × BI) := [("len", .len), ("abs", .abs), ("sum", .sum), ("all", .all), ("any", .any), ("int", .int), ("list", .list), ("tuple", .tuple), ("min", .min), ("max", .max)]
def noSet : Expr → Bool
  | .Set _ _ _ => false
  | _ => true
theorem noSet_mark {op : CmpOp} {b : Expr} (h : noSet b = true) : behindInMarks op b = false := by cases b <;> first | rfl | cases h
theorem noSet_fold {e : Expr} {env : PySem.Env} {x : Value} (h : noSet e = true) : foldedSetIterable e env x = pure x := by cases e <;> first | rfl | cases h
def cName (T : Tb) (N : List Str) (sc : Scope) (x : Str) : Option CE :=
  if okName x then if visB sc x then (slotOf N x 0).map CE.var else if glB sc x then match T.cons.lookup x with
    | some d => some (.con d)
    | none => match T.fns.lookup x with
      | some (i, _) => some (.con (.fn i))
      | none => none
  else none else none
def isTuple : Expr → Bool
  | .Tuple _ _ _ => true
  | _ => false
mutual
def cG (N : List Str) : Nat → Scope → Expr → Option CT
  | 0, _, _ => none
  | n + 1, sc, e => match e with
    | .Name x _ => if locB sc x then (slotOf N x 0).map CT.name else none
    | .Tuple ts _ _ => (cGs N n sc ts).map CT.tup
    | _ => none
def cGs (N : List Str) : Nat → Scope → List Expr → Option CTs
  | 0, _, _ => none
  | _ + 1, _, [] => some .nil
  | n + 1, sc, e :: es => match cG N n sc e, cGs N n sc es with
    | some t, some ts => some (.cons t ts)
    | _, _ => none
end
def ownOf (N : List Str) : List (Str × NameKind) → List (Str × Nat)
  | [] => []
  | (x, .local) :: r => match slotOf N x 0 with
    | some i => (x, i) :: ownOf N r
    | none => ownOf N r
  | (x, .cell) :: r => match slotOf N x 0 with
    | some i => (x, i) :: ownOf N r
    | none => ownOf N r
  | _ :: r => ownOf N r
def valTest : Expr → Bool
  | .UnaryOp .Not _ _ => false
  | .BoolOp _ _ _ => false
  | .IfExp _ _ _ _ => false
  | .Compare _ _ _ _ => false
  | _ => true
/-- how a call of a name is told -/
inductive CK where
  | def_ (i : Nat) | bi (b : BI) | no
def callK (T : Tb) (sc : Scope) (x : Str) (n : Nat) : CK :=
  if okName x && glB sc x then match T.fns.lookup x with
    | some (i, ar) => if ar = n then .def_ i else .no
    | none => match biAll.lookup x with
      | some b => if T.blt.contains x then .bi b else .no
      | none => .no
  else .no
def kwOf (x : Str) (ks : List Str) : List (Str × List Str × List Nat) → Option (List Nat)
  | [] => none
  | (y, ls, p) :: r => if y = x ∧ ls = ks then some p else kwOf x ks r
theorem kwOf_mem {x : Str} {ks : List Str} {p : List Nat} : ∀ {l : List (Str × List Str × List Nat)}, kwOf x ks l = some p → (x, ks, p) ∈ l
  | [], h => by cases h
  | (y, ls, q) :: r, h => by
    unfold kwOf at h
    split at h
    · rename_i e
      cases h
      rw [e.1, e.2]
      exact List.mem_cons_self
    · exact List.mem_cons_of_mem _ (kwOf_mem h)
def rngK (T : Tb) (sc : Scope) (x y : Str) : Bool := okName x && glB sc x && decide (x = y) && T.blt.contains x
/-- written names of built-in types -/
def tysOf (T : Tb) (sc : Scope) : List Expr → Option (List (Str × Ty × Pos))
  | [] => some []
  | .Name x p :: r => if rngK T sc x x then match tyN.lookup x, tysOf T sc r with
    | some t, some l => some ((x, t, p) :: l)
    | _, _ => none
    else none
  | _ :: _ => none
/-- the slots of the first clause and those behind it -/
def headVs : CLs → List Nat
  | .nil => []
  | .cons _ _ _ _ vs _ => vs
/-- a table of the module, by its name -/
def tabOf (T : Tb) (sc : Scope) : Expr → Option (Str × List (Int × D))
  | .Name x _ => if okName x && glB sc x then (T.tabs.lookup x).map fun t => (x, t) else none
  | _ => none
/-- not super() -/
def notSuper : Expr → Bool
  | .Call (.Name _ _) [] [] _ => false
  | _ => true
theorem base_ok {o : Expr} {nm : Str} {env : PySem.Env} {whole : Sem Value} (h : notSuper o = true) : attributeBase o nm env whole = whole := by
  unfold attributeBase
  split
  · cases h
  · rfl
inductive SpK where
  | isTy (ts : List Ty) | lenSet (a : Expr) | no
/-- calls that are told apart: isinstance(e, ..), len(set(e)) -/
def spK (T : Tb) (sc : Scope) (x : Str) (e : Expr) (es : List Expr) : SpK :=
  if rngK T sc x "isinstance" && plainE e then match es with
    | [.Name tn p] => match tysOf T sc [.Name tn p] with
      | some l => .isTy (l.map fun q => q.2.1)
      | none => .no
    | [.Tuple ts _ _] => match tysOf T sc ts with
      | some l => if l.length ≤ 16777216 then .isTy (l.map fun q => q.2.1) else .no
      | none => .no
    | _ => .no
  else if rngK T sc x "len" then match e, es with
    | .Call (.Name y _) [a] [] _, [] => if rngK T sc y "set" && plainE a then .lenSet a else .no
    | _, _ => .no
  else .no
mutual
def cE (T : Tb) (N : List Str) : Nat → Bool → Scope → Expr → Option CE
  | 0, _, _, _ => none
  | n + 1, c, sc, e => match e with
    | .Constant (.int i) _ _ => some (.con (.int i))
    | .Constant (.bool b) _ _ => some (.con (.bl b))
    | .Constant .none _ _ => some (.con .non)
    | .Constant (.str x) _ _ => some (.con (.str x))
    | .Name x _ => cName T N sc x
    | .BinOp a op b _ => match binP op, cE T N n c sc a, cE T N n c sc b with
      | some p, some ca, some cb => some (.prim p (.cons ca (.cons cb .nil)))
      | _, _, _ => none
    | .UnaryOp .USub a _ => match cE T N n c sc a with
      | some ca => some (.prim .neg (.cons ca .nil))
      | none => none
    | .UnaryOp .Not a _ => match cE T N n c sc a with
      | some ca => some (.not ca)
      | none => none
    | .BoolOp _ [a] _ => cE T N n c sc a
    | .BoolOp .And (a :: b :: r) p => match cE T N n c sc a, cE T N n c sc (.BoolOp .And (b :: r) p) with
      | some ca, some cb => some (.and ca cb)
      | _, _ => none
    | .BoolOp .Or (a :: b :: r) p => match cE T N n c sc a, cE T N n c sc (.BoolOp .Or (b :: r) p) with
      | some ca, some cb => some (.or ca cb)
      | _, _ => none
    | .IfExp t a b _ => match cT T N n c sc t, cE T N n c sc a, cE T N n c sc b with
      | some ct, some ca, some cb => some (.ite ct ca cb)
      | _, _, _ => none
    | .Compare a [op] [b] _ => if noSet b && c then match cmpP op, cE T N n c sc a, cE T N n c sc b with
      | some p, some ca, some cb => some (.prim p (.cons ca (.cons cb .nil)))
      | _, _, _ => none
      else none
    | .Compare a [op, op'] [b, d] _ => if noSet d && c then match cmpP op, cmpP op', cE T N n c sc a, cE T N n c sc b, cE T N n c sc d with
      | some p, some q, some ca, some cb, some cd => some (.chain p q ca cb cd)
      | _, _, _, _, _ => none
      else none
    | .Tuple es _ _ => match cEs T N n c sc es with
      | some ces => some (.prim .tup ces)
      | none => none
    | .List es _ => match cEs T N n c sc es with
      | some ces => some (.prim .lst ces)
      | none => none
    | .Subscript a (.Slice (some l) none none _) _ => match cE T N n c sc a, cE T N n c sc l with
      | some ca, some cl => some (.prim .slFrom (.cons ca (.cons (chk cl) .nil)))
      | _, _ => none
    | .Subscript a (.Slice none (some l) none _) _ => match cE T N n c sc a, cE T N n c sc l with
      | some ca, some cl => some (.prim .slTo (.cons ca (.cons (chk cl) .nil)))
      | _, _ => none
    | .Subscript a (.Slice (some l) (some h) none _) _ => match cE T N n c sc a, cE T N n c sc l, cE T N n c sc h with
      | some ca, some cl, some ch => some (.prim .sl (.cons ca (.cons (chk cl) (.cons (chk ch) .nil))))
      | _, _, _ => none
    | .Subscript a (.Slice none none (some (.UnaryOp .USub (.Constant (.int 1) _ _) _)) _) _ => match cE T N n c sc a with
      | some ca => some (.prim .rev (.cons ca .nil))
      | none => none
    | .Subscript a b _ => if noSlice b then match tabOf T sc a with
      | some (_, tab) => match cE T N n c sc b with
        | some cb => some (.kget tab cb)
        | none => none
      | none => match cE T N n c sc a, cE T N n c sc b with
        | some ca, some cb => some (.prim .ix (.cons ca (.cons cb .nil)))
        | _, _ => none
      else none
    | .Dict [] [] _ => some (.prim .dnew .nil)
    | .Call (.Attribute o nm apos) [e, f] [] cpos => if c && plainE e && plainE f && (apos.endLine == cpos.line) && notSuper o then
      if nm = "get" then match cE T N n c sc o, cE T N n c sc e, cE T N n c sc f with
        | some co, some ce, some cf => some (.dgetd co ce cf)
        | _, _, _ => none
      else if nm = "setdefault" then match e with
        | .Tuple es _ _ => match cE T N n c sc o, cEs T N n c sc es, cE T N n c sc f with
          | some co, some ces, some cf => some (.dsetd co ces cf)
          | _, _, _ => none
        | _ => none
      else none
      else none
    | .Call (.Name x _) [] [] _ => if c then match callK T sc x 0 with
      | .def_ i => some (.call i .nil)
      | _ => none
      else none
    | .Call (.Name x _) [] (kw :: kws) _ => if c && okName x && glB sc x && (kw :: kws).all (fun q => q.arg.isSome) then match T.fns.lookup x, kwOf x ((kw :: kws).filterMap fun q => q.arg) T.kws, cEs T N n c sc ((kw :: kws).map fun q => q.value) with
      | some (i, _), some perm, some ces => some (.callp i perm ces)
      | _, _, _ => none
      else none
    | .Call (.Subscript o ix p) [] [] _ => if c then match cE T N n c sc (.Subscript o ix p) with
      | some ce => some (.callv T.oks ce .nil)
      | none => none
      else none
    | .Call (.Subscript o ix p) (e :: es) [] _ => if c && (e :: es).all plainE then match cE T N n c sc (.Subscript o ix p), cEs T N n c sc (e :: es) with
      | some ce, some ces => some (.callv T.oks ce ces)
      | _, _ => none
      else none
    | .Call (.Name x _) (e :: es) [] _ => match (if c then spK T sc x e es else .no) with
      | .isTy ts => match cE T N n c sc e with
        | some ce => some (.prim (.isTy ts) (.cons ce .nil))
        | none => none
      | .lenSet a => match cE T N n c sc a with
        | some ce => some (.prim .lenSet (.cons ce .nil))
        | none => none
      | .no => if c && (e :: es).all plainE then match callK T sc x (es.length + 1), cEs T N n c sc (e :: es) with
      | .def_ i, some ces => some (.call i ces)
      | .bi b, some ces => some (.prim b.prim ces)
      | _, _ => none
      else if !c && rngK T sc x "isinstance" && plainE e then match es with
        | [.Name tn _] => if T.isx.contains tn && rngK T sc tn tn then match cE T N n c sc e with
          | some ce => some (.prim .isExc (.cons ce .nil))
          | none => none
          else none
        | _ => none
      else none
    | .ListComp elt [⟨tg, iter, [], 0⟩] scope _ => match cI T N n c sc tg iter, cG N n scope tg, cE T N n c (relS scope sc) elt with
      | some (src, ces), some ct, some ce => if c && noSet iter && blkC N sc scope (ownOf N scope.names) && ct.slots.all (fun i => ((ownOf N scope.names).map (·.2)).contains i) then
        some (.comp ce ct src ces (.con (.bl true)) ((ownOf N scope.names).map (·.2))) else none
      | _, _, _ => none
    | .ListComp elt [⟨tg, iter, [t], 0⟩] scope _ => match cI T N n c sc tg iter, cG N n scope tg, cE T N n c (relS scope sc) elt, cT T N n c (relS scope sc) t with
      | some (src, ces), some ct, some ce, some cc => if c && noSet iter && blkC N sc scope (ownOf N scope.names) && ct.slots.all (fun i => ((ownOf N scope.names).map (·.2)).contains i) then
        some (.comp ce ct src ces cc ((ownOf N scope.names).map (·.2))) else none
      | _, _, _, _ => none
    | .ListComp elt (⟨tg, iter, ifs, 0⟩ :: g1 :: gs) scope _ => match cI T N n c sc tg iter, cG N n scope tg, cE T N n c (relS scope sc) elt, cF T N n c (relS scope sc) ifs, cC T N n c (relS scope sc) scope (g1 :: gs) with
      | some (src, ces), some ct, some ce, some cc, some rc => if c && noSet iter && blkC N sc scope (ownOf N scope.names) && ct.slots.all (fun i => ((ownOf N scope.names).map (·.2)).contains i) && (headVs rc).all (fun i => ((ownOf N scope.names).map (·.2)).contains i) then
        some (.compN ce ct src ces cc rc ((ownOf N scope.names).map (·.2))) else none
      | _, _, _, _, _ => none
    | _ => none
/-- the tests of a clause -/
def cF (T : Tb) (N : List Str) : Nat → Bool → Scope → List Expr → Option CE
  | 0, _, _, _ => none
  | _ + 1, _, _, [] => some (.con (.bl true))
  | n + 1, c, sc, [t] => cT T N n c sc t
  | _, _, _, _ => none
/-- the clauses behind the first -/
def cC (T : Tb) (N : List Str) : Nat → Bool → Scope → Scope → List Comprehension → Option CLs
  | 0, _, _, _, _ => none
  | _ + 1, _, _, _, [] => some .nil
  | n + 1, c, sc, scope, ⟨tg, iter, ifs, 0⟩ :: gs => if noSet iter then match cI T N n c sc tg iter, cG N n scope tg, cF T N n c sc ifs, cC T N n c sc scope gs with
    | some (src, ces), some ct, some cc, some rc => some (.cons ct src ces cc (ct.slots ++ headVs rc) rc)
    | _, _, _, _ => none
    else none
  | _, _, _, _, _ => none
def cT (T : Tb) (N : List Str) : Nat → Bool → Scope → Expr → Option CE
  | 0, _, _, _ => none
  | n + 1, c, sc, e => match e with
    | .UnaryOp .Not a _ => match cT T N n c sc a with
      | some ca => some (.not ca)
      | none => none
    | .BoolOp _ [a] _ => cT T N n c sc a
    | .BoolOp .And (a :: b :: r) p => match cT T N n c sc a, cT T N n c sc (.BoolOp .And (b :: r) p) with
      | some ca, some cb => some (.and ca cb)
      | _, _ => none
    | .BoolOp .Or (a :: b :: r) p => match cT T N n c sc a, cT T N n c sc (.BoolOp .Or (b :: r) p) with
      | some ca, some cb => some (.or ca cb)
      | _, _ => none
    | .Compare a [op] [b] _ => if noSet b && c then match cmpP op, cE T N n c sc a, cE T N n c sc b with
      | some p, some ca, some cb => some (.prim p (.cons ca (.cons cb .nil)))
      | _, _, _ => none
      else none
    | .Compare a [op, op'] [b, d] _ => if noSet d && c then match cmpP op, cmpP op', cE T N n c sc a, cE T N n c sc b, cE T N n c sc d with
      | some p, some q, some ca, some cb, some cd => some (.chain p q ca cb cd)
      | _, _, _, _, _ => none
      else none
    | e => if valTest e then cE T N n c sc e else none
def cEs (T : Tb) (N : List Str) : Nat → Bool → Scope → List Expr → Option CEs
  | 0, _, _, _ => none
  | _ + 1, _, _, [] => some .nil
  | n + 1, c, sc, e :: es => if plainE e then match cE T N n c sc e, cEs T N n c sc es with
    | some ce, some ces => some (.cons ce ces)
    | _, _ => none
    else none
def cI (T : Tb) (N : List Str) : Nat → Bool → Scope → Expr → Expr → Option (Src × CEs)
  | 0, _, _, _, _ => none
  | n + 1, c, sc, tg, e => match e with
    | .Call (.Name x _) [a] [] _ => if rngK T sc x "range" && plainE a then match cE T N n c sc a with
        | some ca => some (.rng1, .cons ca .nil)
        | none => none
      else if rngK T sc x "enumerate" && plainE a && isTuple tg then match cE T N n c sc a with
        | some ca => some (.enum, .cons ca .nil)
        | none => none
      else match cE T N n c sc e with
        | some ce => some (.seq, .cons ce .nil)
        | none => none
    | .Call (.Name x _) [a, b] [] _ => if rngK T sc x "range" && plainE a && plainE b then match cE T N n c sc a, cE T N n c sc b with
        | some ca, some cb => some (.rng2, .cons ca (.cons cb .nil))
        | _, _ => none
      else if rngK T sc x "zip" && plainE a && plainE b && isTuple tg then match cE T N n c sc a, cE T N n c sc b with
        | some ca, some cb => some (.zip, .cons ca (.cons cb .nil))
        | _, _ => none
      else match cE T N n c sc e with
        | some ce => some (.seq, .cons ce .nil)
        | none => none
    | .Call (.Name x _) [a, b, d] [] _ => if rngK T sc x "zip" && plainE a && plainE b && plainE d && isTuple tg then match cE T N n c sc a, cE T N n c sc b, cE T N n c sc d with
        | some ca, some cb, some cd => some (.zip3, .cons ca (.cons cb (.cons cd .nil)))
        | _, _, _ => none
      else match cE T N n c sc e with
        | some ce => some (.seq, .cons ce .nil)
        | none => none
    | e => match cE T N n c sc e with
      | some ce => some (.seq, .cons ce .nil)
      | none => none
end
end Mi

set_option linter.all false
set_option maxRecDepth 100000
set_option maxHeartbeats 4000000
namespace Mi
open PySem PySem.Spec PyProof.Rows L2

/-- the values of the module's names -/
structure GoodV (T : Tb) (K : PySem.W.Frag) (mg : Str → Option Value) (fa : Nat → Option Addr) : Prop where
  con : ∀ x d, T.cons.lookup x = some d → ∃ u v, mg x = some u ∧ RelV v u ∧ ∀ H m, Rp K fa H m d v
  fnv : ∀ x i ar, T.fns.lookup x = some (i, ar) → ∃ f, mg x = some (.ref f) ∧ fa i = some f
  blt : ∀ x, T.blt.contains x = true → mg x = none
  tab : ∀ x tab, T.tabs.lookup x = some tab → ∃ t f, mg x = some (.ref t) ∧ KTab K t f ∧ ∀ i d, tabAt tab i = some d → ∃ u v, f i = some u ∧ RelV v u ∧ ∀ H m, Rp K fa H m d v
/-- the defs keep their promises -/
structure GoodC (T : Tb) (P : Program) (w : World) (K : PySem.W.Frag) (mg : Str → Option Value) (base : Heap) (k : Nat) (fa : Nat → Option Addr) (XR : Nat → List D → Value → Option Addr → Hp → List Addr → Prop) (F : Funs) : Prop where
  fn : ∀ x i ar, T.fns.lookup x = some (i, ar) → ∃ f fd ps, mg x = some (.ref f) ∧ PySem.W.keepIn K (.ref f) = true ∧ Binds K fd ps [] ∧ FnOk P w K mg base (L2.CX P w) k f fd ps (spI K fa XR F i ar) ∧ (∀ ds s, F i ds s ≠ .no → ds.length = ar) ∧ ∀ ks perm, (x, ks, perm) ∈ T.kws → KB0 K fd ps ks perm
  val : ∀ i, T.oks.contains i = true → ∃ x ar, T.fns.lookup x = some (i, ar)
/-- where one stands; c: not within an except clause -/
structure XOk (T : Tb) (N : List Str) (c : Bool) (sc ssc : Scope) (k : Nat) (fa : Nat → Option Addr) (XR : Nat → List D → Value → Option Addr → Hp → List Addr → Prop) (F : Funs) (X : Cx) (W : WX) : Prop where
  hN : X.N = N
  nd : N.Nodup
  hsc : X.env.scope = sc
  val : GoodV T X.K X.mg fa
  cal : c = true → X.calm = true ∧ Room k X.A ∧ GoodC T X.prog X.w X.K X.mg X.base k fa XR F
  sto : ∀ x, locB ssc x = true → L2.Loc X.env.scope x ∧ (X.fn x = true ∨ X.env.scope.names.lookup x = some .local)
  takes : Takes X W
  iso : c = false → ∀ (e : Expr) (ce : CE) (tn : Str) (p p2 pos : Pos), T.isx.contains tn = true → rngK T sc tn tn = true → Gl X "isinstance" → X.mg "isinstance" = none → PE X e (tI X.K fa XR F W ce) → plainE e = true →
    PE X (.Call (.Name "isinstance" p) [e, .Name tn p2] [] pos) (tI X.K fa XR F W (.prim .isExc (.cons ce .nil)))
theorem takesF {X : Cx} : Takes X W0 := takes0
section
variable {T : Tb} {N : List Str} {k : Nat} {fa : Nat → Option Addr} {XR : Nat → List D → Value → Option Addr → Hp → List Addr → Prop} {F : Funs}
theorem vis_of {sc : Scope} {x : Str} (h : visB sc x = true) : L2.Vis sc x := by
  unfold visB at h
  unfold L2.Vis
  cases e : sc.names.lookup x with
  | none => rw [e] at h; cases h
  | some q => rw [e] at h; cases q <;> first | exact .inl rfl | exact .inr (.inl rfl) | exact .inr (.inr rfl) | cases h
theorem loc_of {sc : Scope} {x : Str} (h : locB sc x = true) : L2.Loc sc x := by
  unfold locB at h
  unfold L2.Loc
  cases e : sc.names.lookup x with
  | none => rw [e] at h; cases h
  | some q => rw [e] at h; cases q <;> first | exact .inl rfl | exact .inr rfl | cases h
theorem gl_of {X : Cx} {sc : Scope} {x : Str} (hs : X.env.scope = sc) (h : glB sc x = true) : Gl X x := by
  unfold glB at h
  show X.env.scope.names.lookup x = _
  rw [hs]
  cases e : sc.names.lookup x with
  | none => rw [e] at h; cases h
  | some q => rw [e] at h; cases q <;> first | rfl | cases h
theorem okN {x : Str} (h : okName x = true) : (x == ("__debug__" : Str)) = false ∧ (x == ("__classdict__" : Str)) = false ∧ x ≠ "__name__" := by
  unfold okName at h
  rw [Bool.and_eq_true, Bool.and_eq_true, Bool.not_eq_true', Bool.not_eq_true', Bool.not_eq_true', decide_eq_false_iff_not] at h
  exact ⟨h.1.1, h.1.2, h.2⟩
theorem sound_name {c : Bool} {sc ssc : Scope} {X : Cx} {W : WX} {x : Str} {p : Pos} {ce : CE} (O : XOk T N c sc ssc k fa XR F X W) (h : cName T N sc x = some ce) : PE X (.Name x p) (tI X.K fa XR F W ce) := by
  unfold cName at h
  split at h
  · rename_i ho
    obtain ⟨h1, h2, h3⟩ := okN ho
    split at h
    · rename_i hv
      cases e : slotOf N x 0 with
      | none => rw [e] at h; cases h
      | some i =>
        rw [e] at h
        cases h
        exact e_var (pe_var (by rw [O.hN]; exact slot_ok e) (by rw [O.hsc]; exact vis_of hv) h1 h2)
    · split at h
      · rename_i hg
        split at h
        · rename_i d hd
          cases h
          obtain ⟨u, v, hm, r, q⟩ := O.val.con x d hd
          exact e_con (pe_glob (gl_of O.hsc hg) hm r h1) q
        · split at h
          · rename_i i ar hf
            cases h
            obtain ⟨f, hm, q⟩ := O.val.fnv x i ar hf
            exact e_con (v := .ref f) (pe_glob (gl_of O.hsc hg) hm rfl h1) fun _ _ => ⟨f, rfl, q⟩
          · cases h
      · cases h
  · cases h
theorem sound_g : ∀ (n : Nat), (∀ {c : Bool} {sc ssc : Scope} {X : Cx} {W : WX} {e : Expr} {ct : CT}, XOk T N c sc ssc k fa XR F X W → c = true → cG N n ssc e = some ct → PG X e (gI X.K fa ct) ∧ plainT e = true) ∧
    (∀ {c : Bool} {sc ssc : Scope} {X : Cx} {W : WX} {es : List Expr} {cts : CTs}, XOk T N c sc ssc k fa XR F X W → c = true → cGs N n ssc es = some cts → PGs X es (gsI X.K fa cts) ∧ es.all plainT = true ∧ es.length = cts.len) := by
  intro n
  induction n with
  | zero => exact ⟨fun _ _ h => (by cases h), fun _ _ h => (by cases h)⟩
  | succ n ih =>
    refine ⟨fun {c sc ssc X W e ct} O hc h => ?_, fun {c sc ssc X W es cts} O hc h => ?_⟩
    · unfold cG at h
      split at h
      · rename_i x p
        split at h
        · rename_i hl
          cases e : slotOf N x 0 with
          | none => rw [e] at h; cases h
          | some i =>
            rw [e] at h
            cases h
            exact ⟨g_name (by rw [O.hN]; exact O.nd) (by rw [O.hN]; exact slot_ok e) (O.sto x hl).1 (O.sto x hl).2, rfl⟩
        · cases h
      · rename_i ts kk p
        cases e : cGs N n ssc ts with
        | none => rw [e] at h; cases h
        | some cts =>
          rw [e] at h
          cases h
          obtain ⟨g, hp, hl⟩ := ih.2 O hc e
          exact ⟨g_tup (O.cal hc).1 g hp hl, rfl⟩
      · cases h
    · cases es with
      | nil => cases h; exact ⟨gs_nil, rfl, rfl⟩
      | cons e es =>
        unfold cGs at h
        split at h
        · rename_i t ts h1 h2
          cases h
          obtain ⟨g1, p1⟩ := ih.1 O hc h1
          obtain ⟨g2, p2, l2⟩ := ih.2 O hc h2
          exact ⟨gs_cons g1 g2 p1, by rw [List.all_cons, p1, p2]; rfl, by rw [List.length_cons, l2]; rfl⟩
        · cases h
theorem sound_bin {X : Cx} {op : Operator} {p : Prim} (h : binP op = some p) : OpR X (binaryOp op) (oR X.K fa XR p) := by
  cases op <;> cases h
  · exact o_add
  · exact o_sub
  · exact o_mul
  · exact o_mod
  · exact o_pow
  · exact o_fdiv
theorem sound_cmp {X : Cx} {op : CmpOp} {p : Prim} (hu : X.A.units + 65 < cLine) (h : cmpP op = some p) : OpR X (compareOp op) (oR X.K fa XR p) ∧ isCmp p = true := by
  cases op <;> cases h
  · exact ⟨o_eq (by omega), rfl⟩
  · exact ⟨o_ne (by omega), rfl⟩
  · exact ⟨o_lt (by omega), rfl⟩
  · exact ⟨o_le, rfl⟩
  · exact ⟨o_gt, rfl⟩
  · exact ⟨o_ge, rfl⟩
  · exact ⟨o_isN, rfl⟩
  · exact ⟨o_notN, rfl⟩
  · exact ⟨o_in hu, rfl⟩
  · exact ⟨o_notin hu, rfl⟩
theorem units_of {A : Around} (r : Room k A) : A.units + 65 < cLine := by have := r.un; omega
theorem callK_def {sc : Scope} {x : Str} {n i : Nat} (h : callK T sc x n = .def_ i) : okName x = true ∧ glB sc x = true ∧ ∃ ar, T.fns.lookup x = some (i, ar) ∧ ar = n := by
  unfold callK at h
  split at h
  · rename_i ho
    rw [Bool.and_eq_true] at ho
    split at h
    · rename_i j ar hf
      split at h
      · rename_i e
        cases h
        exact ⟨ho.1, ho.2, ar, hf, e⟩
      · cases h
    · split at h
      · split at h <;> cases h
      · cases h
  · cases h
theorem callK_bi {sc : Scope} {x : Str} {n : Nat} {b : BI} (h : callK T sc x n = .bi b) : okName x = true ∧ glB sc x = true ∧ biAll.lookup x = some b ∧ T.blt.contains x = true := by
  unfold callK at h
  split at h
  · rename_i ho
    rw [Bool.and_eq_true] at ho
    split at h
    · split at h <;> cases h
    · split at h
      · rename_i b' hb
        split at h
        · rename_i hc
          cases h
          exact ⟨ho.1, ho.2, hb, hc⟩
        · cases h
      · cases h
  · cases h
theorem lookup_mem {α : Type} : ∀ {l : List (Str × α)} {x : Str} {a : α}, l.lookup x = some a → (x, a) ∈ l
  | [], _, _, h => by cases h
  | (y, b) :: r, x, a, h => by
    rw [List.lookup_cons] at h
    split at h
    · rename_i e
      cases h
      rw [beq_iff_eq] at e
      rw [e]
      exact List.mem_cons_self
    · exact List.mem_cons_of_mem _ (lookup_mem h)
theorem bi_name {x : Str} {b : BI} (h : biAll.lookup x = some b) : x = b.name := by
  have m := lookup_mem h
  simp only [biAll, List.mem_cons, List.mem_nil_iff, or_false, Prod.mk.injEq] at m
  rcases m with ⟨rfl, rfl⟩ | ⟨rfl, rfl⟩ | ⟨rfl, rfl⟩ | ⟨rfl, rfl⟩ | ⟨rfl, rfl⟩ | ⟨rfl, rfl⟩ | ⟨rfl, rfl⟩ | ⟨rfl, rfl⟩ | ⟨rfl, rfl⟩ | ⟨rfl, rfl⟩ <;> rfl
theorem sound_bi {c : Bool} {sc ssc : Scope} {X : Cx} {W : WX} {x : Str} {p pos : Pos} {e : Expr} {es : List Expr} {ces : CEs} {b : BI} {n : Nat} (O : XOk T N c sc ssc k fa XR F X W) (hc : c = true) (h : callK T sc x n = .bi b) (hp : (e :: es).all plainE = true) (ha : PA X (e :: es) (tA X.K fa XR F W ces)) :
    PE X (.Call (.Name x p) (e :: es) [] pos) (tI X.K fa XR F W (.prim b.prim ces)) := by
  obtain ⟨ho, hg, hb, hl⟩ := callK_bi h
  obtain ⟨h1, _, h3⟩ := okN ho
  have hm := O.val.blt x hl
  have hG := gl_of O.hsc hg
  have calm := (O.cal hc).1
  have e := bi_name hb
  subst e
  cases b with
  | len => exact e_bi c_len hG hm (by decide +kernel) ha h3 h1 hp
  | abs => exact e_bi c_abs hG hm (by decide +kernel) ha h3 h1 hp
  | sum => exact e_bi (c_sum calm) hG hm (by decide +kernel) ha h3 h1 hp
  | all => exact e_bi (c_all calm) hG hm (by decide +kernel) ha h3 h1 hp
  | any => exact e_bi (c_any calm) hG hm (by decide +kernel) ha h3 h1 hp
  | int => exact e_ty c_int hG hm (by decide +kernel) ha h3 h1 hp
  | list => exact e_ty c_list hG hm (by decide +kernel) ha h3 h1 hp
  | tuple => exact e_ty c_tuple hG hm (by decide +kernel) ha h3 h1 hp
  | min => exact e_bi (c_min2 (by have := units_of (O.cal hc).2.1; omega) calm) hG hm (by decide +kernel) ha h3 h1 hp
  | max => exact e_bi (c_max2 calm) hG hm (by decide +kernel) ha h3 h1 hp
end
end Mi

set_option linter.all false
set_option maxRecDepth 100000
set_option maxHeartbeats 8000000
namespace Mi
open PySem PySem.Spec PyProof.Rows L2

section
variable {T : Tb} {N : List Str} {k : Nat} {fa : Nat → Option Addr} {XR : Nat → List D → Value → Option Addr → Hp → List Addr → Prop} {F : Funs}
theorem relS_lookup {scope sc : Scope} {x : Str} : ∀ {l : List (Str × NameKind)}, (l.lookup x = some .local ∨ l.lookup x = some .cell) →
    (l.map fun (n, k) => if (k == .free && sc.kind == .function && sc.names.lookup n == some .cell) then (n, NameKind.cell) else (n, k)).lookup x = l.lookup x
  | [], h => by rcases h with h | h <;> cases h
  | (y, q) :: r, h => by
    rw [List.map_cons]
    by_cases e : x = y
    · subst e
      have hl : List.lookup x ((x, q) :: r) = some q := by rw [List.lookup_cons, beq_self_eq_true]
      rw [hl] at h ⊢
      have hq : q ≠ .free := by
        rintro rfl
        rcases h with h | h <;> cases h
      have hn : (q == NameKind.free) = false := by cases q <;> first | rfl | exact absurd rfl hq
      simp only [hn, Bool.false_and, Bool.false_eq_true, if_false]
      rw [List.lookup_cons, beq_self_eq_true]
    · have hb : (x == y) = false := beq_eq_false_iff_ne.mpr e
      have hl : List.lookup x ((y, q) :: r) = List.lookup x r := by rw [List.lookup_cons, hb]
      rw [hl] at h ⊢
      rw [← relS_lookup (sc := sc) (scope := scope) h]
      dsimp only
      split
      · rw [List.lookup_cons, hb]
      · rw [List.lookup_cons, hb]
/-- in a comprehension's block -/
theorem XOk.blk {c : Bool} {sc ssc : Scope} {X : Cx} {W : WX} (O : XOk T N c sc ssc k fa XR F X W) (hc : c = true) (s : Shared) (H : Hp) (scope : Scope) (C : Addr) (cl : List (Str × Addr)) (fp : List Addr) :
    XOk T N c (relS scope sc) scope k fa XR F (X.blk s H scope (compEnvC scope cl C X.env) fp) W0 where
  hN := O.hN
  nd := O.nd
  hsc := by
    show relabel scope X.env = relS scope sc
    rw [← O.hsc]
    rfl
  val := O.val
  cal := fun h => ⟨(O.cal h).1, (O.cal h).2.1, ⟨(O.cal h).2.2.fn, (O.cal h).2.2.val⟩⟩
  sto := fun x h => by
    have hx := loc_of h
    have e : (relabel scope X.env).names.lookup x = scope.names.lookup x := relS_lookup (scope := scope) (sc := X.env.scope) hx
    rcases hx with z | z
    · exact ⟨.inl (e.trans z), .inr (e.trans z)⟩
    · exact ⟨.inr (e.trans z), .inl (by show (scope.names.lookup x == some .cell) = true; rw [z]; rfl)⟩
  takes := takes0
  iso := fun z => by rw [hc] at z; cases z
theorem rng_of {sc ssc : Scope} {c : Bool} {X : Cx} {W : WX} {x y : Str} (O : XOk T N c sc ssc k fa XR F X W) (h : rngK T sc x y = true) : x = y ∧ Gl X x ∧ X.mg x = none := by
  unfold rngK at h
  rw [Bool.and_eq_true, Bool.and_eq_true, Bool.and_eq_true, decide_eq_true_eq] at h
  exact ⟨h.1.2, gl_of O.hsc h.1.1.2, O.val.blt x h.2⟩
theorem valTest_true {e : Expr} {env : PySem.Env} (h : valTest e = true) : ∀ whole, isTrue e env whole = (do let v ← whole; standAt e.pos; PySem.holding [v] (truthy v)) := fun whole => by
  cases e with
  | UnaryOp op a p => cases op <;> first | rfl | cases h
  | BoolOp _ _ _ => cases h
  | IfExp _ _ _ _ => cases h
  | Compare _ _ _ _ => cases h
  | _ => rfl
theorem tup_target {tg : Expr} (h : isTuple tg = true) : ∃ es kk p, tg = .Tuple es kk p := by
  cases tg <;> first | exact ⟨_, _, _, rfl⟩ | cases h
def boolE : Expr → Bool
  | .BoolOp _ _ _ => true
  | _ => false
theorem mem_lookup {α : Type} : ∀ {l : List (Str × α)} {x : Str} {a : α}, l.lookup x = some a → (x, a) ∈ l := lookup_mem
theorem tysOf_ok {sc ssc : Scope} {c : Bool} {X : Cx} {W : WX} (O : XOk T N c sc ssc k fa XR F X W) : ∀ {es : List Expr} {l : List (Str × Ty × Pos)}, tysOf T sc es = some l → es = l.map (fun q => .Name q.1 q.2.2) ∧ ∀ q ∈ l, TyNm X q.1 q.2.1
  | [], l, h => by cases h; exact ⟨rfl, fun q hq => by cases hq⟩
  | e :: r, l, h => by
    cases e with
    | Name x p =>
      have h : (if rngK T sc x x then match tyN.lookup x, tysOf T sc r with
        | some t, some l => some ((x, t, p) :: l)
        | _, _ => none
        else none) = some l := h
      split at h
      · rename_i hr
        obtain ⟨_, hg, hm⟩ := rng_of O hr
        cases e1 : tyN.lookup x with
        | none => rw [e1] at h; cases h
        | some t =>
          cases e2 : tysOf T sc r with
          | none => rw [e1, e2] at h; cases h
          | some l2 =>
            rw [e1, e2] at h
            cases h
            obtain ⟨q1, q2⟩ := tysOf_ok O e2
            exact ⟨by rw [q1]; rfl, fun q hq => by
              rcases List.mem_cons.mp hq with rfl | hq
              · exact tyNm_of (lookup_mem e1) hg hm
              · exact q2 q hq⟩
      · cases h
    | _ => cases h
theorem few_two {e f : Expr} {p : Pos} {env : PySem.Env} (h : plainE e = true) (h2 : plainE f = true) : ((backTo p (starEach [e, f] env)).all (fun x => !x.1) && (backToKw p (keywordEach [] env)).all (fun x => x.1.isSome)
      && decide ([e, f].length + ([] : List Keyword).length + (if ([] : List Keyword).isEmpty then 0 else 1) < 30)) = true := by
  rw [star_cons h, star_cons h2]; rfl
theorem two_trees {e f : Expr} {p : Pos} {env : PySem.Env} (h : plainE e = true) (h2 : plainE f = true) : backTo p (starEach [e, f] env) = [(false, eval e env), (false, eval f env)] := by
  rw [star_cons h, star_cons h2]; rfl
theorem tabOf_ok {sc : Scope} {a : Expr} {y : Str} {tab : List (Int × D)} (h : tabOf T sc a = some (y, tab)) : ∃ x p, a = .Name x p ∧ okName x = true ∧ glB sc x = true ∧ T.tabs.lookup x = some tab := by
  cases a with
  | Name x p =>
    have h : (if okName x && glB sc x then (T.tabs.lookup x).map fun t => (x, t) else none) = some (y, tab) := h
    split at h
    · rename_i hb
      rw [Bool.and_eq_true] at hb
      cases e : T.tabs.lookup x with
      | none => rw [e] at h; cases h
      | some t =>
        rw [e] at h
        exact ⟨x, p, rfl, hb.1, hb.2, by rw [e]; exact congrArg (fun q => some q.2) (Option.some.inj h)⟩
    · cases h
  | _ => cases h
theorem sp_c {c : Bool} {s r : SpK} (h : (if c then s else .no) = r) (hr : r ≠ .no) : c = true ∧ s = r := by
  cases c with
  | true => exact ⟨rfl, h⟩
  | false => exact absurd h.symm hr
theorem sound_isTy {c : Bool} {sc ssc : Scope} {X : Cx} {W : WX} {x : Str} {e : Expr} {es : List Expr} {ts : List Ty} {ce : CE} {p pos : Pos} (O : XOk T N c sc ssc k fa XR F X W) (h : spK T sc x e es = .isTy ts) (he : PE X e (tI X.K fa XR F W ce)) :
    PE X (.Call (.Name x p) (e :: es) [] pos) (tI X.K fa XR F W (.prim (.isTy ts) (.cons ce .nil))) := by
  unfold spK at h
  split at h
  · rename_i hb
    rw [Bool.and_eq_true] at hb
    obtain ⟨e1, hg, hm⟩ := rng_of O hb.1
    subst e1
    split at h
    · rename_i tn p2
      split at h
      · rename_i l hl
        cases h
        obtain ⟨q1, q2⟩ := tysOf_ok O hl
        cases l with
        | nil => cases q1
        | cons q r =>
          cases r with
          | nil =>
            obtain ⟨qx, qt, qp⟩ := q
            cases q1
            exact e_isTy1 hg hm (q2 _ (List.mem_cons_self ..)) he hb.2
          | cons q2 r => cases q1
      · cases h
    · rename_i ts' kk p2
      split at h
      · rename_i l hl
        split at h
        · rename_i hz
          cases h
          obtain ⟨q1, q2⟩ := tysOf_ok O hl
          subst q1
          exact e_isTyN hz hg hm q2 he hb.2
        · cases h
      · cases h
    · cases h
  · split at h
    · split at h
      · split at h <;> cases h
      · cases h
    · cases h
theorem sound_lenSet {c : Bool} {sc ssc : Scope} {X : Cx} {W : WX} {x : Str} {e a : Expr} {es : List Expr} {ce : CE} {p pos : Pos} (O : XOk T N c sc ssc k fa XR F X W) (hc : c = true) (h : spK T sc x e es = .lenSet a) (he : PE X a (tI X.K fa XR F W ce)) :
    PE X (.Call (.Name x p) (e :: es) [] pos) (tI X.K fa XR F W (.prim .lenSet (.cons ce .nil))) := by
  unfold spK at h
  split at h
  · split at h
    · split at h <;> cases h
    · split at h
      · split at h <;> cases h
      · cases h
    · cases h
  · split at h
    · rename_i hl
      obtain ⟨e1, hg, hm⟩ := rng_of O hl
      subst e1
      split at h
      · rename_i y p1 a' q
        split at h
        · rename_i hb
          rw [Bool.and_eq_true] at hb
          cases h
          obtain ⟨e2, hg2, hm2⟩ := rng_of O hb.1
          subst e2
          exact e_lenSet (O.cal hc).1 (units_of (O.cal hc).2.1) hg hm hg2 hm2 he hb.2
        · cases h
      · cases h
    · cases h
theorem kw_all {kws : List Keyword} {env : PySem.Env} {pos : Pos} (h : kws.all (fun q => q.arg.isSome) = true) : (backToKw pos (keywordEach kws env)).all (·.1.isSome) = true ∧ (backToKw pos (keywordEach kws env)).filterMap (·.1) = kws.filterMap (fun q => q.arg) ∧ (backToKw pos (keywordEach kws env)).any (·.1.isNone) = false := by
  induction kws with
  | nil => exact ⟨rfl, rfl, rfl⟩
  | cons q r ih =>
    rw [List.all_cons, Bool.and_eq_true] at h
    obtain ⟨h1, h2, h3⟩ := ih h.2
    obtain ⟨nm, e, kp⟩ := q
    cases nm with
    | none => cases h.1
    | some x =>
      refine ⟨?_, ?_, ?_⟩
      · show (true && (backToKw pos (keywordEach r env)).all (·.1.isSome)) = true
        rw [h1]; rfl
      · show x :: (backToKw pos (keywordEach r env)).filterMap (·.1) = x :: r.filterMap (fun q => q.arg)
        rw [h2]
      · show (false || (backToKw pos (keywordEach r env)).any (·.1.isNone)) = false
        rw [h3]; rfl
theorem heldF_of {c : Bool} {sc ssc : Scope} {X : Cx} {W : WX} (O : XOk T N c sc ssc k fa XR F X W) (hc : c = true) (i : Nat) (f : Addr) (hi : T.oks.contains i = true) (hf : fa i = some f) : HeldF X fa XR F k i f := by
  obtain ⟨x, ar, hx⟩ := (O.cal hc).2.2.val i hi
  obtain ⟨fA, fd, ps, hm, hkp, hb, Fo, hn, _⟩ := (O.cal hc).2.2.fn _ _ _ hx
  obtain ⟨f2, hm2, hf2⟩ := O.val.fnv _ _ _ hx
  rw [hm] at hm2
  cases hm2
  rw [hf] at hf2
  cases hf2
  exact ⟨fd, ps, ar, hkp, hb, Fo, hn⟩
/-- the clauses' readings -/
def mkCls (K : PySem.W.Frag) (fa : Nat → Option Addr) (XR : Nat → List D → Value → Option Addr → Hp → List Addr → Prop) (F : Funs) : CLs → List Comprehension → List Cl
  | .cons ct src ces cond vs r, ⟨tg, iter, ifs, _⟩ :: gs => ⟨tg, iter, ifs, srcI K fa XR F W0 src ces, gI K fa ct, tT K fa XR F W0 cond, vs⟩ :: mkCls K fa XR F r gs
  | _, _ => []
theorem ts_yes {X : Cx} : PTs X [] (tT X.K fa XR F W0 (.con (.bl true))) := ⟨fun pins s σ H Q I h => by
  obtain ⟨m, ρ, s', R, E, h⟩ := h
  exact pts_nil.run pins s σ H Q I (h true H m Le.refl R rfl)⟩
theorem cC_cons {n : Nat} {c : Bool} {sc ssc : Scope} {tg iter : Expr} {ifs : List Expr} {a : Int} {gs : List Comprehension} {rc : CLs} (h : cC T N (n + 1) c sc ssc (⟨tg, iter, ifs, a⟩ :: gs) = some rc) :
    a = 0 ∧ (if noSet iter then match cI T N n c sc tg iter, cG N n ssc tg, cF T N n c sc ifs, cC T N n c sc ssc gs with
        | some (src, ces), some ct, some cc, some rc => some (CLs.cons ct src ces cc (ct.slots ++ headVs rc) rc)
        | _, _, _, _ => none
        else none) = some rc := by
  by_cases ha : a = 0
  · subst ha
    exact ⟨rfl, h⟩
  · exfalso
    unfold cC at h
    split at h <;> first
      | (cases h; done)
      | (rename_i e; injection e with e1 e2; injection e1 with e3 e4 e5 e6; exact ha e6)
      | (rename_i e0 e; injection e with e1 e2; injection e1 with e3 e4 e5 e6; exact ha e6)
      | (rename_i e; cases e)
theorem cC_shape (K : PySem.W.Frag) : ∀ (n : Nat) {c : Bool} {sc ssc : Scope} {gs : List Comprehension} {rc : CLs}, cC T N n c sc ssc gs = some rc → gs = (mkCls K fa XR F rc gs).map Cl.c ∧ ClsM K fa XR F rc (mkCls K fa XR F rc gs) ∧ nestVs (mkCls K fa XR F rc gs) ∧ vsOf (mkCls K fa XR F rc gs) = headVs rc := by
  intro n
  induction n with
  | zero => intro c sc ssc gs rc h; cases h
  | succ n ih =>
    intro c sc ssc gs rc h
    match gs, h with
    | [], h => cases h; exact ⟨rfl, .nil, trivial, rfl⟩
    | ⟨tg, iter, ifs, a⟩ :: gs, h =>
      obtain ⟨e0, h7⟩ := cC_cons h
      subst e0
      split at h7
      · split at h7
        · rename_i src ces ct cc rc' h1 h2 h3 h4
          cases h7
          obtain ⟨q1, q2, q3, q4⟩ := ih h4
          refine ⟨?_, .cons (fun i hi => List.mem_append_left _ hi) q2, ⟨fun i hi => ?_, q3⟩, rfl⟩
          · show (⟨tg, iter, ifs, 0⟩ : Comprehension) :: gs = ⟨tg, iter, ifs, 0⟩ :: (mkCls K fa XR F rc' gs).map Cl.c
            rw [← q1]
          · rw [q4] at hi
            exact List.mem_append_right _ hi
        · cases h7
      · cases h7
/-- the statements, at one depth -/
structure SoundN (T : Tb) (N : List Str) (k : Nat) (fa : Nat → Option Addr) (XR : Nat → List D → Value → Option Addr → Hp → List Addr → Prop) (F : Funs) (n : Nat) : Prop where
  sE : ∀ {c : Bool} {sc ssc : Scope} {X : Cx} {W : WX} {e : Expr} {ce : CE}, XOk T N c sc ssc k fa XR F X W → cE T N n c sc e = some ce → PE X e (tI X.K fa XR F W ce)
  sT : ∀ {c : Bool} {sc ssc : Scope} {X : Cx} {W : WX} {e : Expr} {ce : CE}, XOk T N c sc ssc k fa XR F X W → cT T N n c sc e = some ce → PT X e (tT X.K fa XR F W ce) ∧ (boolE e = true → PW X e (tT X.K fa XR F W ce))
  sA : ∀ {c : Bool} {sc ssc : Scope} {X : Cx} {W : WX} {es : List Expr} {ces : CEs}, XOk T N c sc ssc k fa XR F X W → cEs T N n c sc es = some ces → PA X es (tA X.K fa XR F W ces)
  sK : ∀ {c : Bool} {sc ssc : Scope} {X : Cx} {W : WX} {kws : List Keyword} {ces : CEs}, XOk T N c sc ssc k fa XR F X W → cEs T N n c sc (kws.map fun q => q.value) = some ces → PK X kws (tA X.K fa XR F W ces)
  sF : ∀ {c : Bool} {sc ssc : Scope} {X : Cx} {ifs : List Expr} {cc : CE}, XOk T N c sc ssc k fa XR F X W0 → cF T N n c sc ifs = some cc → PTs X ifs (tT X.K fa XR F W0 cc)
  sC : ∀ {c : Bool} {sc ssc : Scope} {X : Cx} {gs : List Comprehension} {rc : CLs}, c = true → XOk T N c sc ssc k fa XR F X W0 → cC T N n c sc ssc gs = some rc → ∀ cl ∈ mkCls X.K fa XR F rc gs, ClOk X cl
  sI : ∀ {c : Bool} {sc ssc : Scope} {X : Cx} {W : WX} {tg e : Expr} {src : Src} {ces : CEs}, XOk T N c sc ssc k fa XR F X W → cI T N n c sc tg e = some (src, ces) → PI X tg e (srcI X.K fa XR F W src ces)
theorem sound_comp {n : Nat} (ih : SoundN T N k fa XR F n) {c : Bool} {sc ssc : Scope} {X : Cx} {W : WX} {elt tg iter : Expr} {ifs : List Expr} {scope : Scope} {src : Src} {ces : CEs} {ct : CT} {ce cc : CE} (O : XOk T N c sc ssc k fa XR F X W)
    (h1 : cI T N n c sc tg iter = some (src, ces)) (h2 : cG N n scope tg = some ct) (h3 : cE T N n c (relS scope sc) elt = some ce)
    (h4 : (c && noSet iter && blkC N sc scope (ownOf N scope.names) && ct.slots.all (fun i => ((ownOf N scope.names).map (·.2)).contains i)) = true)
    (ht : ∀ (s : Shared) (H : Hp) (C : Addr) (cl : List (Str × Addr)) (fp : List Addr), PTs (X.blk s H scope (compEnvC scope cl C X.env) fp) ifs (tT X.K fa XR F W0 cc)) :
    X.calm = true ∧ X.N.Nodup ∧ PI X tg iter (srcI X.K fa XR F W src ces) ∧ BlkOk X.N X.env.scope scope (ownOf N scope.names) ∧
      (∀ (s : Shared) (H : Hp) (C : Addr) (cl : List (Str × Addr)) (fp : List Addr), PG (X.blk s H scope (compEnvC scope cl C X.env) fp) tg (gI X.K fa ct)) ∧
      (∀ (s : Shared) (H : Hp) (C : Addr) (cl : List (Str × Addr)) (fp : List Addr), PE (X.blk s H scope (compEnvC scope cl C X.env) fp) elt (tI X.K fa XR F W0 ce)) ∧
      (∀ x, foldedSetIterable iter X.env x = pure x) ∧ ∀ σ H Q, tI X.K fa XR F W (.comp ce ct src ces cc ((ownOf N scope.names).map (·.2))) σ H Q →
        tLc (srcI X.K fa XR F W src ces) (gI X.K fa ct) (tT X.K fa XR F W0 cc) (tI X.K fa XR F W0 ce) ((ownOf N scope.names).map (·.2)) σ H Q := by
  rw [Bool.and_eq_true, Bool.and_eq_true, Bool.and_eq_true] at h4
  obtain ⟨⟨⟨hc, hs⟩, hb⟩, hv⟩ := h4
  refine ⟨(O.cal hc).1, by rw [O.hN]; exact O.nd, ih.sI O h1, by rw [O.hN, O.hsc]; exact blkOk_by hb, fun s H C cl fp => ((sound_g n).1 (O.blk hc s H scope C cl fp) hc h2).1, fun s H C cl fp => ih.sE (O.blk hc s H scope C cl fp) h3, fun x => noSet_fold hs, fun σ H Q h => ti_comp (fun i hi => ?_) h⟩
  exact List.contains_iff_mem.mp (List.all_eq_true.mp hv i hi)
theorem lcG_parts {n : Nat} (ih : SoundN T N k fa XR F n) {c : Bool} {sc ssc : Scope} {X : Cx} {W : WX} {elt tg iter : Expr} {ifs : List Expr} {g1 : Comprehension} {gs : List Comprehension} {scope : Scope} {src : Src} {ces : CEs} {ct : CT} {ce cc : CE} {rc : CLs} (O : XOk T N c sc ssc k fa XR F X W)
    (h1 : cI T N n c sc tg iter = some (src, ces)) (h2 : cG N n scope tg = some ct) (h3 : cE T N n c (relS scope sc) elt = some ce) (h5 : cF T N n c (relS scope sc) ifs = some cc) (h6 : cC T N n c (relS scope sc) scope (g1 :: gs) = some rc)
    (h4 : (c && noSet iter && blkC N sc scope (ownOf N scope.names) && ct.slots.all (fun i => ((ownOf N scope.names).map (·.2)).contains i) && (headVs rc).all (fun i => ((ownOf N scope.names).map (·.2)).contains i)) = true) :
    ∃ (c1 : Cl) (r : List Cl), g1 :: gs = (c1 :: r).map Cl.c ∧ X.calm = true ∧ X.N.Nodup ∧ PI X tg iter (srcI X.K fa XR F W src ces) ∧ BlkOk X.N X.env.scope scope (ownOf N scope.names) ∧ (∀ i ∈ c1.vs, i ∈ (ownOf N scope.names).map (·.2)) ∧ nestVs (c1 :: r) ∧
      (∀ (s : Shared) (H : Hp) (C : Addr) (cl : List (Str × Addr)) (fp : List Addr), PG (X.blk s H scope (compEnvC scope cl C X.env) fp) tg (gI X.K fa ct)) ∧ (∀ (s : Shared) (H : Hp) (C : Addr) (cl : List (Str × Addr)) (fp : List Addr), PTs (X.blk s H scope (compEnvC scope cl C X.env) fp) ifs (tT X.K fa XR F W0 cc)) ∧
      (∀ (s : Shared) (H : Hp) (C : Addr) (cl : List (Str × Addr)) (fp : List Addr), ∀ c ∈ c1 :: r, ClOk (X.blk s H scope (compEnvC scope cl C X.env) fp) c) ∧
      (∀ (s : Shared) (H : Hp) (C : Addr) (cl : List (Str × Addr)) (fp : List Addr), PE (X.blk s H scope (compEnvC scope cl C X.env) fp) elt (tI X.K fa XR F W0 ce)) ∧
      (∀ x, foldedSetIterable iter X.env x = pure x) ∧ ∀ σ H Q, tI X.K fa XR F W (.compN ce ct src ces cc rc ((ownOf N scope.names).map (·.2))) σ H Q →
        tLcG (srcI X.K fa XR F W src ces) (gI X.K fa ct) (tT X.K fa XR F W0 cc) (c1 :: r) (tI X.K fa XR F W0 ce) ((ownOf N scope.names).map (·.2)) σ H Q := by
  rw [Bool.and_eq_true, Bool.and_eq_true, Bool.and_eq_true, Bool.and_eq_true] at h4
  obtain ⟨⟨⟨⟨hc, hs⟩, hb⟩, hv⟩, hv2⟩ := h4
  have q5 : ∀ (s : Shared) (H : Hp) (C : Addr) (cl : List (Str × Addr)) (fp : List Addr), ∀ c ∈ mkCls X.K fa XR F rc (g1 :: gs), ClOk (X.blk s H scope (compEnvC scope cl C X.env) fp) c := fun s H C cl fp => ih.sC hc (O.blk hc s H scope C cl fp) h6
  obtain ⟨q1, q2, q3, q4⟩ := cC_shape (fa := fa) (XR := XR) (F := F) X.K n h6
  generalize mkCls X.K fa XR F rc (g1 :: gs) = cls at q1 q2 q3 q4 q5
  cases cls with
  | nil => cases q1
  | cons c1 r =>
    have q4 : c1.vs = headVs rc := q4
    refine ⟨c1, r, q1, (O.cal hc).1, by rw [O.hN]; exact O.nd, ih.sI O h1, by rw [O.hN, O.hsc]; exact blkOk_by hb, fun i hi => ?_, q3, fun s H C cl fp => ((sound_g n).1 (O.blk hc s H scope C cl fp) hc h2).1, fun s H C cl fp => ih.sF (O.blk hc s H scope C cl fp) h5, q5, fun s H C cl fp => ih.sE (O.blk hc s H scope C cl fp) h3, fun x => noSet_fold hs,
      fun σ H Q h => ti_compN (fun i hi => List.contains_iff_mem.mp (List.all_eq_true.mp hv i hi)) q2 h⟩
    rw [q4] at hi
    exact List.contains_iff_mem.mp (List.all_eq_true.mp hv2 i hi)
theorem sound_lcG {n : Nat} (ih : SoundN T N k fa XR F n) {c : Bool} {sc ssc : Scope} {X : Cx} {W : WX} {elt tg iter : Expr} {ifs : List Expr} {g1 : Comprehension} {gs : List Comprehension} {scope : Scope} {p2 : Pos} {src : Src} {ces : CEs} {ct : CT} {ce cc : CE} {rc : CLs} (O : XOk T N c sc ssc k fa XR F X W)
    (h1 : cI T N n c sc tg iter = some (src, ces)) (h2 : cG N n scope tg = some ct) (h3 : cE T N n c (relS scope sc) elt = some ce) (h5 : cF T N n c (relS scope sc) ifs = some cc) (h6 : cC T N n c (relS scope sc) scope (g1 :: gs) = some rc)
    (h4 : (c && noSet iter && blkC N sc scope (ownOf N scope.names) && ct.slots.all (fun i => ((ownOf N scope.names).map (·.2)).contains i) && (headVs rc).all (fun i => ((ownOf N scope.names).map (·.2)).contains i)) = true) :
    PE X (.ListComp elt (⟨tg, iter, ifs, 0⟩ :: g1 :: gs) scope p2) (tI X.K fa XR F W (.compN ce ct src ces cc rc ((ownOf N scope.names).map (·.2)))) := by
  obtain ⟨c1, r, e, a1, a2, a3, a4, a5, a6, a7, a8, a9, a10, a11, a12⟩ := lcG_parts ih O h1 h2 h3 h5 h6 h4
  rw [e]
  exact PE.imp (pe_lcG a1 a2 a3 a4 a5 a6 a7 a8 a9 a10 a11) a12
theorem comp_c {a b c d : Bool} (h : (a && b && c && d) = true) : a = true := by cases a <;> first | rfl | cases h
theorem soundN (n : Nat) : SoundN T N k fa XR F n := by
  induction n with
  | zero => exact ⟨fun _ h => (by cases h), fun _ h => (by cases h), fun _ h => (by cases h), fun _ h => (by cases h), fun _ h => (by cases h), fun _ _ h => (by cases h), fun _ h => (by cases h)⟩
  | succ n ih =>
    refine ⟨fun {c sc ssc X W e ce} O h => ?_, fun {c sc ssc X W e ce} O h => ?_, fun {c sc ssc X W es ces} O h => ?_, fun {c sc ssc X W kws ces} O h => ?_, fun {c sc ssc X ifs cc} O h => ?_, fun {c sc ssc X gs rc} hc O h => ?_, fun {c sc ssc X W tg e src ces} O h => ?_⟩
    · -- expressions
      unfold cE at h
      split at h
      · cases h; exact e_con pe_int fun _ _ => rfl
      · cases h; exact e_con pe_bl fun _ _ => rfl
      · cases h; exact e_con pe_non fun _ _ => rfl
      · cases h; exact e_con pe_str fun _ _ => rfl
      · exact sound_name O h
      · -- BinOp
        split at h
        · rename_i p ca cb h1 h2 h3
          cases h
          exact e_bin (sound_bin h1) (ih.sE O h2) (ih.sE O h3)
        · cases h
      · -- neg
        split at h
        · rename_i ca h1
          cases h
          exact e_neg (ih.sE O h1)
        · cases h
      · split at h
        · rename_i ca h1
          cases h
          exact e_not (ih.sE O h1)
        · cases h
      · exact pe_one (ih.sE O h)
      · split at h
        · rename_i ca cb h1 h2
          cases h
          exact e_and (ih.sE O h1) (ih.sE O h2)
        · cases h
      · split at h
        · rename_i ca cb h1 h2
          cases h
          exact e_or (ih.sE O h1) (ih.sE O h2)
        · cases h
      · split at h
        · rename_i ct ca cb h1 h2 h3
          cases h
          exact e_ite (ih.sT O h1).1 (ih.sE O h2) (ih.sE O h3)
        · cases h
      · split at h
        · rename_i hb
          rw [Bool.and_eq_true] at hb
          split at h
          · rename_i p ca cb h1 h2 h3
            cases h
            exact e_cmp (sound_cmp (units_of (O.cal hb.2).2.1) h1).1 (ih.sE O h2) (ih.sE O h3) (noSet_mark hb.1)
          · cases h
        · cases h
      · split at h
        · rename_i hb
          rw [Bool.and_eq_true] at hb
          split at h
          · rename_i p q ca cb cd h1 h2 h3 h4 h5
            cases h
            exact e_chain (sound_cmp (units_of (O.cal hb.2).2.1) h1).1 (sound_cmp (units_of (O.cal hb.2).2.1) h2).1 (ih.sE O h3) (ih.sE O h4) (ih.sE O h5) (noSet_mark hb.1)
          · cases h
        · cases h
      · split at h
        · rename_i ces h1
          cases h
          exact e_tup (ih.sA O h1)
        · cases h
      · split at h
        · rename_i ces h1
          cases h
          exact e_lst (ih.sA O h1)
        · cases h
      · split at h
        · rename_i ca cl h1 h2
          cases h
          exact e_slFrom (ih.sE O h1) (ih.sE O h2)
        · cases h
      · split at h
        · rename_i ca cl h1 h2
          cases h
          exact e_slTo (ih.sE O h1) (ih.sE O h2)
        · cases h
      · split at h
        · rename_i ca cl ch h1 h2 h3
          cases h
          exact e_sl (ih.sE O h1) (ih.sE O h2) (ih.sE O h3)
        · cases h
      · split at h
        · rename_i ca h1
          cases h
          exact e_rev (ih.sE O h1)
        · cases h
      · split at h
        · rename_i hb
          split at h
          · rename_i ht
            split at h
            · rename_i cb h1
              cases h
              obtain ⟨x, p, ex, ho, hg, hl⟩ := tabOf_ok ht
              subst ex
              obtain ⟨t, f, hm, hk, hv⟩ := O.val.tab _ _ hl
              exact e_kget (pe_glob (gl_of O.hsc hg) hm rfl (okN ho).1) hk hv (ih.sE O h1) hb
            · cases h
          split at h
          · rename_i ca cb h1 h2
            cases h
            exact e_ix (ih.sE O h1) (ih.sE O h2) hb
          · cases h
        · cases h
      · cases h; exact e_dnew
      · -- d.get(..), d.setdefault(..)
        split at h
        · rename_i hb
          rw [Bool.and_eq_true, Bool.and_eq_true, Bool.and_eq_true, Bool.and_eq_true] at hb
          obtain ⟨⟨⟨⟨hc, p1⟩, p2⟩, hl⟩, hn⟩ := hb
          have hu : X.A.units + 1 < cLine := by have := units_of (O.cal hc).2.1; omega
          split at h
          · rename_i en
            subst en
            split at h
            · rename_i co ce' cf h1 h2 h3
              cases h
              exact e_dgetd hu (ih.sE O h1) (ih.sE O h2) (ih.sE O h3) ⟨base_ok hn, few_two p1 p2, hl, two_trees p1 p2⟩
            · cases h
          · split at h
            · rename_i en
              subst en
              split at h
              · split at h
                · rename_i co ces cf h1 h2 h3
                  cases h
                  exact e_dsetd hu (ih.sE O h1) (ih.sA O h2) (ih.sE O h3) ⟨base_ok hn, few_two p1 p2, hl, two_trees p1 p2⟩
                · cases h
              · cases h
            · cases h
        · cases h
      · -- f()
        split at h
        · rename_i hc
          split at h
          · rename_i i hk
            cases h
            obtain ⟨ho, hg, ar, hf, ea⟩ := callK_def hk
            obtain ⟨fA, fd, ps, hm, hkp, hb, Fo, hn, _⟩ := (O.cal hc).2.2.fn _ _ _ hf
            exact e_call0 Fo (O.cal hc).2.1 (gl_of O.hsc hg) hm hkp hb O.takes (fun H m ds vs s r z => by rw [← r.length]; exact hn ds s z) (okN ho).1
          · cases h
        · cases h
      · -- f(k = ..)
        split at h
        · rename_i hc
          rw [Bool.and_eq_true, Bool.and_eq_true, Bool.and_eq_true] at hc
          obtain ⟨⟨⟨hc, ho⟩, hgl⟩, ha⟩ := hc
          split at h
          · rename_i i ar perm ces hf hk h1
            cases h
            obtain ⟨fA, fd, ps, hm, hkp, hb, Fo, hn, hkw⟩ := (O.cal hc).2.2.fn _ _ _ hf
            obtain ⟨q1, q2, q3⟩ := kw_all (pos := _) (env := X.env) ha
            exact e_callp Fo (O.cal hc).2.1 (gl_of O.hsc hgl) hm hkp (hkw _ _ (kwOf_mem hk)) O.takes hn (ih.sK O h1) q1 q2 (okN ho).1 (by rw [q3]; rfl)
          · cases h
        · cases h
      · -- o[i]()
        split at h
        · rename_i hc
          split at h
          · rename_i ce' h1
            cases h
            exact e_callv0 (O.cal hc).2.1 (ih.sE O h1) (heldF_of O hc) O.takes rfl
          · cases h
        · cases h
      · split at h
        · rename_i hc
          rw [Bool.and_eq_true] at hc
          split at h
          · rename_i ce' ces h1 h2
            cases h
            exact e_callv (O.cal hc.1).2.1 (ih.sE O h1) (heldF_of O hc.1) O.takes (ih.sA O h2) hc.2 rfl
          · cases h
        · cases h
      · -- f(..)
        split at h
        · rename_i hsp
          split at h
          · rename_i ce' h1
            cases h
            exact sound_isTy O (sp_c hsp (fun z => by cases z)).2 (ih.sE O h1)
          · cases h
        · rename_i hsp
          split at h
          · rename_i ce' h1
            cases h
            exact sound_lenSet O (sp_c hsp (fun z => by cases z)).1 (sp_c hsp (fun z => by cases z)).2 (ih.sE O h1)
          · cases h
        · rename_i hsp
          split at h
          · rename_i hc
            rw [Bool.and_eq_true] at hc
            split at h
            · rename_i i ces hk h1
              cases h
              obtain ⟨ho, hg, ar, hf, ea⟩ := callK_def hk
              obtain ⟨fA, fd, ps, hm, hkp, hb, Fo, hn, _⟩ := (O.cal hc.1).2.2.fn _ _ _ hf
              exact e_call Fo (O.cal hc.1).2.1 (gl_of O.hsc hg) hm hkp hb O.takes (fun H m ds vs s r z => by rw [← r.length]; exact hn ds s z) (ih.sA O h1) (okN ho).1 hc.2
            · rename_i b ces hk h1
              cases h
              exact sound_bi O hc.1 hk hc.2 (ih.sA O h1)
            · cases h
          · split at h
            · rename_i hi
              rw [Bool.and_eq_true, Bool.and_eq_true] at hi
              obtain ⟨e1, hg, hm⟩ := rng_of O hi.1.2
              split at h
              · rename_i tn p2
                split at h
                · rename_i ht
                  rw [Bool.and_eq_true] at ht
                  split at h
                  · rename_i ce' h1
                    cases h
                    subst e1
                    exact O.iso (by simpa using hi.1.1) _ _ _ _ _ _ ht.1 ht.2 hg hm (ih.sE O h1) hi.2
                  · cases h
                · cases h
              · cases h
            · cases h
      · -- [.. for ..]
        split at h
        · rename_i src ces ct ce' h1 h2 h3
          split at h
          · rename_i h4
            cases h
            obtain ⟨a1, a2, a3, a4, a5, a6, a7, a8⟩ := sound_comp ih O h1 h2 h3 h4 (fun s H C cl fp => ts_yes)
            exact PE.imp (pe_lc a1 a2 a3 a4 a5 (fun s H C cl fp => ts_yes) a6 a7) a8
          · cases h
        · cases h
      · split at h
        · rename_i src ces ct ce' cc h1 h2 h3 h5
          split at h
          · rename_i h4
            cases h
            obtain ⟨a1, a2, a3, a4, a5, a6, a7, a8⟩ := sound_comp ih O h1 h2 h3 h4 (fun s H C cl fp => pts_one (ih.sT (O.blk (comp_c h4) s H _ C cl fp) h5).1)
            exact PE.imp (pe_lc a1 a2 a3 a4 a5 (fun s H C cl fp => pts_one (ih.sT (O.blk (comp_c h4) s H _ C cl fp) h5).1) a6 a7) a8
          · cases h
        · cases h
      · -- several clauses
        rename_i elt tg iter ifs g1 gs scope p2
        split at h
        · rename_i src ces ct ce' cc rc h1 h2 h3 h5 h6
          split at h
          · rename_i h4
            cases h
            exact sound_lcG ih O h1 h2 h3 h5 h6 h4
          · cases h
        · cases h
      · cases h
    · -- tests
      unfold cT at h
      split at h
      · split at h
        · rename_i ca h1
          cases h
          exact ⟨t_not (ih.sT O h1).1, fun z => (by cases z)⟩
        · cases h
      · exact ⟨(w_one (ih.sT O h).1).pt, fun _ => w_one (ih.sT O h).1⟩
      · split at h
        · rename_i ca cb h1 h2
          cases h
          have q := w_and (ih.sT O h1).1 ((ih.sT O h2).2 rfl)
          exact ⟨q.pt, fun _ => q⟩
        · cases h
      · split at h
        · rename_i ca cb h1 h2
          cases h
          have q := w_or (ih.sT O h1).1 ((ih.sT O h2).2 rfl)
          exact ⟨q.pt, fun _ => q⟩
        · cases h
      · split at h
        · rename_i hb
          rw [Bool.and_eq_true] at hb
          split at h
          · rename_i p ca cb h1 h2 h3
            cases h
            have q := sound_cmp (fa := fa) (XR := XR) (X := X) (units_of (O.cal hb.2).2.1) h1
            exact ⟨t_cmp q.2 q.1 (ih.sE O h2) (ih.sE O h3) (noSet_mark hb.1), fun z => (by cases z)⟩
          · cases h
        · cases h
      · split at h
        · rename_i hb
          rw [Bool.and_eq_true] at hb
          split at h
          · rename_i p q ca cb cd h1 h2 h3 h4 h5
            cases h
            have z1 := sound_cmp (fa := fa) (XR := XR) (X := X) (units_of (O.cal hb.2).2.1) h1
            have z2 := sound_cmp (fa := fa) (XR := XR) (X := X) (units_of (O.cal hb.2).2.1) h2
            exact ⟨t_chain z2.2 z1.1 z2.1 (ih.sE O h3) (ih.sE O h4) (ih.sE O h5) (noSet_mark hb.1), fun z => (by cases z)⟩
          · cases h
        · cases h
      · split at h
        · rename_i hv
          refine ⟨t_any (ih.sE O h) (valTest_true hv), fun z => ?_⟩
          cases e <;> first | exact absurd (show false = true from hv) Bool.false_ne_true | exact absurd (show false = true from z) Bool.false_ne_true
        · cases h
    · -- arguments
      cases es with
      | nil => cases h; exact a_nil
      | cons e es =>
        unfold cEs at h
        split at h
        · rename_i hp
          split at h
          · rename_i ce ces h1 h2
            cases h
            exact a_cons (ih.sE O h1) (ih.sA O h2) hp
          · cases h
        · cases h
    · -- keywords
      cases kws with
      | nil => cases h; exact k_nil
      | cons q kws =>
        obtain ⟨nm, e, kp⟩ := q
        have h : (if plainE e then match cE T N n c sc e, cEs T N n c sc (kws.map fun q => q.value) with
          | some ce, some ces => some (CEs.cons ce ces)
          | _, _ => none
          else none) = some ces := h
        split at h
        · split at h
          · rename_i ce ces h1 h2
            cases h
            exact k_cons (ih.sE O h1) (ih.sK O h2)
          · cases h
        · cases h
    · -- the tests of a clause
      match ifs, h with
      | [], h => cases h; exact ts_yes
      | [t], h => exact pts_one (ih.sT O h).1
      | _ :: _ :: _, h => cases h
    · -- the clauses behind the first
      match gs, h with
      | [], h => cases h; exact fun cl hcl => by cases hcl
      | ⟨tg, iter, ifs, a⟩ :: gs, h =>
        obtain ⟨e0, h7⟩ := cC_cons h
        subst e0
        split at h7
        · rename_i hs
          split at h7
          · rename_i src ces ct cc rc' h1 h2 h3 h4
            cases h7
            intro cl hcl
            rcases List.mem_cons.mp hcl with rfl | hcl
            · exact ⟨ih.sI O h1, ((sound_g n).1 O hc h2).1, ih.sF O h3, fun x => noSet_fold hs⟩
            · exact ih.sC hc O h4 cl hcl
          · cases h7
        · cases h7
    · -- what is walked
      have seq : ∀ {src ces}, (match cE T N n c sc e with
          | some ce => some (Src.seq, CEs.cons ce .nil)
          | none => none) = some (src, ces) → PI X tg e (srcI X.K fa XR F W src ces) := fun {src ces} h => by
        split at h
        · rename_i ce h1
          cases h
          exact i_seq (ih.sE O h1)
        · cases h
      unfold cI at h
      split at h
      · split at h
        · rename_i hb
          rw [Bool.and_eq_true] at hb
          obtain ⟨e1, hg, hm⟩ := rng_of O hb.1
          split at h
          · rename_i ca h1
            cases h
            subst e1
            exact i_rng1 hg hm (a_cons (ih.sE O h1) a_nil hb.2) hb.2
          · cases h
        · split at h
          · rename_i hb
            rw [Bool.and_eq_true, Bool.and_eq_true] at hb
            obtain ⟨e1, hg, hm⟩ := rng_of O hb.1.1
            obtain ⟨es, kk, p, rfl⟩ := tup_target hb.2
            split at h
            · rename_i ca h1
              cases h
              subst e1
              exact i_enum hg hm (a_cons (ih.sE O h1) a_nil hb.1.2) hb.1.2
            · cases h
          · exact seq h
      · split at h
        · rename_i hb
          rw [Bool.and_eq_true, Bool.and_eq_true] at hb
          obtain ⟨e1, hg, hm⟩ := rng_of O hb.1.1
          split at h
          · rename_i ca cb h1 h2
            cases h
            subst e1
            exact i_rng2 hg hm (a_cons (ih.sE O h1) (a_cons (ih.sE O h2) a_nil hb.2) hb.1.2) hb.1.2 hb.2
          · cases h
        · split at h
          · rename_i hb
            rw [Bool.and_eq_true, Bool.and_eq_true, Bool.and_eq_true] at hb
            obtain ⟨e1, hg, hm⟩ := rng_of O hb.1.1.1
            obtain ⟨es, kk, p, rfl⟩ := tup_target hb.2
            split at h
            · rename_i ca cb h1 h2
              cases h
              subst e1
              exact i_zip hg hm (a_cons (ih.sE O h1) (a_cons (ih.sE O h2) a_nil hb.1.2) hb.1.1.2) hb.1.1.2 hb.1.2
            · cases h
          · exact seq h
      · split at h
        · rename_i hb
          rw [Bool.and_eq_true, Bool.and_eq_true, Bool.and_eq_true, Bool.and_eq_true] at hb
          obtain ⟨⟨⟨⟨h0, p1⟩, p2⟩, p3⟩, ht⟩ := hb
          obtain ⟨e1, hg, hm⟩ := rng_of O h0
          obtain ⟨es, kk, p, rfl⟩ := tup_target ht
          split at h
          · rename_i ca cb cd h1 h2 h3
            cases h
            subst e1
            exact i_zip3 hg hm (a_cons (ih.sE O h1) (a_cons (ih.sE O h2) (a_cons (ih.sE O h3) a_nil p3) p2) p1) p1 p2 p3
          · cases h
        · exact seq h
      · exact seq h
end
end Mi

set_option linter.all false
set_option maxRecDepth 100000
set_option maxHeartbeats 8000000
namespace Mi
open PySem PySem.Spec PyProof.Rows L2

def noComp : Expr → Bool
  | .ListComp _ _ _ _ => false
  | .SetComp _ _ _ _ => false
  | .DictComp _ _ _ _ _ => false
  | _ => true
theorem noComp_sw {e : Expr} {t : Option Expr} {l : Nat} {env : PySem.Env} (h : noComp e = true) : swapsWith e t l env = pure false := by cases e <;> first | rfl | cases h
/-- whether a comprehension is made straight into the name -/
def swB (sc scope : Scope) (y : Str) (py p2 : Pos) : Bool := (sc.names.lookup y == some .local) && py.line == p2.line && !(scope.names.any fun (n, k) => n == y && (k == .local || k == .cell))
theorem swB_ok {elt : Expr} {gs : List Comprehension} {scope : Scope} {p2 py : Pos} {y : Str} {l : Nat} {env : PySem.Env} (hk : env.scope.kind = .function) : swapsWith (.ListComp elt gs scope p2) (some (.Name y py)) l env = pure (swB env.scope scope y py p2) := by
  have hb : env.blockKind = .function := by unfold PySem.Env.blockKind; rw [hk]; rfl
  show (pure (env.blockKind == .function && env.kindOf y == some .local && py.line == p2.line && !(scope.names.any fun (n, k) => n == y && (k == .local || k == .cell))) : Sem Bool) = _
  rw [hb]
  rfl
theorem noTup_sw {ts : List Expr} {e : Expr} {env : PySem.Env} (h : isTuple e = false) : swappedStores ts e env = pure none := by
  cases e <;> first
    | exact absurd (show true = false from h) (by decide)
    | (cases ts with
       | nil => rfl
       | cons t r => cases r <;> cases t <;> rfl)
/-- a, b = x, y; a, b, c = x, y, z: the names -/
def parN (sc : Scope) (l : Nat) : List Expr → Option (List Str)
  | [] => some []
  | .Name x p :: r => if sc.names.lookup x == some .local && p.line == l then match parN sc l r with
    | some xs => some (x :: xs)
    | none => none
    else none
  | _ => none

/-- the stores aren't swapped: some target is no local name of the first one's line -/
def swNone (sc : Scope) (ts : List Expr) : Bool := (ts.filterMap fun
    | .Name id pos => if sc.names.lookup id == some .local && pos.line == (ts.head?.map (·.pos.line)).getD 0 then some id else none
    | _ => none).length != ts.length
theorem swNone_ok {ts : List Expr} {kt : Nat} {pt : Pos} {e : Expr} {env : PySem.Env} (h : swNone env.scope ts = true) : swappedStores [.Tuple ts kt pt] e env = pure none := by
  cases e with
  | Tuple vs k2 p2 =>
    have h : ((ts.filterMap fun
      | .Name id pos => if env.kindOf id == some .local && pos.line == (ts.head?.map (·.pos.line)).getD 0 then some id else none
      | _ => none).length != ts.length) = true := h
    unfold swappedStores
    dsimp only
    split
    · rfl
    · split
      · rfl
      · split
        · rfl
        · rename_i hh
          exact absurd (by rw [Bool.or_eq_true]; exact .inl h) hh
  | _ => exact noTup_sw rfl
mutual
def cS (T : Tb) (N : List Str) : Nat → Bool → Scope → Stmt → Option CS
  | 0, _, _, _ => none
  | n + 1, c, sc, st => match st with
    | .Assign [.Name y py] (.ListComp elt gs scope p2) _ => if locB sc y then match slotOf N y 0, cE T N n c sc (.ListComp elt gs scope p2) with
      | some i, some ce => some (.set (.name i) ce)
      | _, _ => none
      else none
    | .Assign [.Name y py] e _ => if locB sc y && noComp e && !isTuple e then match slotOf N y 0, cE T N n c sc e with
      | some i, some ce => some (.set (.name i) ce)
      | _, _ => none
      else if locB sc y && isTuple e then match slotOf N y 0, cE T N n c sc e with
      | some i, some ce => some (.set (.name i) ce)
      | _, _ => none
      else none
    | .Assign [.Tuple [.Name x px, .Name y py] kt pt] (.Tuple [a, b] k2 p2) _ => if c && (sc.names.lookup x == some .local) && (sc.names.lookup y == some .local) && px.line == py.line && !decide (x = y) && !([a, b].all (foldedForSure 8)) && !([a, b].all (constantsAlone 8)) && plainE a && plainE b then
      match slotOf N x 0, slotOf N y 0, cE T N n c sc a, cE T N n c sc b with
      | some i, some j, some ca, some cb => some (.set (.tup (.cons (.name i) (.cons (.name j) .nil))) (.prim .tup (.cons ca (.cons cb .nil))))
      | _, _, _, _ => none
      else if c && swNone sc [.Name x px, .Name y py] then match cG N n sc (.Tuple [.Name x px, .Name y py] kt pt), cE T N n c sc (.Tuple [a, b] k2 p2) with
      | some ct, some ce => some (.set ct ce)
      | _, _ => none
      else none
    | .Assign [.Tuple [.Name x px, .Name y py, .Name z pz] kt pt] (.Tuple [a, b, d] k2 p2) _ => if c && (sc.names.lookup x == some .local) && (sc.names.lookup y == some .local) && (sc.names.lookup z == some .local) && px.line == py.line && px.line == pz.line && !decide (x = y) && !decide (x = z) && !decide (y = z) && !([a, b, d].all (foldedForSure 8)) && !([a, b, d].all (constantsAlone 8)) && plainE a && plainE b && plainE d then
      match slotOf N x 0, slotOf N y 0, slotOf N z 0, cE T N n c sc a, cE T N n c sc b, cE T N n c sc d with
      | some i, some j, some l, some ca, some cb, some cd => some (.set (.tup (.cons (.name i) (.cons (.name j) (.cons (.name l) .nil)))) (.prim .tup (.cons ca (.cons cb (.cons cd .nil)))))
      | _, _, _, _, _, _ => none
      else if c && swNone sc [.Name x px, .Name y py, .Name z pz] then match cG N n sc (.Tuple [.Name x px, .Name y py, .Name z pz] kt pt), cE T N n c sc (.Tuple [a, b, d] k2 p2) with
      | some ct, some ce => some (.set ct ce)
      | _, _ => none
      else none
    | .Assign [.Tuple ts kt pt] e _ => if c && noComp e && (!isTuple e || swNone sc ts) then match cGs N n sc ts, cE T N n c sc e with
      | some ct, some ce => some (.setU ct ce)
      | _, _ => none
      else none
    | .Assign [.Subscript o i p] e _ => if noComp e && !isTuple e && noSlice i then match cE T N n c sc o, cE T N n c sc i, cE T N n c sc e with
      | some co, some ci, some ce => some (.put co ci ce)
      | _, _, _ => none
      else none
    | .AugAssign (.Name x _) .Add e _ => if locB sc x then match slotOf N x 0, cE T N n c sc e with
      | some i, some ce => some (.aug i false ce)
      | _, _ => none
      else none
    | .AugAssign (.Name x _) .Sub e _ => if locB sc x then match slotOf N x 0, cE T N n c sc e with
      | some i, some ce => some (.aug i true ce)
      | _, _ => none
      else none
    | .Expr (.Call (.Attribute o at_ p) [e] [] p2) _ => if decide (at_ = "append") && p.endLine == p2.line && plainE e && notSuper o then match cE T N n c sc o, cE T N n c sc e with
      | some co, some ce => some (.push co ce)
      | _, _ => none
      else none
    | .Expr e _ => if noComp e then match cE T N n c sc e with
      | some ce => some (.drop ce)
      | none => none
      else none
    | .Return (some e) _ => match cE T N n c sc e with
      | some ce => some (.ret ce)
      | none => none
    | .Return none _ => some .retN
    | .If t a b _ => match cT T N n c sc t, cSs T N n c sc a, cSs T N n c sc b with
      | some ct, some ca, some cb => some (.cond ct ca cb)
      | _, _, _ => none
    | .For tg it body [] _ => if c && noSet it then match cI T N n c sc tg it, cG N n sc tg, cSs T N n c sc body with
      | some (src, ces), some ct, some cb => some (.each ct src ces cb)
      | _, _, _ => none
      else none
    | .While t body [] _ => if c then match cT T N n c sc t, cSs T N n c sc body with
      | some ct, some cb => some (.loop ct cb)
      | _, _ => none
      else none
    | .Pass _ => some .skip
    | .Break _ => some .brk
    | .Continue _ => some .cont
    | .Raise (some (.Call (.Name x _) [] [] _)) none _ => if c && okName x && glB sc x then match T.excs.lookup x with
      | some i => some (.raise i .nil)
      | none => none
      else none
    | .Try body (h :: hs) [] [] _ => if c then match cSs T N n c sc body, cHs T N n sc (h :: hs) with
      | some cb, some chs => some (.tryx cb chs)
      | _, _ => none
      else none
    | _ => none
def cSs (T : Tb) (N : List Str) : Nat → Bool → Scope → List Stmt → Option CSs
  | 0, _, _, _ => none
  | _ + 1, _, _, [] => some .nil
  | n + 1, c, sc, st :: sts => match cS T N n c sc st, cSs T N n c sc sts with
    | some cst, some csts => some (.cons cst csts)
    | _, _ => none
def cHs (T : Tb) (N : List Str) : Nat → Scope → List ExceptHandler → Option CHs
  | 0, _, _ => none
  | _ + 1, _, [] => some .nil
  | n + 1, sc, .ExceptHandler (some (.Name x _)) none (b₀ :: suite) _ :: hds => if okName x && glB sc x then match T.hnd.lookup x, cSs { T with isx := [] } N n false sc (b₀ :: suite), cHs T N n sc hds with
    | some (cl, ns), some cb, some chs => some (.cons cl none ns cb chs)
    | _, _, _ => none
    else none
  | n + 1, sc, .ExceptHandler (some (.Name x _)) (some y) (b₀ :: suite) _ :: hds => if okName x && glB sc x && (sc.names.lookup y == some .local) then match T.hnd.lookup x, cSs T N n false sc (b₀ :: suite), cHs T N n sc hds, slotOf N y 0 with
    | some (cl, ns), some cb, some chs, some i => some (.cons cl (some i) ns cb chs)
    | _, _, _, _ => none
    else none
  | _, _, _ => none
end

section
variable {X : Cx} {fa : Nat → Option Addr} {XR : Nat → List D → Value → Option Addr → Hp → List Addr → Prop} {F : Funs} {W : WX} {pos : Pos}
def starB : Expr → Bool
  | .Starred .. => true
  | _ => false
theorem noStar {a : Expr} (h : plainE a = true) : starB a = false := by
  cases a <;> first
    | rfl
    | exact absurd (show false = true from h) (by decide)
theorem RS.of_bind {α β : Type} {r : R α} {g : α → S → R β} {ρ : Env} {f : β → S → RS} : RS.of (r.bind g) ρ f = RS.of r ρ fun a s => RS.of (g a s) ρ f := by
  cases r <;> rfl
theorem evs_two {ca cb : CE} {ρ : Env} {s s1 : S} {ds : List D} (h : evs F (.cons ca (.cons cb .nil)) ρ s = .ok ds s1) : ∃ d d', ds = [d, d'] := by
  have q : (evs F (.cons ca (.cons cb .nil)) ρ s).bind (fun ds s => R.ok ds s) = .ok ds s1 := by rw [h]; rfl
  rw [evs2] at q
  cases z1 : ev F ca ρ s with
  | ok d t1 =>
    rw [z1] at q
    have q : (ev F cb ρ t1).bind (fun d' s2 => R.ok [d, d'] s2) = .ok ds s1 := q
    cases z2 : ev F cb ρ t1 with
    | ok d' t2 => rw [z2] at q; cases q; exact ⟨d, d', rfl⟩
    | ex x fs t => rw [z2] at q; cases q
    | no => rw [z2] at q; cases q
  | ex x fs t => rw [z1] at q; cases q
  | no => rw [z1] at q; cases q
/-- a, b = x, y with the stores swapped -/
theorem s_par {i j : Nat} {x y : Str} {a b : Expr} {ca cb : CE} {px py pt : Pos} {kt k2 pt2} (hc : X.calm = true) (hN : X.N.Nodup) (hi : X.N[i]? = some x) (hj : X.N[j]? = some y) (hij : x ≠ y) (hk : X.env.scope.kind = .function)
    (hx : X.env.scope.names.lookup x = some .local) (hy : X.env.scope.names.lookup y = some .local) (ha : PE X a (tI X.K fa XR F W ca)) (hb : PE X b (tI X.K fa XR F W cb)) (pa : plainE a = true) (pb : plainE b = true) (hl : (px.line == py.line) = true)
    (f1 : ([a, b].all (foldedForSure 8)) = false) (f2 : ([a, b].all (constantsAlone 8)) = false) :
    PS X (.Assign [.Tuple [.Name x px, .Name y py] kt pt] (.Tuple [a, b] k2 pt2) pos) (tS X.K fa XR F W (.set (.tup (.cons (.name i) (.cons (.name j) .nil))) (.prim .tup (.cons ca (.cons cb .nil))))) := by
  have hne : i ≠ j := fun z => by
    subst z
    rw [hi] at hj
    exact hij (Option.some.inj hj)
  have hbk : X.env.blockKind = .function := by unfold PySem.Env.blockKind; rw [hk]; rfl
  have kx : X.env.kindOf x = some .local := hx
  have ky : X.env.kindOf y = some .local := hy
  have hstar : ([a, b].any fun | .Starred .. => true | _ => false) = false := by
    have e : (starB a || (starB b || false)) = false := by rw [noStar pa, noStar pb]; rfl
    exact e
  have hw : swappedStores [.Tuple [.Name x px, .Name y py] kt pt] (.Tuple [a, b] k2 pt2) X.env = pure (some [x, y]) := by
    have hl' : px.line = py.line := by simpa using hl
    have hd : ([x, y] : List Str).eraseDups.length = 2 := by
      have : (y == x) = false := beq_eq_false_iff_ne.mpr (Ne.symm hij)
      simp [List.eraseDups, List.eraseDupsBy, List.eraseDupsBy.loop, this]
    unfold swappedStores
    simp only [hbk, hstar, kx, ky, f1, f2, List.filterMap_cons, List.filterMap_nil, List.head?_cons, Option.map_some, Option.getD_some, Expr.pos, hl', beq_self_eq_true, Bool.and_self, if_true, List.length_cons, List.length_nil, hd, bne_self_eq_false, Bool.or_false, Bool.or_self, Bool.not_true, Bool.false_eq_true, if_false, Bool.true_or]
    simp
    intro h
    exfalso
    rcases h with h | h
    · exact Bool.noConfusion ((show starB a = true from h).symm.trans (noStar pa))
    · exact Bool.noConfusion ((show starB b = true from h).symm.trans (noStar pb))
  have hs : swapsWithSole [.Tuple [.Name x px, .Name y py] kt pt] (.Tuple [a, b] k2 pt2) pos.line X.env = pure false := rfl
  refine PS.imp (ps_par hc hN hi hj hne hx hy (a_cons ha (a_cons hb a_nil pb) pa) hw hs) fun D σ H ⟨m, ρ, s, R, E, h⟩ => ?_
  have h : PostS X.K fa XR W D H m (RS.of ((evs F (.cons ca (.cons cb .nil)) ρ s).bind fun ds s => prim .tup ds s) ρ fun d s => match Mi.put (.tup (.cons (.name i) (.cons (.name j) .nil))) d ρ with
    | some ρ' => RS.ok (.nx ρ') s
    | none => .no) := h
  rw [RS.of_bind] at h
  refine ⟨m, ρ, s, R, E, (PostS.of (Re := RpL X.K fa) E h).imp fun vs H1 ⟨m1, ds, s1, l1, R1, r1, eds, h1⟩ => ?_⟩
  obtain ⟨d, d', rfl⟩ := evs_two eds
  obtain ⟨v, w, rfl, rv, rw'⟩ := rl2 r1
  exact ⟨v, w, rfl, h1 _ H1 m1 Le.refl R1 (((E.le l1).set i rv).set j rw')⟩
theorem evs_three {ca cb cc : CE} {ρ : Env} {s s1 : S} {ds : List D} (h : evs F (.cons ca (.cons cb (.cons cc .nil))) ρ s = .ok ds s1) : ∃ d d' d2, ds = [d, d', d2] := by
  have q : (evs F (.cons ca (.cons cb (.cons cc .nil))) ρ s).bind (fun ds s => R.ok ds s) = .ok ds s1 := by rw [h]; rfl
  rw [evs3] at q
  cases z1 : ev F ca ρ s with
  | ok d t1 =>
    rw [z1] at q
    have q : (ev F cb ρ t1).bind (fun d' s2 => (ev F cc ρ s2).bind fun d2 s3 => R.ok [d, d', d2] s3) = .ok ds s1 := q
    cases z2 : ev F cb ρ t1 with
    | ok d' t2 =>
      rw [z2] at q
      have q : ((ev F cc ρ t2).bind fun d2 s3 => R.ok [d, d', d2] s3) = .ok ds s1 := q
      cases z3 : ev F cc ρ t2 with
      | ok d2 t3 => rw [z3] at q; cases q; exact ⟨d, d', d2, rfl⟩
      | ex x fs t => rw [z3] at q; cases q
      | no => rw [z3] at q; cases q
    | ex x fs t => rw [z2] at q; cases q
    | no => rw [z2] at q; cases q
  | ex x fs t => rw [z1] at q; cases q
  | no => rw [z1] at q; cases q
/-- a, b, c = x, y, z with the stores swapped -/
theorem s_par3 {i j l : Nat} {x y z : Str} {a b d : Expr} {ca cb cd : CE} {px py pz pt : Pos} {kt k2 pt2} (hc : X.calm = true) (hN : X.N.Nodup) (hi : X.N[i]? = some x) (hj : X.N[j]? = some y) (hl : X.N[l]? = some z) (hxy : x ≠ y) (hxz : x ≠ z) (hyz : y ≠ z) (hk : X.env.scope.kind = .function)
    (hx : X.env.scope.names.lookup x = some .local) (hy : X.env.scope.names.lookup y = some .local) (hz : X.env.scope.names.lookup z = some .local) (ha : PE X a (tI X.K fa XR F W ca)) (hb : PE X b (tI X.K fa XR F W cb)) (hd : PE X d (tI X.K fa XR F W cd)) (pa : plainE a = true) (pb : plainE b = true) (pd : plainE d = true)
    (hl1 : (px.line == py.line) = true) (hl2 : (px.line == pz.line) = true) (f1 : ([a, b, d].all (foldedForSure 8)) = false) (f2 : ([a, b, d].all (constantsAlone 8)) = false) :
    PS X (.Assign [.Tuple [.Name x px, .Name y py, .Name z pz] kt pt] (.Tuple [a, b, d] k2 pt2) pos) (tS X.K fa XR F W (.set (.tup (.cons (.name i) (.cons (.name j) (.cons (.name l) .nil)))) (.prim .tup (.cons ca (.cons cb (.cons cd .nil)))))) := by
  have ne : ∀ {i j : Nat} {x y : Str}, X.N[i]? = some x → X.N[j]? = some y → x ≠ y → i ≠ j := fun h1 h2 h3 z => by
    subst z
    rw [h1] at h2
    exact h3 (Option.some.inj h2)
  have hbk : X.env.blockKind = .function := by unfold PySem.Env.blockKind; rw [hk]; rfl
  have kx : X.env.kindOf x = some .local := hx
  have ky : X.env.kindOf y = some .local := hy
  have kz : X.env.kindOf z = some .local := hz
  have hstar : ([a, b, d].any fun | .Starred .. => true | _ => false) = false := by
    have e : (starB a || (starB b || (starB d || false))) = false := by rw [noStar pa, noStar pb, noStar pd]; rfl
    exact e
  have hw : swappedStores [.Tuple [.Name x px, .Name y py, .Name z pz] kt pt] (.Tuple [a, b, d] k2 pt2) X.env = pure (some [x, y, z]) := by
    have hl1' : px.line = py.line := by simpa using hl1
    have hl2' : px.line = pz.line := by simpa using hl2
    have hdd : ([x, y, z] : List Str).eraseDups.length = 3 := by
      have e1 : (y == x) = false := beq_eq_false_iff_ne.mpr (Ne.symm hxy)
      have e2 : (z == x) = false := beq_eq_false_iff_ne.mpr (Ne.symm hxz)
      have e3 : (z == y) = false := beq_eq_false_iff_ne.mpr (Ne.symm hyz)
      simp [List.eraseDups, List.eraseDupsBy, List.eraseDupsBy.loop, e1, e2, e3]
    have hl3 : pz.line = py.line := hl2'.symm.trans hl1'
    unfold swappedStores
    simp only [hbk, hstar, kx, ky, kz, f1, f2, List.filterMap_cons, List.filterMap_nil, List.head?_cons, Option.map_some, Option.getD_some, Expr.pos, hl1', hl3, beq_self_eq_true, Bool.and_self, if_true, List.length_cons, List.length_nil, hdd, bne_self_eq_false, Bool.or_false, Bool.or_self, Bool.not_true, Bool.false_eq_true, if_false, Bool.true_or, Bool.or_true]
    simp
    intro h
    exfalso
    rcases h with h | h | h
    · exact Bool.noConfusion ((show starB a = true from h).symm.trans (noStar pa))
    · exact Bool.noConfusion ((show starB b = true from h).symm.trans (noStar pb))
    · exact Bool.noConfusion ((show starB d = true from h).symm.trans (noStar pd))
  have hs : swapsWithSole [.Tuple [.Name x px, .Name y py, .Name z pz] kt pt] (.Tuple [a, b, d] k2 pt2) pos.line X.env = pure false := rfl
  refine PS.imp (ps_par3 hc hN hi hj hl (ne hi hj hxy) (ne hi hl hxz) (ne hj hl hyz) hx hy hz (a_cons ha (a_cons hb (a_cons hd a_nil pd) pb) pa) hw hs) fun D σ H ⟨m, ρ, s, R, E, h⟩ => ?_
  have h : PostS X.K fa XR W D H m (RS.of ((evs F (.cons ca (.cons cb (.cons cd .nil))) ρ s).bind fun ds s => prim .tup ds s) ρ fun d s => match Mi.put (.tup (.cons (.name i) (.cons (.name j) (.cons (.name l) .nil)))) d ρ with
    | some ρ' => RS.ok (.nx ρ') s
    | none => .no) := h
  rw [RS.of_bind] at h
  refine ⟨m, ρ, s, R, E, (PostS.of (Re := RpL X.K fa) E h).imp fun vs H1 ⟨m1, ds, s1, l1, R1, r1, eds, h1⟩ => ?_⟩
  obtain ⟨d, d', d2, rfl⟩ := evs_three eds
  obtain ⟨v, r, rfl, rv, r2⟩ := r1
  obtain ⟨w, u, rfl, rw', ru⟩ := rl2 r2
  exact ⟨v, w, u, rfl, h1 _ H1 m1 Le.refl R1 ((((E.le l1).set i rv).set j rw').set l ru)⟩
end
end Mi

set_option linter.all false
set_option maxRecDepth 100000
set_option maxHeartbeats 8000000
namespace Mi
open PySem PySem.Spec PyProof.Rows L2

/-- what the classes of errors must be -/
structure GoodX (T : Tb) (P : Program) (w : World) (K : PySem.W.Frag) (mg : Str → Option Value) (base : Heap) (ca : Nat → Option Addr) (cn : Nat → List Str) : Prop where
  exc : ∀ x i, T.excs.lookup x = some i → cn i = [] ∧ ∃ C fI fd, ca i = some C ∧ mg x = some (.ref C) ∧ OexC K C ∧ PySem.W.findIn K (.ref C) "__init__" = some (some (.ref fI)) ∧ PySem.W.typeIn K (.ref fI) = some (.type "function") ∧
    FnOk P w K mg base CX0 1 fI fd ["self"] (spNew C) ∧ Binds K fd ["self"] []
  hnd : ∀ x cl ns, T.hnd.lookup x = some (cl, ns) → ∃ cv, (mg x = some cv ∨ (mg x = none ∧ bootBuiltins x = some cv ∧ x ≠ "__name__")) ∧ (∀ y C, ca y = some C → PySem.W.exmOne K (.ref C) cv = some (cl.contains y)) ∧ ∀ y, cl.contains y = true → cn y = ns
  isx : ∀ tn, T.isx.contains tn = true → ∃ ty : String, bootBuiltins tn = some (.type ty) ∧ ∀ y C, ca y = some C → cn y = [] ∧ ExcC K C ∧ PySem.W.kitOne K (.ref C) (.type ty) = some true
structure SOkT (T : Tb) (fa : Nat → Option Addr) (ca : Nat → Option Addr) (cn : Nat → List Str) (X : Cx) : Prop where
  pas : PassesOwn (model X.prog X.w) X.A X.env X.xe
  stk : X.stack = X.env :: X.outer
  frm : X.env.frame = some X.env.locals
  gx : GoodX T X.prog X.w X.K X.mg X.base ca cn
  nof : ∀ n, 999999 ≤ n → fa n = none
structure SOk (T : Tb) (N : List Str) (c : Bool) (sc : Scope) (k : Nat) (fa : Nat → Option Addr) (ca : Nat → Option Addr) (cn : Nat → List Str) (F : Funs) (X : Cx) (W : WX) : Prop where
  o : XOk T N c sc sc k fa (XRc X.K fa ca cn) F X W
  kind : sc.kind = .function
  t : c = true → SOkT T fa ca cn X
section
variable {T : Tb} {N : List Str} {k : Nat} {fa : Nat → Option Addr} {ca : Nat → Option Addr} {cn : Nat → List Str} {F : Funs}
theorem GoodV.up {K : PySem.W.Frag} {mg : Str → Option Value} (g : GoodV T K mg fa) (hf : ∀ n, 999999 ≤ n → fa n = none) (a : Addr) (d : Option Addr) : GoodV T K mg (faE fa a d) where
  con := fun x dd h => by
    obtain ⟨u, v, h1, h2, h3⟩ := g.con x dd h
    exact ⟨u, v, h1, h2, fun H m => Rp.up hf (h3 H m)⟩
  fnv := fun x i ar h => by
    obtain ⟨f, h1, h2⟩ := g.fnv x i ar h
    exact ⟨f, h1, by rw [faE_lt (Nat.lt_of_lt_of_le (low_of hf h2) (by decide))]; exact h2⟩
  blt := g.blt
  tab := fun x tab h => by
    obtain ⟨t, f, h1, h2, h3⟩ := g.tab x tab h
    refine ⟨t, f, h1, h2, fun i d e => ?_⟩
    obtain ⟨u, v, e1, e2, e3⟩ := h3 i d e
    exact ⟨u, v, e1, e2, fun H m => Rp.up hf (e3 H m)⟩
theorem suite_ok {sc : Scope} {X : Cx} {W : WX} (O : SOk T N true sc k fa ca cn F X W) (a : Addr) (oe : Obj) (C : Addr) (d : Option Addr) (pn : List (Addr × Obj)) (hC : ∃ x, ca x = some C ∧ (cn x = [] → d = none)) (hz : Zc (.ref C) d oe) (hd : ∃ vs, oe.data = .fields vs) :
    XOk T N false sc sc k (faE fa a d) (XRc X.K (faE fa a d) ca cn) F (X.suite a ((a, oe) :: pn)) W0 where
  hN := O.o.hN
  nd := O.o.nd
  hsc := O.o.hsc
  val := O.o.val.up (O.t rfl).nof a d
  cal := fun z => by cases z
  sto := O.o.sto
  takes := takes0
  iso := fun _ e ce tn p p2 pos ht hr hg hm he hp => by
    obtain ⟨ty, hb, hy⟩ := (O.t rfl).gx.isx tn ht
    obtain ⟨x, hx, hdn⟩ := hC
    obtain ⟨hcn, hE, hK⟩ := hy x C hx
    have ed : d = none := hdn hcn
    subst ed
    unfold rngK at hr
    rw [Bool.and_eq_true, Bool.and_eq_true, Bool.and_eq_true] at hr
    obtain ⟨⟨⟨ho, hgl⟩, _⟩, hbl⟩ := hr
    obtain ⟨n1, _, n3⟩ := okN ho
    have hpt : PE (X.suite a ((a, oe) :: pn)) (.Name tn p2) (tC (.ty ty)) := pe_bltn (gl_of (X := X.suite a ((a, oe) :: pn)) O.o.hsc hgl) (O.o.val.blt tn hbl) hb rfl n3 n1
    refine PE.imp (pe_callB (call_isE (X := X) (pn := pn) hE hz hd) hg hm (by decide +kernel) (pa_cons he (pa_cons hpt pa_nil (by rfl)) (star_cons hp)) (by decide) (by decide) (star_cons hp) (by rfl)) fun σ H Q ⟨m, ρ, s, R, E, h⟩ => ?_
    have h : Post X.K (faE fa a none) (XRc X.K (faE fa a none) ca cn) (Rp X.K (faE fa a none)) W0 σ H m ((evs F (.cons ce .nil) ρ s).bind fun ds s => prim .isExc ds s) Q := h
    rw [evs1] at h
    refine ⟨m, ρ, s, R, E, (Post.bind (Re := Rp X.K (faE fa a none)) h).imp fun v H1 ⟨m1, dd, s1, l1, R1, r1, _, h1⟩ => ?_⟩
    cases dd with
    | err n ns fs =>
      have h1 : Post X.K (faE fa a none) (XRc X.K (faE fa a none) ca cn) (Rp X.K (faE fa a none)) W0 σ H1 m1 (if n = 1000000 then .ok (.bl true) s1 else .no) Q := h1
      by_cases hn : n = 1000000
      · rw [if_pos hn] at h1
        subst hn
        obtain ⟨a', rfl, e1, _⟩ := r1
        have e2 : faE fa a none 1000000 = some a := by unfold faE; rw [if_pos rfl]
        rw [e2] at e1
        cases e1
        exact ⟨.ty ty, .type ty, true, rfl, fun u r => r, hK, h1 _ H1 m1 Le.refl R1 rfl⟩
      · rw [if_neg hn] at h1
        exact h1.elim
    | _ => exact h1.elim
/-- an except clause without a name -/
theorem suite_ok0 {sc : Scope} {X : Cx} {W : WX} (O : SOk T N true sc k fa ca cn F X W) (a : Addr) (oe : Obj) (pn : List (Addr × Obj)) :
    XOk { T with isx := [] } N false sc sc k fa (XRc X.K fa ca cn) F (X.suite a ((a, oe) :: pn)) W0 where
  hN := O.o.hN
  nd := O.o.nd
  hsc := O.o.hsc
  val := ⟨O.o.val.con, O.o.val.fnv, O.o.val.blt, O.o.val.tab⟩
  cal := fun z => by cases z
  sto := O.o.sto
  takes := takes0
  iso := fun _ e ce tn p p2 pos ht => by cases ht
end
end Mi

set_option linter.all false
set_option maxRecDepth 100000
set_option maxHeartbeats 8000000
namespace Mi
open PySem PySem.Spec PyProof.Rows L2

section
variable {N : List Str} {k : Nat} {ca : Nat → Option Addr} {cn : Nat → List Str} {F : Funs}
theorem isTup_all {es : List Expr} {kk : Nat} {p : Pos} : isTuple (.Tuple es kk p) = true := rfl
/-- in a try's body -/
theorem SOk.tr {T : Tb} {fa : Nat → Option Addr} {sc : Scope} {X : Cx} {W W' : WX} (O : SOk T N true sc k fa ca cn F X W) (pn : List (Addr × Obj)) (xe : Value → Shared → Prop) (tk : Takes (X.tr pn xe) W') (hp : PassesOwn (model X.prog X.w) X.A X.env xe) :
    SOk T N true sc k fa ca cn F (X.tr pn xe) W' where
  o := { hN := O.o.hN, nd := O.o.nd, hsc := O.o.hsc, val := O.o.val, cal := O.o.cal, sto := O.o.sto, takes := tk, iso := fun z => by cases z }
  kind := O.kind
  t := fun _ => ⟨hp, (O.t rfl).stk, (O.t rfl).frm, (O.t rfl).gx, (O.t rfl).nof⟩
theorem SOk.suite {T : Tb} {fa : Nat → Option Addr} {sc : Scope} {X : Cx} {W : WX} (O : SOk T N true sc k fa ca cn F X W) (a : Addr) (oe : Obj) (C : Addr) (d : Option Addr) (pn : List (Addr × Obj)) (hC : ∃ x, ca x = some C ∧ (cn x = [] → d = none)) (hz : Zc (.ref C) d oe) (hd : ∃ vs, oe.data = .fields vs) :
    SOk T N false sc k (faE fa a d) ca cn F (X.suite a ((a, oe) :: pn)) W0 := ⟨suite_ok O a oe C d pn hC hz hd, O.kind, fun z => by cases z⟩
theorem SOk.suite0 {T : Tb} {fa : Nat → Option Addr} {sc : Scope} {X : Cx} {W : WX} (O : SOk T N true sc k fa ca cn F X W) (a : Addr) (oe : Obj) (pn : List (Addr × Obj)) :
    SOk { T with isx := [] } N false sc k fa ca cn F (X.suite a ((a, oe) :: pn)) W0 := ⟨suite_ok0 O a oe pn, O.kind, fun z => by cases z⟩
/-- the statements, at one depth -/
structure SoundS (N : List Str) (k : Nat) (ca : Nat → Option Addr) (cn : Nat → List Str) (F : Funs) (n : Nat) : Prop where
  sS : ∀ {T : Tb} {fa : Nat → Option Addr} {c : Bool} {sc : Scope} {X : Cx} {W : WX} {st : Stmt} {cst : CS}, 2 ≤ k → SOk T N c sc k fa ca cn F X W → cS T N n c sc st = some cst → PS X st (tS X.K fa (XRc X.K fa ca cn) F W cst)
  sSs : ∀ {T : Tb} {fa : Nat → Option Addr} {c : Bool} {sc : Scope} {X : Cx} {W : WX} {sts : List Stmt} {csts : CSs}, 2 ≤ k → SOk T N c sc k fa ca cn F X W → cSs T N n c sc sts = some csts → PSs X sts (tSs X.K fa (XRc X.K fa ca cn) F W csts)
  sH : ∀ {T : Tb} {fa : Nat → Option Addr} {sc : Scope} {X : Cx} {W : WX} {hds : List ExceptHandler} {chs : CHs}, 2 ≤ k → SOk T N true sc k fa ca cn F X W → cHs T N n sc hds = some chs → HOk X fa ca cn F hds chs
theorem lc_shape {T : Tb} {n : Nat} {c : Bool} {sc scope : Scope} {elt : Expr} {gs : List Comprehension} {p2 : Pos} {ce : CE} (h : cE T N n c sc (.ListComp elt gs scope p2) = some ce) : ∃ tg iter ifs r, gs = ⟨tg, iter, ifs, 0⟩ :: r := by
  cases n with
  | zero => cases h
  | succ n =>
    unfold cE at h
    split at h <;> first
      | (rename_i e; cases e; exact ⟨_, _, _, _, rfl⟩)
      | (rename_i e; cases e; done)
      | (rename_i e1 e; cases e; exact ⟨_, _, _, _, rfl⟩)
      | (cases h; done)
theorem gN {sc : Scope} {N : List Str} {T : Tb} {c : Bool} {ssc : Scope} {k : Nat} {fa : Nat → Option Addr} {XR : Nat → List D → Value → Option Addr → Hp → List Addr → Prop} {F : Funs} {X : Cx} {W : WX} {y : Str} {i : Nat} {p : Pos} (O : XOk T N c sc ssc k fa XR F X W) (hl : locB ssc y = true) (hi : slotOf N y 0 = some i) :
    PG X (.Name y p) (gI X.K fa (.name i)) := g_name (by rw [O.hN]; exact O.nd) (by rw [O.hN]; exact slot_ok hi) (O.sto y hl).1 (O.sto y hl).2
theorem local_loc {sc : Scope} {y : Str} (h : sc.names.lookup y = some .local) : locB sc y = true := by unfold locB; rw [h]
theorem sound_setLc {T : Tb} {fa : Nat → Option Addr} {c : Bool} {sc scope : Scope} {X : Cx} {W : WX} {n : Nat} {y : Str} {i : Nat} {py p2 pos : Pos} {elt : Expr} {gs : List Comprehension} {ce : CE} (O : SOk T N c sc k fa ca cn F X W) (hl : locB sc y = true) (hi : slotOf N y 0 = some i)
    (h : cE T N n c sc (.ListComp elt gs scope p2) = some ce) : PS X (.Assign [.Name y py] (.ListComp elt gs scope p2) pos) (tS X.K fa (XRc X.K fa ca cn) F W (.set (.name i) ce)) := by
  have hk : X.env.scope.kind = .function := by rw [O.o.hsc]; exact O.kind
  cases hb : swB X.env.scope scope y py p2 with
  | false =>
    exact s_set ((soundN n).sE O.o h) (gN O.o hl hi) ((swB_ok (l := pos.line) hk).trans (by rw [hb])) rfl rfl
  | true =>
    have hsw : swapsWith (.ListComp elt gs scope p2) (some (.Name y py)) pos.line X.env = pure true := by rw [swB_ok hk, hb]
    have hyl : X.env.scope.names.lookup y = some .local := by
      unfold swB at hb
      rw [Bool.and_eq_true, Bool.and_eq_true] at hb
      have := hb.1.1
      cases e : X.env.scope.names.lookup y with
      | none => rw [e] at this; cases this
      | some q => rw [e] at this; cases q <;> first | rfl | cases this
    obtain ⟨tg, iter, ifs, gr, rfl⟩ := lc_shape h
    cases n with
    | zero => cases h
    | succ n =>
      have hy : X.N[i]? = some y := by rw [O.o.hN]; exact slot_ok hi
      have ih := soundN (T := T) (N := N) (k := k) (fa := fa) (XR := XRc X.K fa ca cn) (F := F) n
      cases gr with
      | cons g1 gs =>
        have eq : cE T N (n + 1) c sc (.ListComp elt (⟨tg, iter, ifs, 0⟩ :: g1 :: gs) scope p2) = (match cI T N n c sc tg iter, cG N n scope tg, cE T N n c (relS scope sc) elt, cF T N n c (relS scope sc) ifs, cC T N n c (relS scope sc) scope (g1 :: gs) with
          | some (src, ces), some ct, some ce, some cc, some rc => if c && noSet iter && blkC N sc scope (ownOf N scope.names) && ct.slots.all (fun i => ((ownOf N scope.names).map (·.2)).contains i) && (headVs rc).all (fun i => ((ownOf N scope.names).map (·.2)).contains i) then
            some (CE.compN ce ct src ces cc rc ((ownOf N scope.names).map (·.2))) else none
          | _, _, _, _, _ => none) := by
          cases ifs with
          | nil => rfl
          | cons t r => cases r <;> rfl
        rw [eq] at h
        split at h
        · rename_i src ces ct ce' cc rc h1 h2 h3 h5 h6
          split at h
          · rename_i h4
            cases h
            obtain ⟨c1, r, e, a1, a2, a3, a4, a5, a6, a7, a8, a9, a10, a11, a12⟩ := lcG_parts ih O.o h1 h2 h3 h5 h6 h4
            rw [e] at hsw ⊢
            exact s_setLcG (ps_setLcG a1 a2 hy hyl hsw a3 a4 a5 a6 a7 a8 a9 a10 a11) a12
          · cases h
        · cases h
      | nil =>
        cases ifs with
        | nil =>
          have h : (match cI T N n c sc tg iter, cG N n scope tg, cE T N n c (relS scope sc) elt with
            | some (src, ces), some ct, some ce => if c && noSet iter && blkC N sc scope (ownOf N scope.names) && ct.slots.all (fun i => ((ownOf N scope.names).map (·.2)).contains i) then
              some (CE.comp ce ct src ces (.con (.bl true)) ((ownOf N scope.names).map (·.2))) else none
            | _, _, _ => none) = some ce := h
          split at h
          · rename_i src ces ct ce' h1 h2 h3
            split at h
            · rename_i h4
              cases h
              obtain ⟨a1, a2, a3, a4, a5, a6, a7, a8⟩ := sound_comp ih O.o h1 h2 h3 h4 (fun s H C cl fp => ts_yes)
              exact s_setLc (ps_setLc a1 a2 hy hyl hsw a3 a4 a5 (fun s H C cl fp => ts_yes) a6 a7) a8
            · cases h
          · cases h
        | cons t r =>
          cases r with
          | nil =>
            have h : (match cI T N n c sc tg iter, cG N n scope tg, cE T N n c (relS scope sc) elt, cT T N n c (relS scope sc) t with
              | some (src, ces), some ct, some ce, some cc => if c && noSet iter && blkC N sc scope (ownOf N scope.names) && ct.slots.all (fun i => ((ownOf N scope.names).map (·.2)).contains i) then
                some (CE.comp ce ct src ces cc ((ownOf N scope.names).map (·.2))) else none
              | _, _, _, _ => none) = some ce := h
            split at h
            · rename_i src ces ct ce' cc h1 h2 h3 h5
              split at h
              · rename_i h4
                cases h
                obtain ⟨a1, a2, a3, a4, a5, a6, a7, a8⟩ := sound_comp ih O.o h1 h2 h3 h4 (fun s H C cl fp => pts_one (ih.sT (O.o.blk (comp_c h4) s H _ C cl fp) h5).1)
                exact s_setLc (ps_setLc a1 a2 hy hyl hsw a3 a4 a5 (fun s H C cl fp => pts_one (ih.sT (O.o.blk (comp_c h4) s H _ C cl fp) h5).1) a6 a7) a8
              · cases h
            · cases h
          | cons t2 r => cases h
theorem names_of {T : Tb} {fa : Nat → Option Addr} {sc : Scope} {X : Cx} {W : WX} (O : SOk T N true sc k fa ca cn F X W) {x : Str} {cl : List Nat} {ns : List Str} (ho : okName x = true) (hg : glB sc x = true) (h : T.hnd.lookup x = some (cl, ns)) :
    ∃ cv, Names X x cv ∧ (∀ y C, ca y = some C → PySem.W.exmOne X.K (.ref C) cv = some (cl.contains y)) ∧ ∀ y, cl.contains y = true → cn y = ns := by
  obtain ⟨cv, h1, h2, h3⟩ := (O.t rfl).gx.hnd x cl ns h
  exact ⟨cv, ⟨gl_of O.o.hsc hg, (okN ho).1, h1⟩, h2, h3⟩
theorem eqLoc {o : Option NameKind} (h : (o == some .local) = true) : o = some .local := by
  cases o with
  | none => cases h
  | some q => cases q <;> first | rfl | cases h
theorem swSole {t e : Expr} {l : Nat} {env : PySem.Env} (h : noComp e = true) : swapsWithSole [t] e l env = pure false := noComp_sw (t := some t) h
theorem noSlice_assign {o i : Expr} {p : Pos} {env : PySem.Env} (h : noSlice i = true) : ∀ v, assign (.Subscript o i p) env v = (do
      let ov ← PySem.holding [v] (eval o env)
      let iv ← PySem.holding [v, ov] (eval i env)
      standAt p
      PySem.holding [v, ov, iv] (setItem ov iv v)
      release [v, ov, iv] []) := fun v => by
  cases i <;> first | rfl | exact absurd (show false = true from h) (by decide)
theorem few_one {e : Expr} {p : Pos} {env : PySem.Env} (h : plainE e = true) : ((backTo p (starEach [e] env)).all (fun x => !x.1) && (backToKw p (keywordEach [] env)).all (fun x => x.1.isSome)
      && decide ([e].length + ([] : List Keyword).length + (if ([] : List Keyword).isEmpty then 0 else 1) < 30)) = true := by
  rw [star_cons h]; rfl
theorem soundS (n : Nat) : SoundS N k ca cn F n := by
  induction n with
  | zero => exact ⟨fun _ _ h => (by cases h), fun _ _ h => (by cases h), fun _ _ h => (by cases h)⟩
  | succ n ih =>
    refine ⟨fun {T fa c sc X W st cst} hk O h => ?_, fun {T fa c sc X W sts csts} hk O h => ?_, fun {T fa sc X W hds chs} hk O h => ?_⟩
    · have kf : X.env.scope.kind = .function := by rw [O.o.hsc]; exact O.kind
      have en : ∀ {e : Expr} {ce : CE}, cE T N n c sc e = some ce → PE X e (tI X.K fa (XRc X.K fa ca cn) F W ce) := fun h => (soundN n).sE O.o h
      unfold cS at h
      split at h
      · -- y = [..]
        split at h
        · rename_i hl
          split at h
          · rename_i i ce hi he
            cases h
            exact sound_setLc O hl hi he
          · cases h
        · cases h
      · -- y = e
        rename_i y py e pos _
        split at h
        · rename_i hl
          rw [Bool.and_eq_true, Bool.and_eq_true] at hl
          split at h
          · rename_i i ce hi he
            cases h
            exact s_set (en he) (gN O.o hl.1.1 hi) (swSole hl.1.2) (noTup_sw (by simpa using hl.2)) rfl
          · cases h
        · split at h
          · rename_i hl
            rw [Bool.and_eq_true] at hl
            obtain ⟨es, kk, p, rfl⟩ := tup_target hl.2
            split at h
            · rename_i i ce hi he
              cases h
              exact s_set (en he) (gN O.o hl.1 hi) rfl rfl rfl
            · cases h
          · cases h
      · -- x, y = a, b
        split at h
        · rename_i hb
          simp only [Bool.and_eq_true, Bool.not_eq_true', decide_eq_false_iff_not] at hb
          obtain ⟨⟨⟨⟨⟨⟨⟨⟨hc, hx⟩, hy⟩, hl⟩, hne⟩, f1⟩, f2⟩, pa⟩, pb⟩ := hb
          split at h
          · rename_i i j ca' cb' hi hj h1 h2
            cases h
            exact s_par (O.o.cal hc).1 (by rw [O.o.hN]; exact O.o.nd) (by rw [O.o.hN]; exact slot_ok hi) (by rw [O.o.hN]; exact slot_ok hj) hne kf (by rw [O.o.hsc]; exact eqLoc hx) (by rw [O.o.hsc]; exact eqLoc hy) (en h1) (en h2) pa pb hl f1 f2
          · cases h
        · split at h
          · rename_i hb
            rw [Bool.and_eq_true] at hb
            split at h
            · rename_i ct ce hg he
              cases h
              have g := (sound_g (T := T) (k := k) (fa := fa) (XR := XRc X.K fa ca cn) (F := F) n).1 O.o hb.1 hg
              exact s_set (en he) g.1 rfl (swNone_ok (by rw [O.o.hsc]; exact hb.2)) g.2
            · cases h
          · cases h
      · -- x, y, z = a, b, d
        split at h
        · rename_i hb
          simp only [Bool.and_eq_true, Bool.not_eq_true', decide_eq_false_iff_not] at hb
          obtain ⟨⟨⟨⟨⟨⟨⟨⟨⟨⟨⟨⟨⟨hc, hx⟩, hy⟩, hz⟩, hl1⟩, hl2⟩, n1⟩, n2⟩, n3⟩, f1⟩, f2⟩, pa⟩, pb⟩, pd⟩ := hb
          split at h
          · rename_i i j l ca' cb' cd' hi hj hl h1 h2 h3
            cases h
            exact s_par3 (O.o.cal hc).1 (by rw [O.o.hN]; exact O.o.nd) (by rw [O.o.hN]; exact slot_ok hi) (by rw [O.o.hN]; exact slot_ok hj) (by rw [O.o.hN]; exact slot_ok hl) n1 n2 n3 kf (by rw [O.o.hsc]; exact eqLoc hx) (by rw [O.o.hsc]; exact eqLoc hy) (by rw [O.o.hsc]; exact eqLoc hz) (en h1) (en h2) (en h3) pa pb pd hl1 hl2 f1 f2
          · cases h
        · split at h
          · rename_i hb
            rw [Bool.and_eq_true] at hb
            split at h
            · rename_i ct ce hg he
              cases h
              have g := (sound_g (T := T) (k := k) (fa := fa) (XR := XRc X.K fa ca cn) (F := F) n).1 O.o hb.1 hg
              exact s_set (en he) g.1 rfl (swNone_ok (by rw [O.o.hsc]; exact hb.2)) g.2
            · cases h
          · cases h
      · -- a target of several
        split at h
        · rename_i hb
          rw [Bool.and_eq_true, Bool.and_eq_true] at hb
          split at h
          · rename_i ct ce hg he
            cases h
            obtain ⟨g1, g2, g3⟩ := (sound_g (T := T) (k := k) (fa := fa) (XR := XRc X.K fa ca cn) (F := F) n).2 O.o hb.1.1 hg
            refine s_setU (O.o.cal hb.1.1).1 (en he) g1 g2 g3 (swSole hb.1.2) ?_
            rcases Bool.or_eq_true _ _ ▸ hb.2 with z | z
            · exact noTup_sw (by simpa using z)
            · exact swNone_ok (by rw [O.o.hsc]; exact z)
          · cases h
        · cases h
      · -- o[i] = e
        split at h
        · rename_i hb
          rw [Bool.and_eq_true, Bool.and_eq_true] at hb
          split at h
          · rename_i co ci ce h1 h2 h3
            cases h
            exact s_put (en h1) (en h2) (en h3) (swSole hb.1.1) (noTup_sw (by simpa using hb.1.2)) (noSlice_assign hb.2)
          · cases h
        · cases h
      · -- +=
        split at h
        · rename_i hl
          split at h
          · rename_i i ce hi he
            cases h
            exact s_aug (neg := false) (by rw [O.o.hN]; exact O.o.nd) (by rw [O.o.hN]; exact slot_ok hi) (O.o.sto _ hl).1 (O.o.sto _ hl).2 (en he) Mi.ip_add
          · cases h
        · cases h
      · split at h
        · rename_i hl
          split at h
          · rename_i i ce hi he
            cases h
            exact s_aug (neg := true) (by rw [O.o.hN]; exact O.o.nd) (by rw [O.o.hN]; exact slot_ok hi) (O.o.sto _ hl).1 (O.o.sto _ hl).2 (en he) Mi.ip_sub
          · cases h
        · cases h
      · -- append
        split at h
        · rename_i hb
          rw [Bool.and_eq_true, Bool.and_eq_true, Bool.and_eq_true, decide_eq_true_eq] at hb
          obtain ⟨hb, hns⟩ := hb
          split at h
          · rename_i co ce h1 h2
            cases h
            rw [hb.1.1]
            exact s_push (en h1) (en h2) hb.2 (pe_bm PySem.F.plainAttrs_list PySem.F.slot_list_append PySem.F.type_list_append mt_append (en h1) (pa_cons (en h2) pa_nil (star_cons hb.2)) (base_ok hns) (few_one hb.2) hb.1.2 (star_cons hb.2) rfl) rfl
          · cases h
        · cases h
      · -- an expression
        split at h
        · rename_i hb
          split at h
          · rename_i ce he
            cases h
            exact s_drop (en he) (noComp_sw hb)
          · cases h
        · cases h
      · split at h
        · rename_i ce he
          cases h
          exact s_ret (en he)
        · cases h
      · cases h; exact s_retN
      · -- if
        split at h
        · rename_i ct ca' cb' h1 h2 h3
          cases h
          exact s_cond ((soundN n).sT O.o h1).1 (ih.sSs hk O h2) (ih.sSs hk O h3)
        · cases h
      · -- for
        split at h
        · rename_i hb
          rw [Bool.and_eq_true] at hb
          split at h
          · rename_i src ces ct cb h1 h2 h3
            cases h
            exact s_each (O.t hb.1).pas (O.o.cal hb.1).1 ((soundN n).sI O.o h1) ((sound_g (T := T) (k := k) (fa := fa) (XR := XRc X.K fa ca cn) (F := F) n).1 O.o hb.1 h2).1 (ih.sSs hk O h3) (fun x => noSet_fold hb.2)
          · cases h
        · cases h
      · -- while
        split at h
        · rename_i hb
          split at h
          · rename_i ct cb h1 h2
            cases h
            exact s_loop (O.t hb).pas ((soundN n).sT O.o h1).1 (ih.sSs hk O h2)
          · cases h
        · cases h
      · cases h; exact s_pass
      · cases h; exact s_brk
      · cases h; exact s_cont
      · -- raise
        split at h
        · rename_i hb
          rw [Bool.and_eq_true, Bool.and_eq_true] at hb
          split at h
          · rename_i i hi
            cases h
            obtain ⟨e0, C, fI, fd, h1, h2, h3, h4, h5, h6, h7⟩ := (O.t hb.1.1).gx.exc _ _ hi
            exact s_raise0 (O.o.cal hb.1.1).1 O.o.takes (pmk_new h3 h4 h5 h6 ((O.o.cal hb.1.1).2.1.mono hk) h7 (gl_of O.o.hsc hb.2) h2 (okN hb.1.2).1) h1 e0
          · cases h
        · cases h
      · -- try
        split at h
        · rename_i hb
          subst hb
          split at h
          · rename_i cb chs h1 h2
            cases h
            exact s_try (O.t rfl).nof (O.t rfl).stk (O.t rfl).frm O.o.takes (fun W' pn xe tk hp => ih.sSs hk (O.tr pn xe tk hp) h1) (ih.sH hk O h2)
          · cases h
        · cases h
      · cases h
    · cases sts with
      | nil => cases h; exact ss_nil
      | cons st sts =>
        unfold cSs at h
        split at h
        · rename_i cst csts h1 h2
          cases h
          exact ss_cons (ih.sS hk O h1) (ih.sSs hk O h2)
        · cases h
    · cases hds with
      | nil => cases h; exact .nil
      | cons hd hds =>
        unfold cHs at h
        split at h
        · rename_i e; cases e
        · rename_i e1 e2; cases e2
        · rename_i e0 e
          cases e0
          cases e
          split at h
          · rename_i hb
            rw [Bool.and_eq_true] at hb
            split at h
            · rename_i cl ns cb chs h1 h2 h3
              cases h
              obtain ⟨cv, n1, n2, n3⟩ := names_of O hb.1 hb.2 h1
              exact .plain n1 n2 (fun a oe pn => ih.sSs hk (O.suite0 a oe pn) h2) (ih.sH hk O h3)
            · cases h
          · cases h
        · rename_i e0 e
          cases e0
          cases e
          split at h
          · rename_i hb
            rw [Bool.and_eq_true, Bool.and_eq_true] at hb
            split at h
            · rename_i cl ns cb chs i h1 h2 h3 h4
              cases h
              obtain ⟨cv, n1, n2, n3⟩ := names_of O hb.1.1 hb.1.2 h1
              exact .named n1 n2 (by rw [O.o.hN]; exact O.o.nd) (by rw [O.o.hN]; exact slot_ok h4) (by show X.env.scope.names.lookup _ = _; rw [O.o.hsc]; exact eqLoc hb.2) n3
                (fun a oe C d pn ⟨x, q1, q2, q3⟩ hz hd => ih.sSs hk (O.suite a oe C d pn ⟨x, q2, q3⟩ hz hd) h2) (ih.sH hk O h3)
            · cases h
          · cases h
        · cases h
end
end Mi

set_option linter.all false
set_option maxRecDepth 100000
set_option maxHeartbeats 8000000
namespace Mi
open PySem PySem.Spec PyProof.Rows L2

section
variable {K : PySem.W.Frag} {fa : Nat → Option Addr} {H H' : Hp} {m m' t : List Addr}
mutual
/-- cells that are not named may go -/
theorem Rp.cut {n : Nat} (hn : n ≤ m.length) : ∀ {d : D} {v : V}, refsLt n d = true → Rp K fa H (m ++ t) d v → Rp K fa H m d v
  | .non, _, _, h => h
  | .bl _, _, _, h => h
  | .int _, _, _, h => h
  | .str _, _, _, h => h
  | .tup xs, _, z, h => by
    obtain ⟨p, vs, e, q, r⟩ := h
    exact ⟨p, vs, e, q, RpL.cut hn (ds := xs) z r⟩
  | .lk xs, _, z, h => by
    obtain ⟨p, vs, e, q, r⟩ := h
    exact ⟨p, vs, e, q, RpL.cut hn (ds := xs) z r⟩
  | .ref j, _, z, h => by
    obtain ⟨p, e, q⟩ := h
    have hj : j < m.length := Nat.le_trans (Nat.ble_eq.mp (show Nat.ble (j + 1) n = true from z)) hn
    rw [List.getElem?_append_left hj] at q
    exact ⟨p, e, q⟩
  | .fn _, _, _, h => h
  | .err _ _ fs, _, z, h => by
    obtain ⟨p, e, q, x⟩ := h
    exact ⟨p, e, q, x.elim .inl fun ⟨dd, vs, z1, z2, z3⟩ => .inr ⟨dd, vs, z1, z2, RpL.cut hn (ds := fs) z z3⟩⟩
theorem RpL.cut {n : Nat} (hn : n ≤ m.length) : ∀ {ds : List D} {vs : List V}, refsLtL n ds = true → RpL K fa H (m ++ t) ds vs → RpL K fa H m ds vs
  | [], _, _, h => h
  | d :: ds, _, z, h => by
    have z : (refsLt n d && refsLtL n ds) = true := z
    rw [Bool.and_eq_true] at z
    obtain ⟨v, r, e, q, q2⟩ := h
    exact ⟨v, r, e, Rp.cut hn z.1 q, RpL.cut hn z.2 q2⟩
end
theorem CellOk.cut {n : Nat} {a : Addr} {x : Cell} (hn : n ≤ m.length) (z : cellLt n x = true) (h : CellOk K fa H (m ++ t) a x) : CellOk K fa H m a x := by
  cases x with
  | lst xs =>
    obtain ⟨vs, e, r⟩ := h
    exact ⟨vs, e, RpL.cut hn z r⟩
  | dct xs =>
    obtain ⟨vs, e, r⟩ := h
    exact ⟨vs, e, RpL.cut hn z r⟩
theorem cell_mono {n k : Nat} {x : Cell} (h : n ≤ k) (z : cellLt n x = true) : cellLt k x = true := by
  cases x with
  | lst xs => exact refsL_mono h z
  | dct xs => exact refsL_mono h z
theorem low_take {s : S} {n : Nat} (R : RelS K fa H m s) (hk : cleanTo n s.e = true) {k : Nat} {x : Cell} (hkn : k < n) (e : s.l[k]? = some x) : cellLt (k + 1) x = true := R.low k x e fun j ej => by
  rw [ej] at hk
  exact Nat.lt_of_lt_of_le hkn (Nat.ble_eq.mp hk)
/-- behind a call -/
theorem gc_ok {α : Type} {XR : Nat → List D → Value → Option Addr → Hp → List Addr → Prop} {W : WX} {σ : L2.St} {Q : VK} {H0 : Hp} {d : D} {v : V} {s : S} (l : Le H0 m H m') (R : RelS K fa H m' s) (r : Rp K fa H m' d v)
    (h : Post K fa XR (Rp K fa) W σ H0 m (gc m.length d s) Q) : Q v H := by
  obtain ⟨t, rfl⟩ := l.pre
  have l0 : ∀ t2, (∀ a ∈ t2, a ∈ t) → Le H0 m H (m ++ t2) := fun t2 hs => ⟨⟨l.tup, l.frz, l.xd, t2, rfl⟩, fun t3 e a ha => l.fresh t rfl a (hs a (by rw [List.append_cancel_left e]; exact ha)), l.frame, l.dom⟩
  have ln : Le H0 m H m := by
    have := l0 [] (fun a ha => nomatch ha)
    rw [List.append_nil] at this
    exact this
  unfold gc at h
  by_cases hk : cleanTo m.length s.e = true
  · rw [if_pos hk] at h
    have hlen : m.length ≤ s.l.length := by rw [← R.rel.len, List.length_append]; omega
    have hsub : m.Nodup := R.rel.nd.sublist (List.sublist_append_left m t)
    have okT : ∀ (k : Nat) (a : Addr) (x : Cell), m[k]? = some a → (s.l.take m.length)[k]? = some x → CellOk K fa H m a x := fun k a x e1 e2 => by
      have hkn : k < m.length := by
        rcases Nat.lt_or_ge k m.length with q | q
        · exact q
        · rw [List.getElem?_eq_none q] at e1; cases e1
      rw [List.getElem?_take_of_lt hkn] at e2
      exact (R.rel.ok k a x (by rw [List.getElem?_append_left hkn]; exact e1) e2).cut (n := k + 1) hkn (low_take R hk hkn e2)
    have lowT : ∀ (k : Nat) (x : Cell), (s.l.take m.length)[k]? = some x → cellLt (k + 1) x = true := fun k x e2 => by
      have hkn : k < m.length := by
        rcases Nat.lt_or_ge k m.length with q | q
        · exact q
        · rw [List.getElem?_eq_none (by rw [List.length_take]; omega)] at e2; cases e2
      rw [List.getElem?_take_of_lt hkn] at e2
      exact low_take R hk hkn e2
    split at h
    · rename_i hd
      refine h v H m ln ⟨⟨by rw [List.length_take]; omega, hsub, okT⟩, fun k x e _ => lowT k x e⟩ (r.cut (Nat.le_refl _) hd)
    · rename_i hd
      split at h
      · rename_i k
        split at h
        · rename_i x ex
          split at h
          · rename_i hx
            obtain ⟨a, rfl, ea⟩ := r
            have hkn : m.length ≤ k := by
              rcases Nat.lt_or_ge k m.length with q | q
              · exact absurd (Nat.ble_eq.mpr q : Nat.ble (k + 1) m.length = true) hd
              · exact q
            have hc := R.rel.ok k a x ea ex
            have hma : a ∉ m := fun z => by
              have ht : a ∈ t := by
                rw [List.getElem?_append_right hkn] at ea
                exact List.mem_of_getElem? ea
              exact (List.nodup_append.mp R.rel.nd).2.2 a z a ht rfl
            have lm : LeW H m H (m ++ [a]) := ⟨fun _ _ e => e, fun _ _ _ e => e, fun _ _ e => e, [a], rfl⟩
            have upC : ∀ {b : Addr} {y : Cell}, CellOk K fa H m b y → CellOk K fa H (m ++ [a]) b y := fun {b y} q => by
              cases y with
              | lst ys =>
                obtain ⟨vs, e, rr⟩ := q
                exact ⟨vs, e, rr.leW lm⟩
              | dct ys =>
                obtain ⟨vs, e, rr⟩ := q
                exact ⟨vs, e, rr.leW lm⟩
            refine h (.ref a) H (m ++ [a]) (l0 [a] (fun b hb => by rw [List.mem_singleton.mp hb]; rw [List.getElem?_append_right hkn] at ea; exact List.mem_of_getElem? ea)) ⟨⟨by rw [List.length_append, List.length_append, List.length_take]; simp; omega, ?_, fun j b y e1 e2 => ?_⟩, fun j y e2 _ => ?_⟩ ⟨a, rfl, by rw [List.getElem?_append_right (Nat.le_refl _)]; simp⟩
            · rw [List.nodup_append]
              refine ⟨hsub, by simp, fun p hp q hq => ?_⟩
              have e : q = a := by simpa using hq
              rw [e]
              exact fun z => hma (z ▸ hp)
            · by_cases hj : j < m.length
              · rw [List.getElem?_append_left hj] at e1
                rw [List.getElem?_append_left (by rw [List.length_take]; omega)] at e2
                exact upC (okT j b y e1 e2)
              · have hz : (s.l.take m.length).length = m.length := by rw [List.length_take]; omega
                rw [List.getElem?_append_right (by omega)] at e1
                rw [List.getElem?_append_right (by omega), hz] at e2
                cases q : j - m.length with
                | zero =>
                  rw [q] at e1 e2
                  simp at e1 e2
                  subst e1; subst e2
                  exact upC (hc.cut (Nat.le_refl _) hx)
                | succ i => rw [q] at e1; simp at e1
            · by_cases hj : j < m.length
              · rw [List.getElem?_append_left (by rw [List.length_take]; omega)] at e2
                exact lowT j y e2
              · have hz : (s.l.take m.length).length = m.length := by rw [List.length_take]; omega
                rw [List.getElem?_append_right (by omega), hz] at e2
                cases q : j - m.length with
                | zero =>
                  rw [q] at e2
                  simp at e2
                  subst e2
                  exact cell_mono (by omega) hx
                | succ i => rw [q] at e2; simp at e2
          · exact h _ H _ l R r
        · exact h _ H _ l R r
      · exact h _ H _ l R r
  · rw [if_neg hk] at h
    exact h _ H _ l R r
end
section
variable {P : Program} {w : World} {K : PySem.W.Frag} {mg : Str → Option Value} {base : Heap} {x qual : Str} {params : Arguments} {body : List Stmt} {scope : Scope} {f : Addr} {fd : FuncData} {fa : Nat → Option Addr} {ca : Nat → Option Addr} {cn : Nat → List Str}
theorem start_env {H : Hp} {m : List Addr} {N : List Str} {ds : List Mi.D} {vs : List V} {n : Nat} (r : RpL K fa H m ds vs) (hn : ds.length = n) : EnvR K fa H m (L2.start N vs) (ds.map some ++ List.replicate (N.length - n) none) := by
  have hl := r.length
  refine ⟨by unfold L2.start; simp [hl, ← hn], fun i d e => ?_⟩
  have hi : i < ds.length := by
    rcases Nat.lt_or_ge i ds.length with q | q
    · exact q
    · rw [List.getElem?_append_right (by rw [List.length_map]; exact q)] at e
      rw [List.getElem?_replicate] at e
      split at e <;> cases e
  rw [List.getElem?_append_left (by rw [List.length_map]; exact hi), List.getElem?_map] at e
  cases q : ds[i]? with
  | none => rw [q] at e; cases e
  | some y =>
    rw [q] at e
    cases e
    obtain ⟨v, h1, h2⟩ := r.get q
    exact ⟨v, by unfold L2.start; rw [List.getElem?_append_left (by rw [List.length_map, ← hl]; exact hi), List.getElem?_map, h1]; rfl, h2⟩
/-- THE DEF RULE: the compiled body is the def's promise -/
theorem def_ok {T : Tb} {N ps : List Str} {n k i : Nat} {csts : CSs} {Fs G : Funs} (Fd : FunD K x qual params body scope [] [] f fd) (S : FnScope N ps scope) (hk : 2 ≤ k) (hc : cSs T N n true scope body = some csts) (gv : GoodV T K mg fa) (gC : GoodC T P w K mg base k fa (XRc K fa ca cn) Fs)
    (gx : GoodX T P w K mg base ca cn) (nof : ∀ n, 999999 ≤ n → fa n = none) (hG : ∀ ds s, G i ds s = runDef Fs ⟨N.length, ps.length, csts⟩ ds s) : FnOk P w K mg base (L2.CX P w) (k + 1) f fd ps (spI K fa (XRc K fa ca cn) G i ps.length) := by
  refine Fd.ok S (fun vs H Q E h => h.1) (fun cdv A outer s H vs Q E hr h => ?_)
  obtain ⟨hl, m, st, ds, R, r, h⟩ := h
  rw [hG] at h
  have O : SOk T N true scope k fa ca cn Fs (cxOf (L2.CX P w) P w K mg base N qual scope f cdv A outer s H E) (fun cls d _ H => E cls d H) :=
    ⟨{ hN := rfl, nd := S.nd, hsc := rfl, val := gv, cal := fun _ => ⟨rfl, hr, ⟨gC.fn, gC.val⟩⟩, sto := fun y hy => ⟨loc_of hy, .inl rfl⟩, takes := L2.takes_of rfl rfl rfl rfl, iso := fun z => by cases z }, S.kind,
      fun _ => ⟨L2.passes_of rfl, rfl, rfl, gx, nof⟩⟩
  refine ⟨_, (soundS n).sSs hk O hc, m, _, st, R, start_env (n := ps.length) r (r.length.trans hl), ?_⟩
  unfold runDef at h
  split at h
  · rename_i hh
    have hlm : st.l.length = m.length := R.rel.len.symm
    cases e : exs Fs csts (ds.map some ++ List.replicate (N.length - ps.length) none) st with
    | no => rw [e] at h; exact h.elim
    | ex y fs ρ s2 =>
      rw [e] at h
      exact fun cls d σ' H' m' l' R' E' z => h cls d H' m' l' R' z
    | ok fl s2 =>
      rw [e] at h
      cases fl with
      | nx ρ =>
        dsimp only at h
        rw [hlm] at h
        exact fun σ' H' m' l' R' E' => gc_ok (α := Unit) l' R' (d := .non) rfl h
      | rt d =>
        dsimp only at h
        rw [hlm] at h
        exact fun v H' m' l' R' r' => gc_ok (α := Unit) l' R' r' h
      | bk ρ => exact h.elim
      | ct ρ => exact h.elim
  · exact h.elim
end
end Mi

set_option linter.all false
set_option maxRecDepth 100000
set_option maxHeartbeats 8000000
namespace Mi
open PySem PySem.Spec PyProof.Rows L2

/-! ### calls whose arguments name no cell run by themselves -/
mutual
def shD (n : Nat) : D → D
  | .tup xs => .tup (shL n xs)
  | .lk xs => .lk (shL n xs)
  | .ref k => .ref (n + k)
  | .err c ns fs => .err c ns (shL n fs)
  | .non => .non
  | .bl b => .bl b
  | .int i => .int i
  | .str x => .str x
  | .fn k => .fn k
def shL (n : Nat) : List D → List D
  | [] => []
  | d :: ds => shD n d :: shL n ds
end
def shC (n : Nat) : Cell → Cell
  | .lst xs => .lst (shL n xs)
  | .dct kvs => .dct (kvs.map fun p => (p.1, shD n p.2))
def shE (n : Nat) : Option Nat → Option Nat → Option Nat
  | a, none => a
  | none, some j => some (n + j)
  | some i, some j => some (if Nat.ble i (n + j) then i else n + j)
/-! the same values, written out -/
def nfN {α : Type} (n : Nat) (k : Nat → α) : α := match n with
  | 0 => k 0
  | m + 1 => k (Nat.succ m)
def nfI {α : Type} (i : Int) (k : Int → α) : α := match i with
  | .ofNat n => nfN n fun n => k (.ofNat n)
  | .negSucc n => nfN n fun n => k (.negSucc n)
def nfB {α : Type} (b : Bool) (k : Bool → α) : α := match b with
  | true => k true
  | false => k false
mutual
def nfD {α : Type} : D → (D → α) → α
  | .tup xs, k => nfL xs fun ys => k (.tup ys)
  | .int i, k => nfI i fun j => k (.int j)
  | .bl b, k => nfB b fun b => k (.bl b)
  | .non, k => k .non
  | .str x, k => k (.str x)
  | .lk xs, k => k (.lk xs)
  | .ref n, k => nfN n fun n => k (.ref n)
  | .fn n, k => k (.fn n)
  | .err c ns fs, k => k (.err c ns fs)
def nfL {α : Type} : List D → (List D → α) → α
  | [], k => k []
  | d :: ds, k => nfD d fun d => nfL ds fun ds => k (d :: ds)
end
theorem nfN_eq {α : Type} (n : Nat) (k : Nat → α) : nfN n k = k n := by cases n <;> rfl
theorem nfI_eq {α : Type} (i : Int) (k : Int → α) : nfI i k = k i := by
  cases i with
  | ofNat n => exact nfN_eq n (fun n => k (.ofNat n))
  | negSucc n => exact nfN_eq n (fun n => k (.negSucc n))
theorem nfB_eq {α : Type} (b : Bool) (k : Bool → α) : nfB b k = k b := by cases b <;> rfl
mutual
theorem nfD_eq {α : Type} : ∀ (d : D) (k : D → α), nfD d k = k d
  | .tup xs, k => by
    show nfL xs (fun ys => k (.tup ys)) = _
    rw [nfL_eq xs]
  | .int i, k => nfI_eq i (fun j => k (.int j))
  | .bl b, k => nfB_eq b (fun b => k (.bl b))
  | .non, _ => rfl
  | .str _, _ => rfl
  | .lk _, _ => rfl
  | .ref n, k => nfN_eq n (fun n => k (.ref n))
  | .fn _, _ => rfl
  | .err _ _ _, _ => rfl
theorem nfL_eq {α : Type} : ∀ (ds : List D) (k : List D → α), nfL ds k = k ds
  | [], _ => rfl
  | d :: ds, k => by
    show nfD d (fun d => nfL ds fun ds => k (d :: ds)) = _
    rw [nfD_eq d, nfL_eq ds]
end
def clO (F : Funs) : Funs := fun f ds s => if refsLtL 0 ds then match F f ds ⟨[], none⟩ with
  | .ok d s' => match s'.l with
    | [] => .ok d s
    | _ :: _ => .ok (shD s.l.length d) ⟨s.l ++ s'.l.map (shC s.l.length), shE s.l.length s.e s'.e⟩
  | .ex x fs s' => if refsLtL 0 fs then .ex x fs s else .no
  | .no => .no
  else F f ds s
def cl (F : Funs) : Funs := fun f ds s => nfL ds fun ds => if refsLtL 0 ds then match F f ds ⟨[], none⟩ with
  | .ok d s' => nfD d fun d => match s'.l with
    | [] => .ok d s
    | _ :: _ => .ok (shD s.l.length d) ⟨s.l ++ s'.l.map (shC s.l.length), shE s.l.length s.e s'.e⟩
  | .ex x fs s' => if refsLtL 0 fs then .ex x fs s else .no
  | .no => .no
  else F f ds s
theorem cl_eq (F : Funs) (f : Nat) (ds : List D) (s : S) : cl F f ds s = clO F f ds s := by
  unfold cl
  rw [nfL_eq]
  unfold clO
  simp only [nfD_eq]
def runC (T : List Fn) : Nat → Funs
  | 0 => fun _ _ _ => .no
  | k + 1 => cl fun f ds s => match T[f]? with
    | some fn => runDef (runC T k) fn ds s
    | none => .no

section
variable {K : PySem.W.Frag} {fa : Nat → Option Addr} {H H' : Hp} {m m' t : List Addr}
mutual
theorem Rp.sh : ∀ {d : D} {v : V}, Rp K fa H m' d v → Rp K fa H (m ++ m') (shD m.length d) v
  | .non, _, h => h
  | .bl _, _, h => h
  | .int _, _, h => h
  | .str _, _, h => h
  | .tup xs, _, h => by
    obtain ⟨p, vs, e, q, r⟩ := h
    exact ⟨p, vs, e, q, RpL.sh r⟩
  | .lk xs, _, h => by
    obtain ⟨p, vs, e, q, r⟩ := h
    exact ⟨p, vs, e, q, RpL.sh r⟩
  | .ref j, _, h => by
    obtain ⟨p, e, q⟩ := h
    exact ⟨p, e, by rw [List.getElem?_append_right (Nat.le_add_right _ _), Nat.add_sub_cancel_left]; exact q⟩
  | .fn _, _, h => h
  | .err _ _ [], _, h => by
    obtain ⟨p, e, q, x⟩ := h
    exact ⟨p, e, q, x.elim .inl fun ⟨dd, vs, z1, z2, z3⟩ => .inr ⟨dd, vs, z1, z2, RpL.sh z3⟩⟩
  | .err _ _ (f :: fs), _, h => by
    obtain ⟨p, e, q, x⟩ := h
    refine ⟨p, e, q, ?_⟩
    rcases x with x | ⟨dd, vs, z1, z2, z3⟩
    · cases x.1
    · exact .inr ⟨dd, vs, z1, z2, RpL.sh z3⟩
theorem RpL.sh : ∀ {ds : List D} {vs : List V}, RpL K fa H m' ds vs → RpL K fa H (m ++ m') (shL m.length ds) vs
  | [], _, h => h
  | d :: ds, _, h => by
    obtain ⟨v, r, e, q, q2⟩ := h
    exact ⟨v, r, e, Rp.sh q, RpL.sh q2⟩
end
mutual
theorem refs_sh {n k : Nat} : ∀ {d : D}, refsLt k d = true → refsLt (n + k) (shD n d) = true
  | .non, _ => rfl
  | .bl _, _ => rfl
  | .int _, _ => rfl
  | .str _, _ => rfl
  | .fn _, _ => rfl
  | .tup xs, h => refsL_sh (ds := xs) h
  | .lk xs, h => refsL_sh (ds := xs) h
  | .err _ _ fs, h => refsL_sh (ds := fs) h
  | .ref j, h => by
    have := Nat.le_of_ble_eq_true (show Nat.ble (j + 1) k = true from h)
    exact Nat.ble_eq_true_of_le (show n + j + 1 ≤ n + k by omega)
theorem refsL_sh {n k : Nat} : ∀ {ds : List D}, refsLtL k ds = true → refsLtL (n + k) (shL n ds) = true
  | [], _ => rfl
  | d :: ds, h => by
    have h : (refsLt k d && refsLtL k ds) = true := h
    rw [Bool.and_eq_true] at h
    show (refsLt (n + k) (shD n d) && refsLtL (n + k) (shL n ds)) = true
    rw [refs_sh h.1, refsL_sh h.2]; rfl
end
theorem shL_map (n : Nat) : ∀ ds : List D, shL n ds = ds.map (shD n)
  | [] => rfl
  | d :: ds => by rw [List.map_cons, ← shL_map n ds]; rfl
theorem cell_sh {n k : Nat} {x : Cell} (h : cellLt k x = true) : cellLt (n + k) (shC n x) = true := by
  cases x with
  | lst xs => exact refsL_sh h
  | dct kvs =>
    have h : refsLtL k (kvs.map (·.2)) = true := h
    have := refsL_sh (n := n) h
    rw [shL_map] at this
    show refsLtL (n + k) ((kvs.map fun p => (p.1, shD n p.2)).map (·.2)) = true
    rw [List.map_map] at this ⊢
    exact this
theorem CellOk.sh {a : Addr} {x : Cell} (h : CellOk K fa H m' a x) : CellOk K fa H (m ++ m') a (shC m.length x) := by
  cases x with
  | lst xs =>
    obtain ⟨vs, e, r⟩ := h
    exact ⟨vs, e, RpL.sh r⟩
  | dct kvs =>
    obtain ⟨vs, e, r⟩ := h
    refine ⟨vs, ?_, ?_⟩
    · have : dV (kvs.map fun p => (p.1, shD m.length p.2)) vs = dV kvs vs := by
        unfold dV
        rw [List.map_map]
        rfl
      rw [this]; exact e
    · have := RpL.sh (m := m) r
      rw [shL_map, List.map_map] at this
      rw [List.map_map]
      exact this
theorem CellOk.w {a : Addr} {x : Cell} (hh : H' a = H a) (l : LeW H m H' m') (h : CellOk K fa H m a x) : CellOk K fa H' m' a x := by
  cases x with
  | lst xs =>
    obtain ⟨vs, e, r⟩ := h
    exact ⟨vs, hh.trans e, r.leW l⟩
  | dct xs =>
    obtain ⟨vs, e, r⟩ := h
    exact ⟨vs, hh.trans e, r.leW l⟩
theorem shE_1 {n : Nat} {a b : Option Nat} {k : Nat} (h : ∀ e, shE n a b = some e → k < e) : ∀ e, a = some e → k < e := fun e ha => by
  subst ha
  cases b with
  | none => exact h e rfl
  | some j =>
    have := h (if Nat.ble e (n + j) then e else n + j) rfl
    by_cases q : Nat.ble e (n + j) = true
    · rw [if_pos q] at this; exact this
    · rw [if_neg q] at this
      have : n + j < e := by
        rcases Nat.lt_or_ge (n + j) e with z | z
        · exact z
        · exact absurd (Nat.ble_eq_true_of_le z) q
      omega
theorem shE_2 {n : Nat} {a b : Option Nat} {k : Nat} (h : ∀ e, shE n a b = some e → k < e) : ∀ e, b = some e → k < n + e := fun e hb => by
  subst hb
  cases a with
  | none => exact h _ rfl
  | some i =>
    have := h (if Nat.ble i (n + e) then i else n + e) rfl
    by_cases q : Nat.ble i (n + e) = true
    · rw [if_pos q] at this
      have := Nat.le_of_ble_eq_true q
      omega
    · rw [if_neg q] at this; exact this
end
section
variable {P : Program} {w : World} {K : PySem.W.Frag} {fa : Nat → Option Addr} {ca : Nat → Option Addr} {cn : Nat → List Str} {F : Funs}
theorem relS_nil {H : Hp} : RelS K fa H [] ⟨[], none⟩ := ⟨⟨rfl, by simp, fun k b x e1 _ => by simp at e1⟩, fun k x e1 _ => by simp at e1⟩
theorem cl_ok {f n : Nat} {vs : List V} {H : Hp} {Q : VK} {E : XK} (h : spI K fa (XRc K fa ca cn) (cl F) f n vs H Q E) : spI K fa (XRc K fa ca cn) F f n vs H Q E := by
  obtain ⟨hl, m, s, ds, R, r, h⟩ := h
  rw [cl_eq] at h
  unfold clO at h
  by_cases hc : refsLtL 0 ds = true
  · rw [if_pos hc] at h
    refine ⟨hl, [], ⟨[], none⟩, ds, relS_nil, RpL.cut (t := m) (n := 0) (Nat.zero_le _) hc r, ?_⟩
    have LW : ∀ {H' : Hp} {m' : List Addr}, Le H [] H' m' → Le H m H' (m ++ m') := fun {H' m'} l => ⟨⟨l.tup, l.frz, l.xd, m', rfl⟩, fun t e a ha => l.fresh m' rfl a (by rw [List.append_cancel_left e]; exact ha), fun a o _ e => l.frame a o (fun z => nomatch z) e, l.dom⟩
    have L1 : ∀ {H' : Hp} {m' : List Addr}, Le H [] H' m' → Le H m H' m := fun {H' m'} l => ⟨⟨l.tup, l.frz, l.xd, [], (List.append_nil _).symm⟩, Le.refl.fresh, fun a o _ e => l.frame a o (fun z => nomatch z) e, l.dom⟩
    have R1 : ∀ {H' : Hp} {m' t : List Addr}, Le H [] H' m' → ∀ (k : Nat) (a : Addr) (x : Cell), m[k]? = some a → s.l[k]? = some x → CellOk K fa H' (m ++ t) a x := fun {H' m' t} l k a x e1 e2 => by
      have q := R.rel.ok k a x e1 e2
      have hn := q.at
      obtain ⟨o, ho⟩ := Option.ne_none_iff_exists'.mp hn
      exact q.w (by rw [ho]; exact l.frame a o (fun z => nomatch z) ho) ⟨l.tup, l.frz, l.xd, t, rfl⟩
    cases e : F f ds ⟨[], none⟩ with
    | no => rw [e] at h; exact h.elim
    | ex x fs s' =>
      rw [e] at h
      dsimp only at h
      by_cases hf : refsLtL 0 fs = true
      · rw [if_pos hf] at h
        intro cls d H' m' l R' xr
        have R2 : RelS K fa H' m s := ⟨⟨R.rel.len, R.rel.nd, fun k a x e1 e2 => by have := R1 (t := []) l k a x e1 e2; rw [List.append_nil] at this; exact this⟩, R.low⟩
        refine h cls d H' m (L1 l) R2 ?_
        obtain ⟨C, h1, h2, h3⟩ := xr
        refine ⟨C, h1, h2, h3.elim .inl fun ⟨z1, dd, ws, z2, z3, z4⟩ => .inr ⟨z1, dd, ws, z2, z3, ?_⟩⟩
        have q : RpL K fa H' [] fs ws := RpL.cut (m := []) (t := m') (n := 0) (Nat.zero_le _) hf z4
        exact q.leW ⟨fun _ _ e => e, fun _ _ _ e => e, fun _ _ e => e, m, rfl⟩
      · rw [if_neg hf] at h; exact h.elim
    | ok d s' =>
      rw [e] at h
      obtain ⟨l', e'⟩ := s'
      intro b H' m' l R' r'
      have hlen : m.length = s.l.length := R.rel.len
      cases l' with
      | nil =>
        have hm' : m' = [] := List.length_eq_zero_iff.mp R'.rel.len
        subst hm'
        have R2 : RelS K fa H' m s := ⟨⟨R.rel.len, R.rel.nd, fun k a x e1 e2 => by have := R1 (t := []) l k a x e1 e2; rw [List.append_nil] at this; exact this⟩, R.low⟩
        exact h b H' m (L1 l) R2 (r'.leW ⟨fun _ _ e => e, fun _ _ _ e => e, fun _ _ e => e, m, rfl⟩)
      | cons c0 cs =>
        have h : Post K fa (XRc K fa ca cn) (Rp K fa) (fun c d _ H => E c d H) [] H m (.ok (shD s.l.length d) ⟨s.l ++ (c0 :: cs).map (shC s.l.length), shE s.l.length s.e e'⟩) Q := h
        rw [← hlen] at h
        generalize hcs : c0 :: cs = l2 at h R'
        refine h b H' (m ++ m') (LW l) ⟨⟨?_, ?_, fun k a x e1 e2 => ?_⟩, fun k x e1 e2 => ?_⟩ (Rp.sh r')
        · rw [List.length_append, List.length_append, List.length_map, R.rel.len]
          exact congrArg (s.l.length + ·) R'.rel.len
        · rw [List.nodup_append]
          refine ⟨R.rel.nd, R'.rel.nd, fun a ha b hb z => ?_⟩
          subst z
          exact R.rel.mem ha (l.fresh m' rfl a hb)
        · by_cases hk : k < m.length
          · rw [List.getElem?_append_left hk] at e1
            rw [List.getElem?_append_left (by rw [← R.rel.len]; exact hk)] at e2
            exact R1 l k a x e1 e2
          · rw [List.getElem?_append_right (by omega)] at e1
            rw [List.getElem?_append_right (by rw [← R.rel.len]; omega), List.getElem?_map, ← hlen] at e2
            cases q : l2[k - m.length]? with
            | none => rw [q] at e2; cases e2
            | some y =>
              rw [q] at e2
              cases e2
              exact (R'.rel.ok _ a y e1 q).sh
        · by_cases hk : k < m.length
          · have e1 : (s.l ++ l2.map (shC m.length))[k]? = some x := e1
            rw [List.getElem?_append_left (by rw [← R.rel.len]; exact hk)] at e1
            exact R.low k x e1 (shE_1 e2)
          · have e1 : (s.l ++ l2.map (shC m.length))[k]? = some x := e1
            rw [List.getElem?_append_right (by rw [← R.rel.len]; omega), List.getElem?_map, ← hlen] at e1
            cases q : l2[k - m.length]? with
            | none => rw [q] at e1; cases e1
            | some y =>
              rw [q] at e1
              cases e1
              have z := R'.low (k - m.length) y q fun e he => by
                have := shE_2 e2 e he
                omega
              have := cell_sh (n := m.length) z
              rw [show m.length + (k - m.length + 1) = k + 1 by omega] at this
              exact this
  · rw [if_neg hc] at h
    exact ⟨hl, m, s, ds, R, r, h⟩
end
end Mi

set_option linter.all false
set_option maxRecDepth 100000
set_option maxHeartbeats 8000000
namespace Mi
open PySem PySem.Spec PyProof.Rows L2

section
variable {P : Program} {w : World} {K : PySem.W.Frag} {mg : Str → Option Value} {base : Heap} {fa : Nat → Option Addr} {ca : Nat → Option Addr} {cn : Nat → List Str}
/-- what is known of the def under a name -/
structure DefE (T : Tb) (Tf : List Fn) (K : PySem.W.Frag) (mg : Str → Option Value) (x : Str) (i ar : Nat) : Prop where
  ex : ∃ (f : Addr) (fd : FuncData) (x' qual : Str) (params : Arguments) (body : List Stmt) (scope : Scope) (N ps : List Str) (n : Nat) (csts : CSs), mg x = some (.ref f) ∧ Binds K fd ps [] ∧ FunD K x' qual params body scope [] [] f fd ∧
    FnScope N ps scope ∧ ps.length = ar ∧ cSs T N n true scope body = some csts ∧ Tf[i]? = some ⟨N.length, ps.length, csts⟩ ∧ ∀ ks perm, (x, ks, perm) ∈ T.kws → KB0 K fd ps ks perm
def runG (Tf : List Fn) (Fs : Funs) : Funs := fun f ds s => match Tf[f]? with
  | some fn => runDef Fs fn ds s
  | none => .no
theorem runG_at {Tf : List Fn} {Fs : Funs} {i : Nat} {ds : List Mi.D} {s : S} {fn : Fn} (h : Tf[i]? = some fn) : runG Tf Fs i ds s = runDef Fs fn ds s := by
  unfold runG
  rw [h]
theorem runG_len {Tf : List Fn} {Fs : Funs} {i : Nat} {ds : List Mi.D} {s : S} {fn : Fn} (h : Tf[i]? = some fn) (hz : runG Tf Fs i ds s ≠ .no) : ds.length = fn.pars := by
  rw [runG_at h] at hz
  unfold runDef at hz
  split at hz
  · rename_i q; exact q.1
  · exact absurd rfl hz
theorem cl_no {F : Funs} {i : Nat} {ds : List Mi.D} {s : S} (h : cl F i ds s ≠ .no) : ∃ s2, F i ds s2 ≠ .no := by
  rw [cl_eq] at h
  unfold clO at h
  split at h
  · refine ⟨⟨[], none⟩, fun z => ?_⟩
    rw [z] at h
    exact h rfl
  · exact ⟨s, h⟩
/-- all defs keep their promises, at every depth -/
theorem tab_ok {T : Tb} {Tf : List Fn} (h : ∀ x i ar, T.fns.lookup x = some (i, ar) → DefE T Tf K mg x i ar) (hv : ∀ i, T.oks.contains i = true → ∃ x ar, T.fns.lookup x = some (i, ar)) (gv : GoodV T K mg fa) (gx : GoodX T P w K mg base ca cn) (nof : ∀ n, 999999 ≤ n → fa n = none) :
    ∀ j, GoodC T P w K mg base (j + 2) fa (XRc K fa ca cn) (runC Tf j)
  | 0 => ⟨fun x i ar hx => by
    obtain ⟨f, fd, x', qual, params, body, scope, N, ps, n, csts, h1, h2, h3, h4, h5, h6, h7, h8⟩ := (h x i ar hx).ex
    exact ⟨f, fd, ps, h1, h3.kp, h2, ⟨fun vs H Q E q => by rw [q.1, h5], fun A outer s H args us vs Q E _ _ _ _ q => by
      obtain ⟨_, m, st, ds, _, _, z⟩ := q
      exact z.elim⟩, fun ds s z => absurd rfl z, h8⟩, hv⟩
  | j + 1 => ⟨fun x i ar hx => by
    obtain ⟨f, fd, x', qual, params, body, scope, N, ps, n, csts, h1, h2, h3, h4, h5, h6, h7, h8⟩ := (h x i ar hx).ex
    subst h5
    exact ⟨f, fd, ps, h1, h3.kp, h2, (def_ok (G := runG Tf (runC Tf j)) h3 h4 (by omega) h6 gv (tab_ok h hv gv gx nof j) gx nof (fun ds s => runG_at h7)).imp fun vs H Q E q => cl_ok (F := runG Tf (runC Tf j)) q, fun ds s z => by
      obtain ⟨s2, z⟩ := cl_no (F := runG Tf (runC Tf j)) z
      exact runG_len h7 z, h8⟩, hv⟩
/-- the law's own def, from the run of the short program -/
theorem law_sp {F : Funs} {i n : Nat} {XR : Nat → List Mi.D → Value → Option Addr → Hp → List Addr → Prop} (hrun : ∀ ns : List Int, ns.length ≤ n → ∃ s, F i [.lk (ns.map Mi.D.int)] ⟨[], none⟩ = .ok (.bl true) s) (H : Hp) (a : Addr) (ns : List Int) (hl : ns.length ≤ n) (ho : Only H)
    (hS : SqL K H a (ns.map V.int)) : spI K fa XR F i 1 [.ref a] H (fun v _ => v = .bl true) fun _ _ _ => False := by
  obtain ⟨s, e⟩ := hrun ns hl
  have hq : SqF K H a (ns.map V.int) := by
    rcases hS with (z | ⟨o, z⟩) | z
    · rcases ho a with q | ⟨o, xs, q⟩
      · rw [q] at z; cases z
      · rw [q] at z; cases z
    · exact .inl ⟨o, z⟩
    · exact .inr z
  refine ⟨rfl, [], ⟨[], none⟩, [.lk (ns.map Mi.D.int)], ⟨⟨rfl, by simp, fun k b x e1 _ => by simp at e1⟩, fun k x e1 _ => by simp at e1⟩, ⟨.ref a, [], rfl, ⟨a, _, rfl, hq, RpL.ints⟩, rfl⟩, ?_⟩
  rw [e]
  exact fun v H1 m1 _ _ r => r
end
end Mi

set_option linter.all false
set_option maxRecDepth 100000
set_option maxHeartbeats 8000000
namespace Mi
open PySem PySem.Spec PyProof.Rows L2

/-! ### a whole law: what the head tells, put together -/
theorem bA {a b : Bool} (h : (a && b) = true) : a = true ∧ b = true := Bool.and_eq_true_iff.mp h
mutual
/-- the module's value u stands for d -/
def rpB (K : PySem.W.Frag) : D → Value → Bool
  | .non, u => match u with | .none => true | _ => false
  | .bl b, u => match u with | .bool c => b == c | _ => false
  | .int i, u => match u with | .int j _ => decide (i = j) | _ => false
  | .str x, u => match u with | .str y _ => decide (x = y) | _ => false
  | .tup ds, u => match u with
    | .ref a => (match K.lookup a with
      | some ⟨.type c, _, .seq its _, _⟩ => decide (c = "tuple") && (decide (its.size ≤ sizeLine) && rpBL K ds its.toList)
      | _ => false)
    | _ => false
  | .lk ds, u => match u with
    | .ref a => (match K.lookup a with
      | some ⟨.type c, none, .seq its _, _⟩ => decide (c = "list") && (decide (its.size ≤ sizeLine) && rpBL K ds its.toList)
      | _ => false)
    | _ => false
  | .ref _, _ => false
  | .fn _, _ => false
  | .err _ _ _, _ => false
def rpBL (K : PySem.W.Frag) : List D → List Value → Bool
  | [], us => us.isEmpty
  | d :: ds, us => match us with
    | u :: us => rpB K d u && rpBL K ds us
    | [] => false
end
section
variable {K : PySem.W.Frag} {fa : Nat → Option Addr}
mutual
theorem rpB_ok : ∀ {d : D} {u : Value}, rpB K d u = true → ∃ v, RelV v u ∧ ∀ H m, Rp K fa H m d v
  | .non, u, h => by
    cases u with
    | none => exact ⟨.non, rfl, fun _ _ => rfl⟩
    | _ => cases h
  | .bl b, u, h => by
    cases u with
    | bool c =>
      have e : b = c := eq_of_beq h
      subst e
      exact ⟨.bl b, rfl, fun _ _ => rfl⟩
    | _ => cases h
  | .int i, u, h => by
    cases u with
    | int j t =>
      have e : i = j := of_decide_eq_true h
      subst e
      exact ⟨.int i, ⟨t, rfl⟩, fun _ _ => rfl⟩
    | _ => cases h
  | .str x, u, h => by
    cases u with
    | str y t =>
      have e : x = y := of_decide_eq_true h
      subst e
      exact ⟨.str x, ⟨t, rfl⟩, fun _ _ => rfl⟩
    | _ => cases h
  | .tup ds, u, h => by
    cases u with
    | ref a =>
      have h : (match K.lookup a with
        | some ⟨.type c, _, .seq its _, _⟩ => decide (c = "tuple") && (decide (its.size ≤ sizeLine) && rpBL K ds its.toList)
        | _ => false) = true := h
      cases q : K.lookup a with
      | none => rw [q] at h; cases h
      | some o =>
        obtain ⟨oc, od, dt, osl⟩ := o
        rw [q] at h
        cases oc with
        | type c =>
          cases dt with
          | seq its n =>
            obtain ⟨h1, h2⟩ := bA h
            obtain ⟨h3, h4⟩ := bA h2
            obtain ⟨vs, rv, rp⟩ := rpBL_ok h4
            exact ⟨.ref a, rfl, fun H m => ⟨a, vs, rfl, .inr ⟨_, its, n, q, congrArg Value.type (of_decide_eq_true h1), rfl, of_decide_eq_true h3, rv⟩, rp H m⟩⟩
          | _ => cases h
        | _ => cases dt <;> cases h
    | _ => cases h
  | .lk ds, u, h => by
    cases u with
    | ref a =>
      have h : (match K.lookup a with
        | some ⟨.type c, none, .seq its _, _⟩ => decide (c = "list") && (decide (its.size ≤ sizeLine) && rpBL K ds its.toList)
        | _ => false) = true := h
      cases q : K.lookup a with
      | none => rw [q] at h; cases h
      | some o =>
        obtain ⟨oc, od, dt, osl⟩ := o
        rw [q] at h
        cases oc with
        | type c =>
          cases od with
          | none =>
            cases dt with
            | seq its n =>
              obtain ⟨h1, h2⟩ := bA h
              obtain ⟨h3, h4⟩ := bA h2
              obtain ⟨vs, rv, rp⟩ := rpBL_ok h4
              exact ⟨.ref a, rfl, fun H m => ⟨a, vs, rfl, .inr ⟨_, its, n, q, congrArg Value.type (of_decide_eq_true h1), rfl, rfl, of_decide_eq_true h3, rv⟩, rp H m⟩⟩
            | _ => cases h
          | some _ => cases dt <;> cases h
        | _ => cases od <;> cases dt <;> cases h
    | _ => cases h
  | .ref _, _, h => by cases h
  | .fn _, _, h => by cases h
  | .err _ _ _, _, h => by cases h
theorem rpBL_ok : ∀ {ds : List D} {us : List Value}, rpBL K ds us = true → ∃ vs, Vals vs us ∧ ∀ H m, RpL K fa H m ds vs
  | [], us, h => by
    cases us with
    | nil => exact ⟨[], .nil, fun _ _ => rfl⟩
    | cons _ _ => cases h
  | d :: ds, us, h => by
    cases us with
    | nil => cases h
    | cons u us =>
      obtain ⟨h1, h2⟩ := bA (show (rpB K d u && rpBL K ds us) = true from h)
      obtain ⟨v, r1, p1⟩ := rpB_ok h1
      obtain ⟨vs, r2, p2⟩ := rpBL_ok h2
      exact ⟨v :: vs, .cons r1 r2, fun H m => ⟨v, vs, rfl, p1 H m, p2 H m⟩⟩
end
end
def conB (K : PySem.W.Frag) (q : Str × D) : Bool := match PySem.W.nsIn K mainGlobals q.1 with
  | some (some u) => rpB K q.2 u
  | _ => false
def tabB (K : PySem.W.Frag) (q : Str × List (Int × D)) : Bool := match PySem.W.nsIn K mainGlobals q.1 with
  | some (some (.ref t)) => (match K.lookup t with
    | some ⟨.type c, none, .dict es _, sl⟩ => decide (c = "dict") && (sl.isEmpty && ((es.toList.all fun e => match e.key with | .int i _ => decide (e.hash = hashInt i) | _ => false) && q.2.all fun p => match findBy Value.isInt es p.1 with | some u => rpB K p.2 u | none => false))
    | _ => false)
  | _ => false
theorem tabAt_mem : ∀ {l : List (Int × D)} {i : Int} {d : D}, tabAt l i = some d → (i, d) ∈ l
  | [], _, _, h => by cases h
  | p :: r, i, d, h => by
    unfold tabAt at h
    split at h
    · rename_i e
      rw [decide_eq_true_eq] at e
      cases h
      rw [← e]
      exact List.mem_cons_self
    · exact List.mem_cons_of_mem _ (tabAt_mem h)
/-- a def of the program: what the head tells of it, its names, its short form -/
structure DI where
  d : He.DefD
  N : List Str
  ps : List Str
  c : CSs
def fnsFrom : Nat → List DI → List (Str × Nat × Nat)
  | _, [] => []
  | i, e :: r => (e.d.at_.1, i, e.ps.length) :: fnsFrom (i + 1) r
def tfOf (L : List DI) : List Fn := L.map fun e => ⟨e.N.length, e.ps.length, e.c⟩
def faOf (K : PySem.W.Frag) (L : List DI) : Nat → Option Addr := fun i => (L[i]?).map fun e => He.ga K e.d.at_.1
theorem fns_get : ∀ {L : List DI} {k i ar : Nat} {x : Str}, (fnsFrom k L).lookup x = some (i, ar) → ∃ e j, i = k + j ∧ L[j]? = some e ∧ e.d.at_.1 = x ∧ ar = e.ps.length
  | [], _, _, _, _, h => by cases h
  | e :: r, k, i, ar, x, h => by
    unfold fnsFrom at h
    rw [List.lookup_cons] at h
    split at h
    · rename_i q
      cases h
      exact ⟨e, 0, rfl, rfl, (beq_iff_eq.mp q).symm, rfl⟩
    · obtain ⟨e', j, h1, h2, h3, h4⟩ := fns_get h
      exact ⟨e', j + 1, by omega, by simpa using h2, h3, h4⟩
structure OkI (T : Tb) (e : DI) : Prop where
  at2 : e.d.at_.2 = none
  dfl : e.d.dfl = []
  kwd : e.d.kwd = []
  sc : FnScope e.N e.ps e.d.scope
  cc : cSs T e.N 60 true e.d.scope e.d.body = some e.c
  bnd : ∀ (kV doc pm : Value) (an : Option Addr) (cdv ct : Value) (us : List Value), us.length = e.ps.length → bindArgs (PySem.W.fnOf e.d.name e.d.qual e.d.params e.d.body e.d.scope .none kV doc pm an cdv ct) ⟨us, []⟩ = pure (e.ps.zip us)
  kwb : ∃ kl, (T.kws.filter fun q => decide (q.1 = e.d.at_.1)).map (·.2) = kl ∧ ∀ q ∈ kl, ∀ (kV doc pm : Value) (an : Option Addr) (cdv ct : Value) (ws : List Value), (permV q.2 ws).length = e.ps.length →
    bindArgs (PySem.W.fnOf e.d.name e.d.qual e.d.params e.d.body e.d.scope .none kV doc pm an cdv ct) ⟨[], q.1.zip ws⟩ = pure (e.ps.zip (permV q.2 ws))
theorem kb_of {K : PySem.W.Frag} {x qual : Str} {params : Arguments} {body : List Stmt} {scope : Scope} {kws : List (Str × V)} {f : Addr} {fd : FuncData} {ps ks : List Str} {perm : List Nat} (F : FunD K x qual params body scope [] kws f fd)
    (h : ∀ (kV doc pm : Value) (an : Option Addr) (cdv ct : Value) (ws : List Value), (permV perm ws).length = ps.length → bindArgs (PySem.W.fnOf x qual params body scope .none kV doc pm an cdv ct) ⟨[], ks.zip ws⟩ = pure (ps.zip (permV perm ws))) : KB0 K fd ps ks perm := by
  obtain ⟨oc, od, dV, kV, doc, pm, an, cdv, ct, osl, rfl, lk, hcd, hD, hK⟩ := F.ex
  rcases hD with ⟨_, rfl⟩ | ⟨e, _⟩
  · exact ⟨fun s ws _ hl => .of_eq (h kV doc pm an cdv ct ws hl)⟩
  · exact absurd rfl e
section
variable {T : Tb} {L : List DI} {K : PySem.W.Frag} {h : Heap} {mg : Str → Option Value} {fa : List He.Fa} {fn : List He.DefD}
/-- what the head's facts hold -/
structure Facts (T : Tb) (L : List DI) (fa : List He.Fa) (fn : List He.DefD) : Prop where
  fns : T.fns = fnsFrom 0 L
  fn : ∀ e ∈ L, e.d ∈ fn
  glo : ∀ e ∈ L, He.Fa.glo e.d.at_.1 ∈ fa
  free : ∀ x, T.blt.contains x = true → He.Fa.free x ∈ fa
  okI : ∀ e ∈ L, OkI T e
  sz : L.length < 999999
theorem defE_of (Z : Facts T L fa fn) (X : K.In h) (G : h.Ns mainGlobals mg) (c : He.SaysD fa fn K) : ∀ x i ar, T.fns.lookup x = some (i, ar) → DefE T (tfOf L) K mg x i ar := by
  intro x i ar hx
  rw [Z.fns] at hx
  obtain ⟨e, j, h1, h2, h3, h4⟩ := fns_get hx
  rw [Nat.zero_add] at h1
  subst h1 h3 h4
  have hm : e ∈ L := List.mem_of_getElem? h2
  have ok := Z.okI e hm
  have hd : e.d ∈ fn := Z.fn e hm
  obtain ⟨fd, F⟩ := He.SaysD.defs c hd
  have g := He.glo_ok X G (He.SaysD.facts c (Z.glo e hm))
  have ea : He.fAd K e.d.at_ = He.ga K e.d.at_.1 := by
    unfold He.fAd
    rw [ok.at2]
  have e1 : e.d.dvs K = [] := by unfold He.DefD.dvs; rw [ok.dfl]; rfl
  have e2 : e.d.kws K = [] := by unfold He.DefD.kws; rw [ok.kwd]; rfl
  rw [e1, e2, ea] at F
  refine ⟨_, fd, _, _, _, _, _, e.N, e.ps, 60, e.c, g, FunD.bindsN F ok.bnd, F, ok.sc, rfl, ok.cc, ?_, fun ks perm hk => ?_⟩
  · unfold tfOf
    rw [List.getElem?_map, h2]
    rfl
  · obtain ⟨kl, k1, k2⟩ := ok.kwb
    refine kb_of F (k2 (ks, perm) ?_)
    rw [← k1]
    exact List.mem_map.mpr ⟨(e.d.at_.1, ks, perm), List.mem_filter.mpr ⟨hk, by simp⟩, rfl⟩
theorem goodV_of (Z : Facts T L fa fn) (X : K.In h) (G : h.Ns mainGlobals mg) (c : He.SaysD fa fn K) (hc : T.cons.all (conB K) = true) (ht : T.tabs.all (tabB K) = true) : GoodV T K mg (faOf K L) where
  con := fun x d hx => by
    have q := List.all_eq_true.mp hc (x, d) (lookup_mem hx)
    unfold conB at q
    split at q
    · rename_i u e
      obtain ⟨v, r1, r2⟩ := rpB_ok q
      exact ⟨u, v, PySem.W.mg_of X G e, r1, r2⟩
    · cases q
  fnv := fun x i ar hx => by
    rw [Z.fns] at hx
    obtain ⟨e, j, h1, h2, h3, h4⟩ := fns_get hx
    rw [Nat.zero_add] at h1
    subst h1 h3 h4
    have hm : e ∈ L := List.mem_of_getElem? h2
    refine ⟨_, He.glo_ok X G (He.SaysD.facts c (Z.glo e hm)), ?_⟩
    unfold faOf
    rw [h2]
    rfl
  blt := fun x hx => He.free_ok X G (He.SaysD.facts c (Z.free x hx))
  tab := fun x tab hx => by
    have q := List.all_eq_true.mp ht (x, tab) (lookup_mem hx)
    unfold tabB at q
    split at q
    · rename_i t e
      split at q
      · rename_i cc es n sl el
        obtain ⟨q1, q⟩ := bA q
        obtain ⟨q2, q⟩ := bA q
        obtain ⟨q3, q4⟩ := bA q
        refine ⟨t, fun i => findBy Value.isInt es i, PySem.W.mg_of X G e, ⟨es, n, ?_, fun en he => ?_, fun _ => rfl⟩, fun i d hd => ?_⟩
        · have e2 : sl = #[] := Array.isEmpty_iff.mp q2
          have e1 : cc = "dict" := of_decide_eq_true q1
          rw [el, e1, e2]
        · have z := List.all_eq_true.mp q3 en (Array.mem_toList_iff.mpr he)
          split at z
          · rename_i i t' ek
            exact ⟨i, t', ek, of_decide_eq_true z⟩
          · cases z
        · have z := List.all_eq_true.mp q4 (i, d) (tabAt_mem hd)
          dsimp only at z
          split at z
          · rename_i u eu
            obtain ⟨v, r1, r2⟩ := rpB_ok z
            exact ⟨u, v, eu, r1, r2⟩
          · cases z
      · cases q
    · cases q
theorem nof_of (Z : Facts T L fa fn) : ∀ n, 999999 ≤ n → faOf K L n = none := fun n hn => by
  unfold faOf
  rw [List.getElem?_eq_none (by have := Z.sz; omega)]
  rfl
theorem oks_of (Z : Facts T L fa fn) (ho : ∀ i, T.oks.contains i = true → ∃ e, L[i]? = some e ∧ T.fns.lookup e.d.at_.1 = some (i, e.ps.length)) : ∀ i, T.oks.contains i = true → ∃ x ar, T.fns.lookup x = some (i, ar) := fun i hi => by
  obtain ⟨e, _, h⟩ := ho i hi
  exact ⟨_, _, h⟩
end
/-! ### own exceptions without fields -/
def oexB (K : PySem.W.Frag) (C : Addr) : Bool := (match K.lookup C with
  | some ⟨.type t, _, .cls cd, sl⟩ => decide (t = "type") && (match cd.mro, sl.toList with
    | .ref C' :: bm, [_, _, _, _, some (.builtin n), _] => decide (C' = C) && (decide (n = "ValueError.__new__") && (PySem.HandSPX.refsVE bm && (cd.hasDict && !cd.hasDel)))
    | _, _ => false)
  | _ => false) && (He.eqO (PySem.W.findIn K (.ref C) "__setattr__") (some (some (.builtin "object.__setattr__"))) && (decide (PySem.W.subIn K (.ref C) (.type "BaseException") = some true) && (decide (PySem.W.typeIn K (.ref C) = some (.type "type")) && PySem.W.keepIn K (.ref C))))
theorem oexB_ok {K : PySem.W.Frag} {C : Addr} (h : oexB K C = true) : OexC K C := by
  obtain ⟨h1, h2⟩ := bA h
  obtain ⟨h3, h4⟩ := bA h2
  obtain ⟨h5, h6⟩ := bA h4
  obtain ⟨h7, h8⟩ := bA h6
  refine ⟨?_, He.eqO_ok h3, of_decide_eq_true h5, of_decide_eq_true h7, h8⟩
  split at h1
  · rename_i t dd cd sl ho
    obtain ⟨e1, h1⟩ := bA h1
    split at h1
    · rename_i C' bm k0 k1 k2 k3 n k5 hm hs
      obtain ⟨e2, h1⟩ := bA h1
      obtain ⟨e3, h1⟩ := bA h1
      obtain ⟨e4, h1⟩ := bA h1
      obtain ⟨e5, e6⟩ := bA h1
      obtain ⟨nm, bs, mro, ns, qn, hd, sn, sub, ab, col, del⟩ := cd
      have g2 : C' = C := of_decide_eq_true e2
      have g3 : n = "ValueError.__new__" := of_decide_eq_true e3
      have g1 : t = "type" := of_decide_eq_true e1
      have g6 : del = false := by simpa using e6
      have g5 : hd = true := e5
      dsimp only at hm
      clear e1 e2 e3 e5 e6
      subst g1 g2 g3 hm g5 g6
      have hsl : sl = #[k0, k1, k2, k3, some (.builtin "ValueError.__new__"), k5] := by
        obtain ⟨l⟩ := sl
        simp only at hs
        rw [hs]
      subst hsl
      exact ⟨nm, qn, ns, bs, bm, sn, sub, ab, col, dd, k0, k1, k2, k3, k5, ho, e4⟩
    · cases h1
  · cases h1
def excCB (K : PySem.W.Frag) (D : Addr) : Bool := He.eqO (PySem.W.findIn K (.ref D) "__getattribute__") (some (some (.builtin "BaseException.__getattribute__"))) && (He.eqO (PySem.W.findIn K (.ref D) "__getattr__") (some none) && (decide (PySem.W.subIn K (.ref D) (.type "BaseException") = some true) && (PySem.W.hasDictIn K D &&
  (He.eqO (PySem.W.findIn K (.ref D) "__class__") (some (some (.builtin "object.__class__"))) && (He.eqO (PySem.W.specialIn K (.builtin "object.__class__") "__get__") (some (some (.builtin "getset_descriptor.__get__"))) && (decide (PySem.W.takesIn K (.builtin "object.__class__") = some true) && decide (PySem.W.mroIn K D (.type "object") = some true)))))))
theorem excCB_ok {K : PySem.W.Frag} {D : Addr} (h : excCB K D = true) : ExcC K D := by
  obtain ⟨h1, h⟩ := bA h
  obtain ⟨h2, h⟩ := bA h
  obtain ⟨h3, h⟩ := bA h
  obtain ⟨h4, h⟩ := bA h
  obtain ⟨h5, h⟩ := bA h
  obtain ⟨h6, h⟩ := bA h
  obtain ⟨h7, h8⟩ := bA h
  exact ⟨He.eqO_ok h1, He.eqO_ok h2, of_decide_eq_true h3, h4, He.eqO_ok h5, He.eqO_ok h6, of_decide_eq_true h7, of_decide_eq_true h8⟩
/-- an own class: its name, its __init__ -/
structure CI where
  x : Str
  d : He.DefD
def excFrom : Nat → List CI → List (Str × Nat)
  | _, [] => []
  | i, e :: r => (e.x, i) :: excFrom (i + 1) r
def caOf (K : PySem.W.Frag) (CL : List CI) : Nat → Option Addr := fun i => (CL[i]?).map fun e => He.ga K e.x
theorem exc_get : ∀ {L : List CI} {k i : Nat} {x : Str}, (excFrom k L).lookup x = some i → ∃ e j, i = k + j ∧ L[j]? = some e ∧ e.x = x
  | [], _, _, _, h => by cases h
  | e :: r, k, i, x, h => by
    unfold excFrom at h
    rw [List.lookup_cons] at h
    split at h
    · rename_i q
      cases h
      exact ⟨e, 0, rfl, rfl, (beq_iff_eq.mp q).symm⟩
    · obtain ⟨e', j, h1, h2, h3⟩ := exc_get h
      exact ⟨e', j + 1, by omega, by simpa using h2, h3⟩
def clsB (K : PySem.W.Frag) (e : CI) : Bool := oexB K (He.ga K e.x) && (excCB K (He.ga K e.x) && (He.eqO (PySem.W.findIn K (.ref (He.ga K e.x)) "__init__") (some (some (.ref (He.ma K (He.ga K e.x) "__init__")))) && decide (PySem.W.typeIn K (.ref (He.ma K (He.ga K e.x) "__init__")) = some (.type "function"))))
def hndB (K : PySem.W.Frag) (CL : List CI) (h : Str × List Nat × List Str) : Bool := He.eqO (PySem.W.nsIn K mainGlobals h.1) (some (some (.ref (He.ga K h.1)))) && (h.2.2.isEmpty && (List.range CL.length).all fun j => match CL[j]? with
  | some e => decide (PySem.W.exmOne K (.ref (He.ga K e.x)) (.ref (He.ga K h.1)) = some (h.2.1.contains j))
  | none => true)
def isxB (K : PySem.W.Frag) (CL : List CI) (p : Str × String) : Bool := CL.all fun e => decide (PySem.W.kitOne K (.ref (He.ga K e.x)) (.type p.2) = some true)
def vvB (K : PySem.W.Frag) : Bool := match PySem.W.findCls K (.type "ValueError") (.type "type") "__init__" with
  | some (.val (.builtin n)) => decide (n = "ValueError.__init__")
  | _ => false
theorem vvB_ok {K : PySem.W.Frag} (h : vvB K = true) : PySem.W.findCls K (.type "ValueError") (.type "type") "__init__" = some (.val (.builtin "ValueError.__init__")) := by
  unfold vvB at h
  split at h
  · rename_i n e
    rw [e, of_decide_eq_true h]
  · cases h
/-- whatever else is asked of the module's objects -/
def exB (T : Tb) (CL : List CI) (bx : List (Str × String)) (K : PySem.W.Frag) : Bool := T.cons.all (conB K) && (T.tabs.all (tabB K) && (CL.all (clsB K) && (T.hnd.all (hndB K CL) && (bx.all (isxB K CL) && vvB K))))
theorem goodX_of {T : Tb} {P : Program} {w : World} {K : PySem.W.Frag} {mg : Str → Option Value} {base h : Heap} {CL : List CI} {bx : List (Str × String)} {fa : List He.Fa} {fn : List He.DefD} (X : K.In h) (G : h.Ns mainGlobals mg) (c : He.SaysD fa fn K) (ex : exB T CL bx K = true)
    (hx : T.excs = excFrom 0 CL) (hg : ∀ e ∈ CL, He.Fa.glo e.x ∈ fa) (hd : ∀ e ∈ CL, e.d ∈ fn ∧ e.d.at_ = (e.x, some ("__init__" : Str)) ∧ e.d.dfl = [] ∧ e.d.kwd = [])
    (hi : ∀ e ∈ CL, ∀ (C f : Addr) (fd : FuncData), OexC K C → FunD K e.d.name e.d.qual e.d.params e.d.body e.d.scope [] [] f fd → FnOk P w K mg base CX0 1 f fd ["self"] (spNew C) ∧ Binds K fd ["self"] [])
    (hb : ∀ p ∈ bx, bootBuiltins p.1 = some (.type p.2)) (hs : ∀ tn, T.isx.contains tn = true → tn ∈ bx.map (·.1)) : GoodX T P w K mg base (caOf K CL) (fun _ => []) where
  exc := fun x i hxi => by
    obtain ⟨_, z⟩ := bA ex
    obtain ⟨_, z⟩ := bA z
    obtain ⟨zc, z⟩ := bA z
    rw [hx] at hxi
    obtain ⟨e, j, h1, h2, h3⟩ := exc_get hxi
    rw [Nat.zero_add] at h1
    subst h1 h3
    have hm : e ∈ CL := List.mem_of_getElem? h2
    obtain ⟨q1, q⟩ := bA (List.all_eq_true.mp zc e hm)
    obtain ⟨q2, q⟩ := bA q
    obtain ⟨q3, q4⟩ := bA q
    obtain ⟨d1, d2, d3, d4⟩ := hd e hm
    obtain ⟨fd, F⟩ := He.SaysD.defs c d1
    have e1 : e.d.dvs K = [] := by unfold He.DefD.dvs; rw [d3]; rfl
    have e2 : e.d.kws K = [] := by unfold He.DefD.kws; rw [d4]; rfl
    have ea : He.fAd K e.d.at_ = He.ma K (He.ga K e.x) "__init__" := by rw [d2]; rfl
    rw [e1, e2, ea] at F
    obtain ⟨f1, f2⟩ := hi e hm (He.ga K e.x) _ fd (oexB_ok q1) F
    exact ⟨rfl, He.ga K e.x, _, fd, by unfold caOf; rw [h2]; rfl, He.glo_ok X G (He.SaysD.facts c (hg e hm)), oexB_ok q1, He.eqO_ok q3, of_decide_eq_true q4, f1, f2⟩
  hnd := fun x cl ns hxh => by
    obtain ⟨_, z⟩ := bA ex
    obtain ⟨_, z⟩ := bA z
    obtain ⟨_, z⟩ := bA z
    obtain ⟨zh, z⟩ := bA z
    obtain ⟨q1, q⟩ := bA (List.all_eq_true.mp zh (x, cl, ns) (lookup_mem hxh))
    obtain ⟨q2, q3⟩ := bA q
    refine ⟨_, .inl (PySem.W.mg_of X G (He.eqO_ok q1)), fun y C hC => ?_, fun y _ => (List.isEmpty_iff.mp q2).symm⟩
    unfold caOf at hC
    cases e2 : CL[y]? with
    | none => rw [e2] at hC; cases hC
    | some e =>
      rw [e2] at hC
      cases hC
      have hy : y < CL.length := by
        rcases Nat.lt_or_ge y CL.length with q | q
        · exact q
        · rw [List.getElem?_eq_none q] at e2; cases e2
      have := List.all_eq_true.mp q3 y (List.mem_range.mpr hy)
      dsimp only at this
      rw [e2] at this
      exact of_decide_eq_true this
  isx := fun tn ht => by
    obtain ⟨_, z⟩ := bA ex
    obtain ⟨_, z⟩ := bA z
    obtain ⟨zc, z⟩ := bA z
    obtain ⟨_, z⟩ := bA z
    obtain ⟨zi, _⟩ := bA z
    obtain ⟨p, hp, rfl⟩ := List.mem_map.mp (hs tn ht)
    refine ⟨p.2, hb p hp, fun y C hC => ?_⟩
    unfold caOf at hC
    cases e2 : CL[y]? with
    | none => rw [e2] at hC; cases hC
    | some e =>
      rw [e2] at hC
      cases hC
      have hm : e ∈ CL := List.mem_of_getElem? e2
      obtain ⟨_, q⟩ := bA (List.all_eq_true.mp zc e hm)
      obtain ⟨q2, _⟩ := bA q
      exact ⟨rfl, excCB_ok q2, of_decide_eq_true (List.all_eq_true.mp (List.all_eq_true.mp zi p hp) e hm)⟩
/-! ### the head's Hook, with one more Bool -/
def hookM (n : Nat) (fa : List He.Fa) (fn : List He.DefD) (ex : PySem.W.Frag → Bool) : PySem.W.Hook where
  α := He.AlD × Bool
  obs := fun s => (He.obsDG n fa fn s.heap.get?, ex (He.frG s.heap.get? (He.asD s.heap.get? n)))
  val := fun _ => (He.valD fn, true)
  says := fun _ h => ∃ K : PySem.W.Frag, K.In h ∧ He.SaysD fa fn K ∧ ex K = true
  of := fun _ _ e => ⟨_, He.frG_in, congrArg (fun z : He.AlD × Bool => z.1) e, congrArg (fun z : He.AlD × Bool => z.2) e⟩
  keeps := fun _ _ _ ⟨K, hK, c⟩ k => ⟨K, PySem.W.Frag.In.keeps hK k, c⟩
def obM (n : Nat) (fa : List He.Fa) (fn : List He.DefD) (ex : PySem.W.Frag → Bool) (g : Addr → Option Obj) : He.AlD × Bool := (He.obsDG n fa fn g, ex (He.frG g (He.asD g n)))
theorem obM_eq {n : Nat} {fa : List He.Fa} {fn : List He.DefD} {ex : PySem.W.Frag → Bool} {g : Addr → Option Obj} {s : Shared} (h : ∀ a, g a = s.heap.get? a) : obM n fa fn ex g = (hookM n fa fn ex).obs s := by
  have e : g = s.heap.get? := funext h
  rw [e] <;> rfl
theorem oks_all {T : Tb} (h : (T.oks.all fun i => T.fns.any fun q => decide (T.fns.lookup q.1 = some (i, q.2.2))) = true) : ∀ i, T.oks.contains i = true → ∃ x ar, T.fns.lookup x = some (i, ar) := fun i hi => by
  have := List.all_eq_true.mp h i (List.contains_iff_mem.mp hi)
  obtain ⟨q, _, e⟩ := List.any_eq_true.mp this
  exact ⟨q.1, q.2.2, of_decide_eq_true e⟩
/-! ### the end of a law -/
def CXE : CXT := fun _ _ _ E _ _ => ∃ cls d H', E cls d H'
theorem cxe_of {P : Program} {w : World} {K : PySem.W.Frag} {mg : Str → Option Value} {base : Heap} {k : Nat} {f : Addr} {fd : FuncData} {ps : List Str} {sp : Sp} (F : FnOk P w K mg base (L2.CX P w) k f fd ps sp) : FnOk P w K mg base CXE k f fd ps sp :=
  ⟨F.len, fun A outer s H args us vs Q E hr he hb hv h => codeAny_mono (F.run A outer s H args us vs Q E hr he hb hv h) fun r s' hq => by
    cases r with
    | error e =>
      obtain ⟨a, B, H', cls, d, _, _, _, _, _, _, _, z⟩ := (show L2.CX P w outer H s E e s' from hq)
      exact ⟨cls, d, H', z⟩
    | ok fl =>
      cases fl with
      | ret u => exact hq
      | next => exact False.elim hq
      | brk => exact False.elim hq
      | cont => exact False.elim hq⟩
theorem law_walk {l : PySem.W.OpenLaw} {q : Program} {loose : List Str} {XP : (Str → Option Value) → Heap → Prop} {d : DefRec} {nH J il : Nat} {T : Tb} {L : List DI} {CL : List CI} {bx : List (Str × String)} {fa : List He.Fa} {fn : List He.DefD} {el : DI}
    (hn : l.most = some 63) (hdf : d.params.defaults = []) (hr : Room (J + 3) callerA) (hnm : d.name = "law") (Z : Facts T L fa fn) (hx : T.excs = excFrom 0 CL) (hg : ∀ e ∈ CL, He.Fa.glo e.x ∈ fa) (hd : ∀ e ∈ CL, e.d ∈ fn ∧ e.d.at_ = (e.x, some ("__init__" : Str)) ∧ e.d.dfl = [] ∧ e.d.kwd = [])
    (hi : ∀ (P : Program) (w : World) (K : PySem.W.Frag) (mg : Str → Option Value) (base : Heap), mg "ValueError" = none → vvB K = true → ∀ e ∈ CL, ∀ (C f : Addr) (fd : FuncData), OexC K C → FunD K e.d.name e.d.qual e.d.params e.d.body e.d.scope [] [] f fd → FnOk P w K mg base CX0 1 f fd ["self"] (spNew C) ∧ Binds K fd ["self"] [])
    (hve : CL = [] ∨ T.blt.contains "ValueError" = true)
    (hb : ∀ p ∈ bx, bootBuiltins p.1 = some (.type p.2)) (hs : ∀ tn, T.isx.contains tn = true → tn ∈ bx.map (·.1)) (ho : ∀ i, T.oks.contains i = true → ∃ x ar, T.fns.lookup x = some (i, ar))
    (hl : L[il]? = some el) (hel : el.d.at_.1 = "law") (hps : el.ps = (["script"] : List Str))
    (hrun : ∀ ns : List Int, ns.length ≤ 63 → ∃ s, runC (tfOf L) (J + 1) il [.lk (ns.map Mi.D.int)] ⟨[], none⟩ = .ok (.bl true) s) :
    PySem.W.WalkO q loose XP (hookM nH fa fn (exB T CL bx)).says l.row.toRowW d [] (fun f vs => PySem.call f vs) := by
  refine walk_ofE (l := l) (n := 63) (k := J + 3) (x := "script") (CX := CXE) hn (by decide) hdf hr ?_ (fun _ _ _ _ ⟨_, _, _, z⟩ => z)
  intro w mg fA h Y G hmg
  obtain ⟨K, KX, c, ex⟩ := Y
  have hm : el ∈ L := List.mem_of_getElem? hl
  have ok := Z.okI el hm
  obtain ⟨fd, F⟩ := He.SaysD.defs c (Z.fn el hm)
  have g := He.glo_ok KX G (He.SaysD.facts c (Z.glo el hm))
  have ea : He.fAd K el.d.at_ = He.ga K el.d.at_.1 := by
    unfold He.fAd
    rw [ok.at2]
  have e1 : el.d.dvs K = [] := by unfold He.DefD.dvs; rw [ok.dfl]; rfl
  have e2 : el.d.kws K = [] := by unfold He.DefD.kws; rw [ok.kwd]; rfl
  rw [e1, e2, ea] at F
  rw [hnm] at hmg
  rw [hel] at g F
  have eA : fA = He.ga K "law" := Value.ref.inj (Option.some.inj (hmg.symm.trans g))
  subst eA
  obtain ⟨exc, exr⟩ := bA ex
  obtain ⟨ext, exr2⟩ := bA exr
  obtain ⟨_, exr3⟩ := bA exr2
  obtain ⟨_, exr4⟩ := bA exr3
  obtain ⟨_, exv⟩ := bA exr4
  have gv := goodV_of Z KX G c exc ext
  have hi2 : ∀ (P : Program) (base : Heap), ∀ e ∈ CL, ∀ (C f : Addr) (fd : FuncData), OexC K C → FunD K e.d.name e.d.qual e.d.params e.d.body e.d.scope [] [] f fd → FnOk P w K mg base CX0 1 f fd ["self"] (spNew C) ∧ Binds K fd ["self"] [] := fun P base e he => by
    rcases hve with z | z
    · rw [z] at he; cases he
    · exact hi P w K mg base (gv.blt _ z) exv e he
  refine ⟨K, fd, spI K (faOf K L) (XRc K (faOf K L) (caOf K CL) (fun _ => [])) (runC (tfOf L) (J + 1)) il 1, KX, fun s u => ?_, fun H a ns hlen hO hS => law_sp hrun H a ns hlen hO hS, fun base KB GB => ?_⟩
  · have := FunD.bindsA (ps := el.ps) F ok.bnd s [u] (by rw [hps]; rfl)
    rw [hps] at this
    exact this
  · have gx : GoodX T l.prog w K mg base (caOf K CL) (fun _ => []) := goodX_of KX G c ex hx hg hd (hi2 l.prog base) hb hs
    have gC := tab_ok (base := base) (defE_of Z KX G c) ho gv gx (nof_of Z) J
    have htf : (tfOf L)[il]? = some ⟨el.N.length, el.ps.length, el.c⟩ := by
      unfold tfOf
      rw [List.getElem?_map, hl]
      rfl
    have := (def_ok (i := il) (G := runG (tfOf L) (runC (tfOf L) J)) F ok.sc (by omega) ok.cc gv gC gx (nof_of Z) (fun ds s => runG_at htf)).imp fun vs H Q E q => cl_ok (F := runG (tfOf L) (runC (tfOf L) J)) q
    rw [hps] at this
    exact cxe_of this
end Mi

set_option linter.all false
set_option maxRecDepth 100000
set_option maxHeartbeats 4000000
namespace Mi
open PySem PySem.Spec PyProof.Rows L2

/-! ### the script's numbers put together (_law_cells of a script and 1) -/
def cellsB : CSs := .cons (.set (.name 5) (.prim .mod (.cons (.prim .toInt (.cons (.var 3) .nil)) (.cons (.var 1) .nil)))) (.cons (.put (.var 2) (.var 5) (.prim .add (.cons (.prim .ix (.cons (.var 2) (.cons (.var 5) .nil))) (.cons (.prim .mul (.cons (.var 4) (.cons (.prim .add (.cons (.var 3) (.cons (.con (.int (2))) .nil))) .nil))) .nil)))) .nil)
def cellsG : CT := .tup (.cons (.name 3) (.cons (.name 4) .nil))
def cellsC : CSs := (.cons (.set (.name 2) (.or (.prim .listOf (.cons (.prim .slTo (.cons (.var 0) (.cons (.prim .chk (.cons (.var 1) .nil)) .nil))) .nil)) (.prim .lst (.cons (.con (.int (0))) .nil)))) (.cons (.each cellsG .enum (.cons (.prim .sl (.cons (.var 0) (.cons (.prim .chk (.cons (.var 1) .nil)) (.cons (.prim .chk (.cons (.con (.int (63))) .nil)) .nil)))) .nil) cellsB) (.cons (.ret (.var 2)) .nil)))
theorem cells_body (F : Funs) (d0 a : D) (ys : List D) (x y : Int) (i : Nat) (r5 : Option D) (hi : i < 64) :
    exs F cellsB [some d0, some (.int 1), some (.ref 1), some (.int i), some (.int y), r5] ⟨[.lst [a], .lst [.int x], .lst ys], none⟩ = .ok (.nx [some d0, some (.int 1), some (.ref 1), some (.int i), some (.int y), some (.int 0)]) ⟨[.lst [a], .lst [.int (x + y * (i + 2))], .lst ys], none⟩ := by
  have hm : (Int.fmod (i : Int) 1) = 0 := Int.fmod_one _
  have hb : (decide (y.natAbs < 18446744073709551616) || decide (((i : Int) + 2).natAbs < 18446744073709551616)) = true := by
    rw [Bool.or_eq_true]
    right
    rw [decide_eq_true_eq]
    omega
  have hmul : prim .mul [.int y, .int ((i : Int) + 2)] ⟨[.lst [a], .lst [.int x], .lst ys], none⟩ = .ok (.int (y * (i + 2))) ⟨[.lst [a], .lst [.int x], .lst ys], none⟩ := if_pos hb
  have he : ev F (.prim .mul (.cons (.var 4) (.cons (.prim .add (.cons (.var 3) (.cons (.con (.int (2))) .nil))) .nil))) [some d0, some (.int 1), some (.ref 1), some (.int i), some (.int y), some (.int 0)] ⟨[.lst [a], .lst [.int x], .lst ys], none⟩ = .ok (.int (y * (i + 2))) ⟨[.lst [a], .lst [.int x], .lst ys], none⟩ := hmul
  have he2 : ev F (.prim .add (.cons (.prim .ix (.cons (.var 2) (.cons (.var 5) .nil))) (.cons (.prim .mul (.cons (.var 4) (.cons (.prim .add (.cons (.var 3) (.cons (.con (.int (2))) .nil))) .nil))) .nil))) [some d0, some (.int 1), some (.ref 1), some (.int i), some (.int y), some (.int 0)] ⟨[.lst [a], .lst [.int x], .lst ys], none⟩ = .ok (.int (x + y * (i + 2))) ⟨[.lst [a], .lst [.int x], .lst ys], none⟩ := by
    show ((R.ok (D.int x) (S.mk [.lst [a], .lst [.int x], .lst ys] none)).bind fun d s => (((ev F (.prim .mul (.cons (.var 4) (.cons (.prim .add (.cons (.var 3) (.cons (.con (.int (2))) .nil))) .nil))) [some d0, some (.int 1), some (.ref 1), some (.int i), some (.int y), some (.int 0)] s).bind fun d s => R.ok [d] s).bind fun ds s => R.ok (d :: ds) s)).bind (fun ds s => prim .add ds s) = _
    show ((((ev F (.prim .mul (.cons (.var 4) (.cons (.prim .add (.cons (.var 3) (.cons (.con (.int (2))) .nil))) .nil))) [some d0, some (.int 1), some (.ref 1), some (.int i), some (.int y), some (.int 0)] (S.mk [.lst [a], .lst [.int x], .lst ys] none)).bind fun d s => R.ok [d] s).bind fun ds s => R.ok (D.int x :: ds) s)).bind (fun ds s => prim .add ds s) = _
    rw [he]
    rfl
  have hput : ex F (.put (.var 2) (.var 5) (.prim .add (.cons (.prim .ix (.cons (.var 2) (.cons (.var 5) .nil))) (.cons (.prim .mul (.cons (.var 4) (.cons (.prim .add (.cons (.var 3) (.cons (.con (.int (2))) .nil))) .nil))) .nil)))) [some d0, some (.int 1), some (.ref 1), some (.int i), some (.int y), some (.int 0)] (S.mk [.lst [a], .lst [.int x], .lst ys] none) = .ok (.nx [some d0, some (.int 1), some (.ref 1), some (.int i), some (.int y), some (.int 0)]) ⟨[.lst [a], .lst [.int (x + y * (i + 2))], .lst ys], none⟩ := by
    show RS.of (ev F (.prim .add (.cons (.prim .ix (.cons (.var 2) (.cons (.var 5) .nil))) (.cons (.prim .mul (.cons (.var 4) (.cons (.prim .add (.cons (.var 3) (.cons (.con (.int (2))) .nil))) .nil))) .nil))) [some d0, some (.int 1), some (.ref 1), some (.int i), some (.int y), some (.int 0)] (S.mk [.lst [a], .lst [.int x], .lst ys] none)) _ _ = _
    rw [he2]
    rfl
  show (match ex F (.put (.var 2) (.var 5) (.prim .add (.cons (.prim .ix (.cons (.var 2) (.cons (.var 5) .nil))) (.cons (.prim .mul (.cons (.var 4) (.cons (.prim .add (.cons (.var 3) (.cons (.con (.int (2))) .nil))) .nil))) .nil)))) [some d0, some (.int 1), some (.ref 1), some (.int i), some (.int y), some (.int (Int.fmod (i : Int) 1))] (S.mk [.lst [a], .lst [.int x], .lst ys] none) with
    | .ok (.nx ρ2) s2 => exs F .nil ρ2 s2
    | r => r) = _
  rw [hm, hput]
  rfl
theorem cells_loop (F : Funs) (d0 a : D) (is : List Int) : ∀ (k : Nat) (fuel i : Nat) (x : Int) (r3 r4 r5 : Option D), i + k = is.length → is.length < 64 → k < fuel →
    ∃ x' r3' r4' r5', eachLoop (itemAt .enum [.ref 2]) cellsG (exs F cellsB) fuel i [some d0, some (.int 1), some (.ref 1), r3, r4, r5] ⟨[.lst [a], .lst [.int x], .lst (is.map .int)], none⟩ = .ok (.nx [some d0, some (.int 1), some (.ref 1), r3', r4', r5']) ⟨[.lst [a], .lst [.int x'], .lst (is.map .int)], none⟩
  | k, 0, i, x, r3, r4, r5, h1, h2, h3 => absurd h3 (Nat.not_lt_zero _)
  | 0, fuel + 1, i, x, r3, r4, r5, h1, h2, h3 => by
    refine ⟨x, r3, r4, r5, ?_⟩
    have e : itemAt .enum [.ref 2] i (S.mk [.lst [a], .lst [.int x], .lst (is.map D.int)] none) = some none := by
      show some (match (is.map D.int)[i]? with | some x => some (D.tup [.int i, x]) | none => none) = some none
      rw [List.getElem?_eq_none (by rw [List.length_map]; omega)]
    unfold eachLoop
    rw [e]
  | k + 1, fuel + 1, i, x, r3, r4, r5, h1, h2, h3 => by
    have hi : i < is.length := by omega
    have e : itemAt .enum [.ref 2] i (S.mk [.lst [a], .lst [.int x], .lst (is.map D.int)] none) = some (some (.tup [.int i, .int is[i]])) := by
      show some (match (is.map D.int)[i]? with | some x => some (D.tup [.int i, x]) | none => none) = _
      rw [List.getElem?_map, List.getElem?_eq_getElem hi]
      rfl
    obtain ⟨x', r3', r4', r5', ih⟩ := cells_loop F d0 a is k fuel (i + 1) (x + is[i] * (i + 2)) (some (.int i)) (some (.int is[i])) (some (.int 0)) (by omega) h2 (by omega)
    refine ⟨x', r3', r4', r5', ?_⟩
    rw [← ih]
    conv => lhs; unfold eachLoop
    rw [e]
    show (match exs F cellsB [some d0, some (.int 1), some (.ref 1), some (.int i), some (.int is[i]), r5] (S.mk [.lst [a], .lst [.int x], .lst (is.map D.int)] none) with
      | .ok (.nx ρ2) s2 => eachLoop (itemAt .enum [.ref 2]) cellsG (exs F cellsB) fuel (i + 1) ρ2 s2
      | .ok (.ct ρ2) s2 => eachLoop (itemAt .enum [.ref 2]) cellsG (exs F cellsB) fuel (i + 1) ρ2 s2
      | .ok (.bk ρ2) s2 => .ok (.nx ρ2) s2
      | r => r) = _
    rw [cells_body F d0 a (is.map D.int) x is[i] i r5 (by omega)]
theorem cut_1 {a : D} {r : List D} : cutD (a :: r) none (some 1) = [a] := by
  unfold cutD
  rw [HT.sIx_none, show (1 : Int) = ((1 : Nat) : Int) from rfl, HT.sIx_nat, List.drop_zero, List.length_cons, show min 1 (r.length + 1) - 0 = 1 by omega]
  rfl
theorem cut_63 {a : D} {r : List D} (h : r.length < 63) : cutD (a :: r) (some 1) (some 63) = r := by
  unfold cutD
  rw [show (1 : Int) = ((1 : Nat) : Int) from rfl, show (63 : Int) = ((63 : Nat) : Int) from rfl, HT.sIx_nat, HT.sIx_nat, List.length_cons, show min 1 (r.length + 1) = 1 by omega, show min 63 (r.length + 1) - 1 = r.length by omega]
  show r.take r.length = r
  exact List.take_length
theorem cells1 (F : Funs) : ∀ ns : List Int, ns.length ≤ 63 → ∃ x : Int, runDef F ⟨6, 2, cellsC⟩ [.lk (ns.map D.int), .int 1] ⟨[], none⟩ = .ok (.ref 0) ⟨[.lst [.int x]], none⟩
  | [], _ => ⟨0, rfl⟩
  | a :: r, h => by
    have hr : r.length < 63 := by rw [List.length_cons] at h; omega
    have hrd : (r.map D.int).length < 63 := by rw [List.length_map]; exact hr
    obtain ⟨x', r3, r4, r5, hl⟩ := cells_loop F (.lk (.int a :: r.map D.int)) (.int a) r r.length 100000 0 a none none none (by omega) (by omega) (by omega)
    refine ⟨x', ?_⟩
    have e1 : slD ⟨[], none⟩ (.lk (.int a :: r.map D.int)) none (some 1) = .ok (.ref 0) ⟨[.lst [.int a]], none⟩ := by
      show newList (cutD (.int a :: r.map D.int) none (some 1)) ⟨[], none⟩ = _
      rw [cut_1]
      rfl
    have e2 : slD ⟨[.lst [.int a], .lst [.int a]], none⟩ (.lk (.int a :: r.map D.int)) (some 1) (some 63) = .ok (.ref 2) ⟨[.lst [.int a], .lst [.int a], .lst (r.map D.int)], none⟩ := by
      show newList (cutD (.int a :: r.map D.int) (some 1) (some 63)) ⟨[.lst [.int a], .lst [.int a]], none⟩ = _
      rw [cut_63 hrd]
      unfold newList
      rw [if_pos (by omega)]
      rfl
    have s1 : ex F (.set (.name 2) (.or (.prim .listOf (.cons (.prim .slTo (.cons (.var 0) (.cons (.prim .chk (.cons (.var 1) .nil)) .nil))) .nil)) (.prim .lst (.cons (.con (.int (0))) .nil)))) [some (.lk (.int a :: r.map D.int)), some (.int 1), none, none, none, none] ⟨[], none⟩ =
        .ok (.nx [some (.lk (.int a :: r.map D.int)), some (.int 1), some (.ref 1), none, none, none]) ⟨[.lst [.int a], .lst [.int a]], none⟩ := by
      have v1 : ev F (.prim .slTo (.cons (.var 0) (.cons (.prim .chk (.cons (.var 1) .nil)) .nil))) [some (.lk (.int a :: r.map D.int)), some (.int 1), none, none, none, none] (S.mk [] none) = .ok (.ref 0) ⟨[.lst [.int a]], none⟩ := e1
      have v2 : ev F (.prim .listOf (.cons (.prim .slTo (.cons (.var 0) (.cons (.prim .chk (.cons (.var 1) .nil)) .nil))) .nil)) [some (.lk (.int a :: r.map D.int)), some (.int 1), none, none, none, none] (S.mk [] none) = .ok (.ref 1) ⟨[.lst [.int a], .lst [.int a]], none⟩ := by
        show (evs F (.cons (.prim .slTo (.cons (.var 0) (.cons (.prim .chk (.cons (.var 1) .nil)) .nil))) .nil) [some (.lk (.int a :: r.map D.int)), some (.int 1), none, none, none, none] (S.mk [] none)).bind (fun ds s => prim .listOf ds s) = _
        rw [evs1, v1]
        rfl
      have v3 : ev F (.or (.prim .listOf (.cons (.prim .slTo (.cons (.var 0) (.cons (.prim .chk (.cons (.var 1) .nil)) .nil))) .nil)) (.prim .lst (.cons (.con (.int (0))) .nil))) [some (.lk (.int a :: r.map D.int)), some (.int 1), none, none, none, none] (S.mk [] none) = .ok (.ref 1) ⟨[.lst [.int a], .lst [.int a]], none⟩ := by
        show (ev F (.prim .listOf (.cons (.prim .slTo (.cons (.var 0) (.cons (.prim .chk (.cons (.var 1) .nil)) .nil))) .nil)) [some (.lk (.int a :: r.map D.int)), some (.int 1), none, none, none, none] (S.mk [] none)).bind _ = _
        rw [v2]
        rfl
      show RS.of (ev F (.or (.prim .listOf (.cons (.prim .slTo (.cons (.var 0) (.cons (.prim .chk (.cons (.var 1) .nil)) .nil))) .nil)) (.prim .lst (.cons (.con (.int (0))) .nil))) [some (.lk (.int a :: r.map D.int)), some (.int 1), none, none, none, none] (S.mk [] none)) [some (.lk (.int a :: r.map D.int)), some (.int 1), none, none, none, none] (fun d s => match put (.name 2) d [some (.lk (.int a :: r.map D.int)), some (.int 1), none, none, none, none] with | some ρ' => RS.ok (.nx ρ') s | none => .no) = _
      rw [v3]
      rfl
    have s2 : ex F (.each cellsG .enum (.cons (.prim .sl (.cons (.var 0) (.cons (.prim .chk (.cons (.var 1) .nil)) (.cons (.prim .chk (.cons (.con (.int (63))) .nil)) .nil)))) .nil) cellsB) [some (.lk (.int a :: r.map D.int)), some (.int 1), some (.ref 1), none, none, none] ⟨[.lst [.int a], .lst [.int a]], none⟩ =
        .ok (.nx [some (.lk (.int a :: r.map D.int)), some (.int 1), some (.ref 1), r3, r4, r5]) ⟨[.lst [.int a], .lst [.int x'], .lst (r.map D.int)], none⟩ := by
      show RS.of (((slD ⟨[.lst [.int a], .lst [.int a]], none⟩ (.lk (.int a :: r.map D.int)) (some 1) (some 63)).bind fun d s => (R.ok [] s).bind fun ds s => R.ok (d :: ds) s)) _ (fun ds s => eachLoop (itemAt .enum ds) cellsG (exs F cellsB) 100000 0 [some (.lk (.int a :: r.map D.int)), some (.int 1), some (.ref 1), none, none, none] s) = _
      rw [e2]
      exact hl
    have hx : exs F cellsC [some (.lk (.int a :: r.map D.int)), some (.int 1), none, none, none, none] (S.mk [] none) = .ok (.rt (.ref 1)) ⟨[.lst [.int a], .lst [.int x'], .lst (r.map D.int)], none⟩ := by
      show (match ex F (.set (.name 2) (.or (.prim .listOf (.cons (.prim .slTo (.cons (.var 0) (.cons (.prim .chk (.cons (.var 1) .nil)) .nil))) .nil)) (.prim .lst (.cons (.con (.int (0))) .nil)))) [some (.lk (.int a :: r.map D.int)), some (.int 1), none, none, none, none] (S.mk [] none) with
        | .ok (.nx ρ2) s2 => exs F _ ρ2 s2
        | r => r) = _
      rw [s1]
      show (match ex F (.each cellsG .enum (.cons (.prim .sl (.cons (.var 0) (.cons (.prim .chk (.cons (.var 1) .nil)) (.cons (.prim .chk (.cons (.con (.int (63))) .nil)) .nil)))) .nil) cellsB) [some (.lk (.int a :: r.map D.int)), some (.int 1), some (.ref 1), none, none, none] ⟨[.lst [.int a], .lst [.int a]], none⟩ with
        | .ok (.nx ρ2) s2 => exs F (.cons (.ret (.var 2)) .nil) ρ2 s2
        | r => r) = _
      rw [s2]
      rfl
    unfold runDef
    rw [if_pos ⟨rfl, by decide⟩]
    show (match exs F cellsC [some (.lk (.int a :: r.map D.int)), some (.int 1), none, none, none, none] (S.mk [] none) with
      | .ok (.rt d) s2 => gc 0 d s2
      | .ok (.nx _) s2 => gc 0 .non s2
      | .ex x fs _ s2 => .ex x fs s2
      | _ => .no) = _
    rw [hx]
    rfl
theorem refs_ints {n : Nat} : ∀ ns : List Int, refsLtL n (ns.map D.int) = true
  | [] => rfl
  | a :: r => refs_ints (n := n) r
/-- a call by itself that tells a plain value -/
def isTe : R D → Bool
  | .ok (.bl true) ⟨[], _⟩ => true
  | _ => false
theorem cl_true {F : Funs} {f : Nat} (h : isTe (F f [] ⟨[], none⟩) = true) (s : S) : cl F f [] s = .ok (.bl true) s := by
  rw [cl_eq]
  unfold clO
  rw [if_pos (show refsLtL 0 [] = true from rfl)]
  cases e : F f [] ⟨[], none⟩ with
  | no => rw [e] at h; cases h
  | ex x fs s' => rw [e] at h; cases h
  | ok d s' =>
    rw [e] at h
    obtain ⟨l, e'⟩ := s'
    cases d with
    | bl b =>
      cases b with
      | true =>
        cases l with
        | nil => rfl
        | cons c cs => cases h
      | false => cases h
    | _ => cases h
theorem cl_cells {Fs : Funs} {Tf : List Fn} {f : Nat} (hf : Tf[f]? = some ⟨6, 2, cellsC⟩) (ns : List Int) (h : ns.length ≤ 63) (s : S) : ∃ x : Int, cl (runG Tf Fs) f [.lk (ns.map D.int), .int 1] s = .ok (.ref s.l.length) ⟨s.l ++ [.lst [.int x]], s.e⟩ := by
  obtain ⟨x, e⟩ := cells1 Fs ns h
  refine ⟨x, ?_⟩
  rw [cl_eq]
  unfold clO
  have hc : refsLtL 0 [D.lk (ns.map D.int), .int 1] = true := by
    show (refsLtL 0 (ns.map D.int) && (true && true)) = true
    rw [refs_ints]; rfl
  have e2 : runG Tf Fs f [.lk (ns.map D.int), .int 1] ⟨[], none⟩ = .ok (.ref 0) ⟨[.lst [.int x]], none⟩ := by
    unfold runG
    rw [hf]
    exact e
  rw [if_pos hc, e2]
  obtain ⟨l, e0⟩ := s
  cases e0 <;> rfl
end Mi

set_option linter.all false
set_option maxRecDepth 100000
set_option maxHeartbeats 0
namespace Lw
open PySem PySem.Spec PyProof.Rows L2 Mi
def top (i : Nat) : Stmt := PySem.Challenge.pw_fourlooks_k23_pushes_and_quarters_by_han.main.body.getD i (.Pass ⟨0, 0, 0, 0⟩)

def tfns0 : List (Str × Nat × Nat) := [(("is_number" : Str), 0, 1), (("is_point" : Str), 1, 1), (("is_stroke" : Str), 2, 1), (("way" : Str), 3, 1), (("are_unlike" : Str), 4, 2), (("determinant" : Str), 5, 3), (("upright_to" : Str), 6, 2), (("stepped" : Str), 7, 2), (("walked" : Str), 8, 2), (("spans" : Str), 9, 1), (("bent_places" : Str), 10, 1), (("is_cord" : Str), 11, 1), (("_are_strokes" : Str), 12, 1), (("are_strokes_cords" : Str), 13, 1), (("_closes" : Str), 14, 2), (("told_cord" : Str), 15, 1), (("pushed_link" : Str), 16, 3), (("_flat_strokes" : Str), 17, 1), (("_shadows" : Str), 18, 1), (("_crossed" : Str), 19, 3)]
def tfns20 : List (Str × Nat × Nat) := [(("self_link" : Str), 20, 2), (("four" : Str), 21, 1), (("corner_sum" : Str), 22, 2), (("four_by" : Str), 23, 3), (("octant_change" : Str), 24, 3), (("_corner_strokes" : Str), 25, 1), (("_sign_along" : Str), 26, 2), (("quarters" : Str), 27, 1), (("quarters_by" : Str), 28, 3), (("bend_change" : Str), 29, 4), (("out_change" : Str), 30, 4), (("changed_rows" : Str), 31, 1), (("_is_fit_bend" : Str), 32, 4), (("_is_fit_bump" : Str), 33, 4), (("are_strokes_quarters" : Str), 34, 1), (("_runs_on" : Str), 35, 1), (("_law_cells" : Str), 36, 2), (("_law_lists" : Str), 37, 1), (("_law_same" : Str), 38, 2), (("_law_skew" : Str), 39, 0)]
def tfns40 : List (Str × Nat × Nat) := [(("_law_coil" : Str), 40, 0), (("_law_eyes" : Str), 41, 0), (("_law_asked" : Str), 42, 2), (("_law_reply" : Str), 43, 2), (("_law_front_right" : Str), 44, 0), (("_law_refused_right" : Str), 45, 0), (("_law_mirrored_right" : Str), 46, 0), (("_law_soft_right" : Str), 47, 0), (("law" : Str), 48, 1)]
def tfns : List (Str × Nat × Nat) := tfns0 ++ tfns20 ++ tfns40
def tcons : List (Str × Mi.D) := [("STROKES", D.tup [D.int (-3), D.int (-2), D.int (-1), D.int (1), D.int (2), D.int (3)]), ("FOUR_OCTANTS", D.tup [D.tup [D.int (1), D.int (1), D.int (1)], D.tup [D.int (1), D.int (1), D.int (-1)], D.tup [D.int (1), D.int (-1), D.int (1)], D.tup [D.int (-1), D.int (1), D.int (1)]])]
def ttabs : List (Str × List (Int × Mi.D)) := [("STEPS", [((1), D.tup [D.int (1), D.int (0), D.int (0)]), ((2), D.tup [D.int (0), D.int (1), D.int (0)]), ((3), D.tup [D.int (0), D.int (0), D.int (1)]), ((-1), D.tup [D.int (-1), D.int (0), D.int (0)]), ((-2), D.tup [D.int (0), D.int (-1), D.int (0)]), ((-3), D.tup [D.int (0), D.int (0), D.int (-1)])])]
def texcs : List (Str × Nat) := [("Unfit", 0)]
def thnd : List (Str × List Nat × List Str) := [("Unfit", [0], [])]
def tblt : List Str := ["isinstance", "len", "abs", "all", "tuple", "list", "range", "zip", "set", "sum", "min", "int", "bool", "enumerate", "ValueError", "str"]
def tisx : List Str := ["ValueError"]
def tkws : List (Str × List Str × List Nat) := [(("four" : Str), ["cord"], [0]), (("quarters" : Str), ["cord"], [0]), (("self_link" : Str), ["octant", "cord"], [1, 0]), (("corner_sum" : Str), ["octant", "cord"], [1, 0]), (("four_by" : Str), ["number", "octant", "cord"], [2, 1, 0]), (("quarters_by" : Str), ["number", "octant", "cord"], [2, 1, 0]), (("octant_change" : Str), ["axis", "octant", "cord"], [2, 1, 0]), (("bend_change" : Str), ["behind", "other", "stroke", "ahead"], [3, 2, 1, 0]), (("out_change" : Str), ["behind", "side", "stroke", "ahead"], [3, 2, 1, 0]), (("changed_rows" : Str), ["number"], [0])]
def toks : List Nat := [12, 20, 21, 22, 23, 24, 27, 28, 45, 46, 47]
def tb : Mi.Tb := ⟨tfns, tcons, texcs, thnd, tblt, tisx, tkws, toks, ttabs⟩
def ps5 : List Str := ["value"]
def N5 : List Str := ["value"]
def ps6 : List Str := ["value"]
def N6 : List Str := ["value", "part"]
def ps7 : List Str := ["value"]
def N7 : List Str := ["value"]
def ps8 : List Str := ["stroke"]
def N8 : List Str := ["stroke"]
def ps9 : List Str := ["stroke", "other"]
def N9 : List Str := ["stroke", "other"]
def ps10 : List Str := ["first", "second", "third"]
def N10 : List Str := ["first", "second", "third", "order", "one", "two", "three"]
def ps11 : List Str := ["stroke", "other"]
def N11 : List Str := ["stroke", "other", "axis"]
def ps12 : List Str := ["point", "stroke"]
def N12 : List Str := ["point", "stroke", "x", "y", "z", "along", "across", "up"]
def ps13 : List Str := ["start", "strokes"]
def N13 : List Str := ["start", "strokes", "spots", "stroke"]
def ps14 : List Str := ["cord"]
def N14 : List Str := ["cord", "spots", "start", "strokes", "stroke", "begin", "end"]
def ps15 : List Str := ["strokes"]
def N15 : List Str := ["strokes", "k"]
def ps17 : List Str := ["thing"]
def N17 : List Str := ["thing", "start", "strokes"]
def ps18 : List Str := ["value"]
def N18 : List Str := ["value", "part"]
def ps20 : List Str := ["start", "strokes"]
def N20 : List Str := ["start", "strokes", "spots"]
def ps21 : List Str := ["cord"]
def N21 : List Str := ["cord", "told", "start", "strokes"]
def ps23 : List Str := ["cord", "other", "octant"]
def N23 : List Str := ["cord", "other", "octant", "thrown", "signs", "stroke", "low", "partner", "height", "upright"]
def ps24 : List Str := ["cord"]
def N24 : List Str := ["cord", "stroke", "low"]
def ps25 : List Str := ["cord"]
def N25 : List Str := ["cord", "found", "stroke", "low"]
def ps26 : List Str := ["stroke", "low", "octant"]
def N26 : List Str := ["stroke", "low", "octant"]
def ps29 : List Str := ["cord", "octant"]
def N29 : List Str := ["cord", "octant", "told"]
def ps30 : List Str := ["cord"]
def N30 : List Str := ["cord", "told", "octant"]
def ps31 : List Str := ["cord", "octant"]
def N31 : List Str := ["cord", "octant", "total", "stroke", "behind", "sign"]
def ps32 : List Str := ["cord", "octant", "number"]
def N32 : List Str := ["cord", "octant", "number", "own", "each"]
def ps33 : List Str := ["cord", "octant", "axis"]
def N33 : List Str := ["cord", "octant", "axis", "upright", "total", "stroke", "behind", "both"]
def ps34 : List Str := ["cord"]
def N34 : List Str := ["cord", "strokes", "k"]
def ps35 : List Str := ["octant", "stroke"]
def N35 : List Str := ["octant", "stroke"]
def ps37 : List Str := ["cord"]
def N37 : List Str := ["cord"]
def ps38 : List Str := ["cord", "octant", "number"]
def N38 : List Str := ["cord", "octant", "number"]
def ps39 : List Str := ["ahead", "stroke", "other", "behind"]
def N39 : List Str := ["ahead", "stroke", "other", "behind"]
def ps40 : List Str := ["ahead", "stroke", "side", "behind"]
def N40 : List Str := ["ahead", "stroke", "side", "behind"]
def ps41 : List Str := ["number"]
def N41 : List Str := ["number", "rows", "a", "b", "c", "d"]
def ps42 : List Str := ["ahead", "stroke", "other", "behind"]
def N42 : List Str := ["ahead", "stroke", "other", "behind", "row", "bent"]
def ps43 : List Str := ["ahead", "stroke", "side", "behind"]
def N43 : List Str := ["ahead", "stroke", "side", "behind"]
def ps44 : List Str := ["row"]
def N44 : List Str := ["row", "each"]
def ps46 : List Str := ["row"]
def N46 : List Str := ["row", "one", "two"]
def ps48 : List Str := ["script", "most_so"]
def N48 : List Str := ["script", "most_so", "cells_so", "k", "bit_so", "at_so"]
def ps49 : List Str := ["matter"]
def N49 : List Str := ["matter", "bit"]
def ps50 : List Str := ["got", "due"]
def N50 : List Str := ["got", "due", "mine", "its"]
def ps51 : List Str := []
def N51 : List Str := []
def ps52 : List Str := []
def N52 : List Str := []
def ps53 : List Str := []
def N53 : List Str := ["four_so", "eye", "own"]
def ps54 : List Str := ["door_so", "rope_so"]
def N54 : List Str := ["door_so", "rope_so"]
def ps55 : List Str := ["door_so", "rope_so"]
def N55 : List Str := ["door_so", "rope_so", "found", "error"]
def ps56 : List Str := []
def N56 : List Str := ["got", "due", "door_so"]
def ps57 : List Str := []
def N57 : List Str := ["bad_so", "door_so", "own"]
def ps58 : List Str := []
def N58 : List Str := ["coil", "glass_so", "got", "due", "back_so", "late_so", "eye_so", "own"]
def ps59 : List Str := []
def N59 : List Str := ["soft_so", "got"]
def ps60 : List Str := ["script"]
def N60 : List Str := ["script"]
def c5 : CSs := (.cons (.ret (.and (.prim (.isTy [.int]) (.cons (.var 0) .nil)) (.not (.prim (.isTy [.bl]) (.cons (.var 0) .nil))))) .nil)
def c6 : CSs := (.cons (.ret (.and (.prim (.isTy [.tup]) (.cons (.var 0) .nil)) (.and (.prim .eq (.cons (.prim .len (.cons (.var 0) .nil)) (.cons (.con (.int (3))) .nil))) (.prim .all (.cons (.comp (.call 0 (.cons (.var 1) .nil)) (.name 1) .seq (.cons (.var 0) .nil) (.con (.bl true)) [1]) .nil))))) .nil)
def c7 : CSs := (.cons (.ret (.and (.call 0 (.cons (.var 0) .nil)) (.prim .inn (.cons (.var 0) (.cons (.con (.tup [(.int (-3)), (.int (-2)), (.int (-1)), (.int (1)), (.int (2)), (.int (3))])) .nil))))) .nil)
def c8 : CSs := (.cons (.ret (.ite (.prim .gt (.cons (.var 0) (.cons (.con (.int (0))) .nil))) (.con (.int (1))) (.prim .neg (.cons (.con (.int (1))) .nil)))) .nil)
def c9 : CSs := (.cons (.ret (.prim .ne (.cons (.prim .abs (.cons (.var 0) .nil)) (.cons (.prim .abs (.cons (.var 1) .nil)) .nil)))) .nil)
def c10 : CSs := (.cons (.set (.tup (.cons (.name 4) (.cons (.name 5) (.cons (.name 6) .nil)))) (.prim .tup (.cons (.prim .abs (.cons (.var 0) .nil)) (.cons (.prim .abs (.cons (.var 1) .nil)) (.cons (.prim .abs (.cons (.var 2) .nil)) .nil))))) (.cons (.set (.name 3) (.prim .fdiv (.cons (.prim .mul (.cons (.prim .mul (.cons (.prim .sub (.cons (.var 4) (.cons (.var 5) .nil))) (.cons (.prim .sub (.cons (.var 5) (.cons (.var 6) .nil))) .nil))) (.cons (.prim .sub (.cons (.var 6) (.cons (.var 4) .nil))) .nil))) (.cons (.con (.int (2))) .nil)))) (.cons (.ret (.prim .mul (.cons (.prim .mul (.cons (.prim .mul (.cons (.var 3) (.cons (.call 3 (.cons (.var 0) .nil)) .nil))) (.cons (.call 3 (.cons (.var 1) .nil)) .nil))) (.cons (.call 3 (.cons (.var 2) .nil)) .nil)))) .nil)))
def c11 : CSs := (.cons (.set (.name 2) (.prim .sub (.cons (.prim .sub (.cons (.con (.int (6))) (.cons (.prim .abs (.cons (.var 0) .nil)) .nil))) (.cons (.prim .abs (.cons (.var 1) .nil)) .nil)))) (.cons (.ret (.prim .mul (.cons (.var 2) (.cons (.call 5 (.cons (.var 0) (.cons (.var 1) (.cons (.var 2) .nil)))) .nil)))) .nil))
def c12 : CSs := (.cons (.setU (.cons (.name 2) (.cons (.name 3) (.cons (.name 4) .nil))) (.var 0)) (.cons (.setU (.cons (.name 5) (.cons (.name 6) (.cons (.name 7) .nil))) (.kget [(1, (.tup [(.int (1)), (.int (0)), (.int (0))])), (2, (.tup [(.int (0)), (.int (1)), (.int (0))])), (3, (.tup [(.int (0)), (.int (0)), (.int (1))])), (-1, (.tup [(.int (-1)), (.int (0)), (.int (0))])), (-2, (.tup [(.int (0)), (.int (-1)), (.int (0))])), (-3, (.tup [(.int (0)), (.int (0)), (.int (-1))]))] (.var 1))) (.cons (.ret (.prim .tup (.cons (.prim .add (.cons (.var 2) (.cons (.var 5) .nil))) (.cons (.prim .add (.cons (.var 3) (.cons (.var 6) .nil))) (.cons (.prim .add (.cons (.var 4) (.cons (.var 7) .nil))) .nil))))) .nil)))
def c13 : CSs := (.cons (.set (.name 2) (.prim .lst (.cons (.var 0) .nil))) (.cons (.each (.name 3) .seq (.cons (.var 1) .nil) (.cons (.push (.var 2) (.call 7 (.cons (.prim .ix (.cons (.var 2) (.cons (.prim .neg (.cons (.con (.int (1))) .nil)) .nil))) (.cons (.var 3) .nil)))) .nil)) (.cons (.ret (.var 2)) .nil)))
def c14 : CSs := (.cons (.setU (.cons (.name 2) (.cons (.name 3) .nil)) (.var 0)) (.cons (.set (.name 1) (.call 8 (.cons (.var 2) (.cons (.var 3) .nil)))) (.cons (.ret (.comp (.prim .tup (.cons (.var 4) (.cons (.prim .min2 (.cons (.var 5) (.cons (.var 6) .nil))) .nil))) (.tup (.cons (.name 4) (.cons (.name 5) (.cons (.name 6) .nil)))) .zip3 (.cons (.var 3) (.cons (.var 1) (.cons (.prim .slFrom (.cons (.var 1) (.cons (.prim .chk (.cons (.con (.int (1))) .nil)) .nil))) .nil))) (.con (.bl true)) [4, 5, 6])) .nil)))
def c15 : CSs := (.cons (.ret (.prim .tupleOf (.cons (.comp (.var 1) (.name 1) .rng1 (.cons (.prim .len (.cons (.var 0) .nil)) .nil) (.call 4 (.cons (.prim .ix (.cons (.var 0) (.cons (.prim .sub (.cons (.var 1) (.cons (.con (.int (1))) .nil))) .nil))) (.cons (.prim .ix (.cons (.var 0) (.cons (.var 1) .nil))) .nil))) [1]) .nil))) .nil)
def c17 : CSs := (.cons (.cond (.not (.and (.prim (.isTy [.tup]) (.cons (.var 0) .nil)) (.prim .eq (.cons (.prim .len (.cons (.var 0) .nil)) (.cons (.con (.int (2))) .nil))))) (.cons (.ret (.con (.bl false))) .nil) .nil) (.cons (.setU (.cons (.name 1) (.cons (.name 2) .nil)) (.var 0)) (.cons (.ret (.and (.call 1 (.cons (.var 1) .nil)) (.and (.call 13 (.cons (.var 2) .nil)) (.call 14 (.cons (.var 1) (.cons (.var 2) .nil)))))) .nil)))
def c18 : CSs := (.cons (.ret (.and (.prim (.isTy [.tup]) (.cons (.var 0) .nil)) (.and (.prim .ge (.cons (.prim .len (.cons (.var 0) .nil)) (.cons (.con (.int (4))) .nil))) (.prim .all (.cons (.comp (.call 2 (.cons (.var 1) .nil)) (.name 1) .seq (.cons (.var 0) .nil) (.con (.bl true)) [1]) .nil))))) .nil)
def c20 : CSs := (.cons (.set (.name 2) (.call 8 (.cons (.var 0) (.cons (.var 1) .nil)))) (.cons (.ret (.and (.prim .eq (.cons (.prim .ix (.cons (.var 2) (.cons (.prim .neg (.cons (.con (.int (1))) .nil)) .nil))) (.cons (.var 0) .nil))) (.prim .eq (.cons (.prim .lenSet (.cons (.var 2) .nil)) (.cons (.prim .len (.cons (.var 1) .nil)) .nil))))) .nil))
def c21 : CSs := (.cons (.cond (.not (.and (.prim (.isTy [.lst, .tup]) (.cons (.var 0) .nil)) (.prim .eq (.cons (.prim .len (.cons (.var 0) .nil)) (.cons (.con (.int (2))) .nil))))) (.cons (.raise 0 .nil) .nil) .nil) (.cons (.setU (.cons (.name 2) (.cons (.name 3) .nil)) (.var 0)) (.cons (.cond (.not (.and (.prim (.isTy [.lst, .tup]) (.cons (.var 2) .nil)) (.prim (.isTy [.lst, .tup]) (.cons (.var 3) .nil)))) (.cons (.raise 0 .nil) .nil) .nil) (.cons (.set (.name 1) (.prim .tup (.cons (.prim .tupleOf (.cons (.var 2) .nil)) (.cons (.prim .tupleOf (.cons (.var 3) .nil)) .nil)))) (.cons (.cond (.not (.call 11 (.cons (.var 1) .nil))) (.cons (.raise 0 .nil) .nil) .nil) (.cons (.ret (.var 1)) .nil))))))
def c23 : CSs := (.cons (.set (.name 3) (.call 18 (.cons (.var 1) .nil))) (.cons (.set (.name 4) (.con (.int (0)))) (.cons (.each (.tup (.cons (.name 5) (.cons (.name 6) .nil))) .seq (.cons (.call 17 (.cons (.var 0) .nil)) .nil) (.cons (.each (.tup (.cons (.name 7) (.cons (.name 8) .nil))) .seq (.cons (.dgetd (.var 3) (.call 19 (.cons (.var 5) (.cons (.var 6) (.cons (.var 2) .nil)))) (.prim .tup .nil)) .nil) (.cons (.set (.name 9) (.ite (.prim .gt (.cons (.prim .mul (.cons (.con (.int (2))) (.cons (.prim .ix (.cons (.var 6) (.cons (.con (.int (2))) .nil))) .nil))) (.cons (.prim .add (.cons (.prim .mul (.cons (.con (.int (2))) (.cons (.var 8) .nil))) (.cons (.prim .ix (.cons (.var 2) (.cons (.con (.int (2))) .nil))) .nil))) .nil))) (.con (.int (3))) (.prim .neg (.cons (.con (.int (3))) .nil)))) (.cons (.aug 4 false (.call 5 (.cons (.var 5) (.cons (.var 7) (.cons (.var 9) .nil))))) .nil))) .nil)) (.cons (.ret (.prim .fdiv (.cons (.var 4) (.cons (.con (.int (2))) .nil)))) .nil))))
def c24 : CSs := (.cons (.ret (.comp (.prim .tup (.cons (.var 1) (.cons (.var 2) .nil))) (.tup (.cons (.name 1) (.cons (.name 2) .nil))) .seq (.cons (.call 9 (.cons (.var 0) .nil)) .nil) (.prim .ne (.cons (.prim .abs (.cons (.var 1) .nil)) (.cons (.con (.int (3))) .nil))) [1, 2])) .nil)
def c25 : CSs := (.cons (.set (.name 1) (.prim .dnew .nil)) (.cons (.each (.tup (.cons (.name 2) (.cons (.name 3) .nil))) .seq (.cons (.call 17 (.cons (.var 0) .nil)) .nil) (.cons (.push (.dsetd (.var 1) (.cons (.prim .abs (.cons (.var 2) .nil)) (.cons (.prim .ix (.cons (.var 3) (.cons (.con (.int (0))) .nil))) (.cons (.prim .ix (.cons (.var 3) (.cons (.con (.int (1))) .nil))) .nil))) (.prim .lst .nil)) (.prim .tup (.cons (.var 2) (.cons (.prim .ix (.cons (.var 3) (.cons (.con (.int (2))) .nil))) .nil)))) .nil)) (.cons (.ret (.var 1)) .nil)))
def c26 : CSs := (.cons (.cond (.prim .eq (.cons (.prim .abs (.cons (.var 0) .nil)) (.cons (.con (.int (1))) .nil))) (.cons (.ret (.prim .tup (.cons (.con (.int (2))) (.cons (.prim .add (.cons (.prim .ix (.cons (.var 1) (.cons (.con (.int (0))) .nil))) (.cons (.prim .fdiv (.cons (.prim .sub (.cons (.con (.int (1))) (.cons (.prim .ix (.cons (.var 2) (.cons (.con (.int (0))) .nil))) .nil))) (.cons (.con (.int (2))) .nil))) .nil))) (.cons (.prim .sub (.cons (.prim .ix (.cons (.var 1) (.cons (.con (.int (1))) .nil))) (.cons (.prim .fdiv (.cons (.prim .add (.cons (.con (.int (1))) (.cons (.prim .ix (.cons (.var 2) (.cons (.con (.int (1))) .nil))) .nil))) (.cons (.con (.int (2))) .nil))) .nil))) .nil))))) .nil) .nil) (.cons (.ret (.prim .tup (.cons (.con (.int (1))) (.cons (.prim .sub (.cons (.prim .ix (.cons (.var 1) (.cons (.con (.int (0))) .nil))) (.cons (.prim .fdiv (.cons (.prim .add (.cons (.con (.int (1))) (.cons (.prim .ix (.cons (.var 2) (.cons (.con (.int (0))) .nil))) .nil))) (.cons (.con (.int (2))) .nil))) .nil))) (.cons (.prim .add (.cons (.prim .ix (.cons (.var 1) (.cons (.con (.int (1))) .nil))) (.cons (.prim .fdiv (.cons (.prim .sub (.cons (.con (.int (1))) (.cons (.prim .ix (.cons (.var 2) (.cons (.con (.int (1))) .nil))) .nil))) (.cons (.con (.int (2))) .nil))) .nil))) .nil))))) .nil))
def c29 : CSs := (.cons (.set (.name 2) (.call 15 (.cons (.var 0) .nil))) (.cons (.ret (.call 16 (.cons (.var 2) (.cons (.var 2) (.cons (.var 1) .nil))))) .nil))
def c30 : CSs := (.cons (.set (.name 1) (.call 15 (.cons (.var 0) .nil))) (.cons (.ret (.prim .tupleOf (.cons (.comp (.call 16 (.cons (.var 1) (.cons (.var 1) (.cons (.var 2) .nil)))) (.name 2) .seq (.cons (.con (.tup [(.tup [(.int (1)), (.int (1)), (.int (1))]), (.tup [(.int (1)), (.int (1)), (.int (-1))]), (.tup [(.int (1)), (.int (-1)), (.int (1))]), (.tup [(.int (-1)), (.int (1)), (.int (1))])])) .nil) (.con (.bl true)) [2]) .nil))) .nil))
def c31 : CSs := (.cons (.set (.name 2) (.con (.int (0)))) (.cons (.each (.tup (.cons (.name 3) (.cons (.name 4) .nil))) .seq (.cons (.call 25 (.cons (.var 0) .nil)) .nil) (.cons (.set (.name 5) (.call 26 (.cons (.var 1) (.cons (.var 4) .nil)))) (.cons (.cond (.prim .eq (.cons (.call 26 (.cons (.var 1) (.cons (.var 3) .nil))) (.cons (.var 5) .nil))) (.cons (.aug 2 false (.prim .mul (.cons (.var 5) (.cons (.call 26 (.cons (.var 1) (.cons (.call 6 (.cons (.var 3) (.cons (.var 4) .nil))) .nil))) .nil)))) .nil) .nil) .nil))) (.cons (.ret (.var 2)) .nil)))
def c32 : CSs := (.cons (.set (.name 3) (.call 22 (.cons (.var 0) (.cons (.var 1) .nil)))) (.cons (.ret (.prim .tupleOf (.cons (.comp (.prim .add (.cons (.var 2) (.cons (.prim .fdiv (.cons (.prim .sub (.cons (.call 22 (.cons (.var 0) (.cons (.var 4) .nil))) (.cons (.var 3) .nil))) (.cons (.con (.int (4))) .nil))) .nil))) (.name 4) .seq (.cons (.con (.tup [(.tup [(.int (1)), (.int (1)), (.int (1))]), (.tup [(.int (1)), (.int (1)), (.int (-1))]), (.tup [(.int (1)), (.int (-1)), (.int (1))]), (.tup [(.int (-1)), (.int (1)), (.int (1))])])) .nil) (.con (.bl true)) [4]) .nil))) .nil))
def c33 : CSs := (.cons (.set (.name 3) (.prim .mul (.cons (.var 2) (.cons (.prim .ix (.cons (.var 1) (.cons (.prim .sub (.cons (.var 2) (.cons (.con (.int (1))) .nil))) .nil))) .nil)))) (.cons (.set (.name 4) (.con (.int (0)))) (.cons (.each (.tup (.cons (.name 5) (.cons (.name 6) .nil))) .seq (.cons (.call 25 (.cons (.var 0) .nil)) .nil) (.cons (.set (.name 7) (.prim .add (.cons (.call 26 (.cons (.var 1) (.cons (.var 5) .nil))) (.cons (.call 26 (.cons (.var 1) (.cons (.var 6) .nil))) .nil)))) (.cons (.aug 4 false (.prim .fdiv (.cons (.prim .mul (.cons (.call 5 (.cons (.var 5) (.cons (.var 6) (.cons (.var 3) .nil)))) (.cons (.var 7) .nil))) (.cons (.con (.int (2))) .nil)))) .nil))) (.cons (.ret (.var 4)) .nil))))
def c34 : CSs := (.cons (.set (.name 1) (.prim .ix (.cons (.call 15 (.cons (.var 0) .nil)) (.cons (.con (.int (1))) .nil)))) (.cons (.ret (.comp (.prim .tup (.cons (.prim .ix (.cons (.var 1) (.cons (.prim .sub (.cons (.var 2) (.cons (.con (.int (1))) .nil))) .nil))) (.cons (.prim .ix (.cons (.var 1) (.cons (.var 2) .nil))) .nil))) (.name 2) .seq (.cons (.call 10 (.cons (.var 1) .nil)) .nil) (.con (.bl true)) [2])) .nil))
def c35 : CSs := (.cons (.ret (.prim .mul (.cons (.prim .ix (.cons (.var 0) (.cons (.prim .sub (.cons (.prim .abs (.cons (.var 1) .nil)) (.cons (.con (.int (1))) .nil))) .nil))) (.cons (.call 3 (.cons (.var 1) .nil)) .nil)))) .nil)
def c37 : CSs := (.cons (.ret (.prim .sum (.cons (.call 21 (.cons (.var 0) .nil)) .nil))) .nil)
def c38 : CSs := (.cons (.ret (.prim .sub (.cons (.prim .mul (.cons (.con (.int (4))) (.cons (.var 2) .nil))) (.cons (.call 22 (.cons (.var 0) (.cons (.var 1) .nil))) .nil)))) .nil)
def c39 : CSs := (.cons (.cond (.not (.call 32 (.cons (.var 0) (.cons (.var 1) (.cons (.var 2) (.cons (.var 3) .nil)))))) (.cons (.raise 0 .nil) .nil) .nil) (.cons (.ret (.prim .sub (.cons (.prim .neg (.cons (.call 5 (.cons (.var 1) (.cons (.var 2) (.cons (.var 0) .nil)))) .nil)) (.cons (.call 5 (.cons (.var 1) (.cons (.var 2) (.cons (.var 3) .nil)))) .nil)))) .nil))
def c40 : CSs := (.cons (.cond (.not (.call 33 (.cons (.var 0) (.cons (.var 1) (.cons (.var 2) (.cons (.var 3) .nil)))))) (.cons (.raise 0 .nil) .nil) .nil) (.cons (.ret (.prim .add (.cons (.call 5 (.cons (.var 2) (.cons (.var 1) (.cons (.var 0) .nil)))) (.cons (.call 5 (.cons (.var 2) (.cons (.var 1) (.cons (.var 3) .nil)))) .nil)))) .nil))
def c41 : CSs := (.cons (.set (.name 1) (.compN (.prim .tup (.cons (.var 2) (.cons (.var 3) (.cons (.var 4) (.cons (.var 5) .nil))))) (.name 2) .seq (.cons (.con (.tup [(.int (-3)), (.int (-2)), (.int (-1)), (.int (1)), (.int (2)), (.int (3))])) .nil) (.con (.bl true)) (.cons (.name 3) .seq (.cons (.con (.tup [(.int (-3)), (.int (-2)), (.int (-1)), (.int (1)), (.int (2)), (.int (3))])) .nil) (.con (.bl true)) [3, 4, 5] (.cons (.name 4) .seq (.cons (.con (.tup [(.int (-3)), (.int (-2)), (.int (-1)), (.int (1)), (.int (2)), (.int (3))])) .nil) (.con (.bl true)) [4, 5] (.cons (.name 5) .seq (.cons (.con (.tup [(.int (-3)), (.int (-2)), (.int (-1)), (.int (1)), (.int (2)), (.int (3))])) .nil) (.con (.bl true)) [5] .nil))) [2, 3, 4, 5])) (.cons (.ret (.comp (.prim .tup (.cons (.var 2) (.cons (.var 3) (.cons (.var 4) (.cons (.var 5) .nil))))) (.tup (.cons (.name 2) (.cons (.name 3) (.cons (.name 4) (.cons (.name 5) .nil))))) .seq (.cons (.var 1) .nil) (.and (.call 32 (.cons (.var 2) (.cons (.var 3) (.cons (.var 4) (.cons (.var 5) .nil))))) (.prim .eq (.cons (.call 29 (.cons (.var 2) (.cons (.var 3) (.cons (.var 4) (.cons (.var 5) .nil))))) (.cons (.var 0) .nil)))) [2, 3, 4, 5])) .nil))
def c42 : CSs := (.cons (.set (.tup (.cons (.name 4) (.cons (.name 5) .nil))) (.prim .tup (.cons (.prim .tup (.cons (.var 0) (.cons (.var 1) (.cons (.var 2) (.cons (.var 3) .nil))))) (.cons (.prim .tup (.cons (.var 0) (.cons (.var 2) (.cons (.var 1) (.cons (.var 3) .nil))))) .nil)))) (.cons (.ret (.and (.call 34 (.cons (.var 4) .nil)) (.and (.call 4 (.cons (.var 1) (.cons (.var 2) .nil))) (.and (.call 35 (.cons (.var 4) .nil)) (.call 35 (.cons (.var 5) .nil)))))) .nil))
def c43 : CSs := (.cons (.cond (.not (.and (.call 34 (.cons (.prim .tup (.cons (.var 0) (.cons (.var 1) (.cons (.var 2) (.cons (.var 3) .nil))))) .nil)) (.call 4 (.cons (.var 1) (.cons (.var 2) .nil))))) (.cons (.ret (.con (.bl false))) .nil) .nil) (.cons (.ret (.and (.call 35 (.cons (.prim .tup (.cons (.var 0) (.cons (.var 1) (.cons (.var 3) .nil)))) .nil)) (.call 35 (.cons (.prim .tup (.cons (.var 0) (.cons (.var 2) (.cons (.var 1) (.cons (.prim .neg (.cons (.var 2) .nil)) (.cons (.var 3) .nil)))))) .nil)))) .nil))
def c44 : CSs := (.cons (.ret (.prim .all (.cons (.comp (.call 2 (.cons (.var 1) .nil)) (.name 1) .seq (.cons (.var 0) .nil) (.con (.bl true)) [1]) .nil))) .nil)
def c46 : CSs := (.cons (.ret (.prim .all (.cons (.comp (.prim .ne (.cons (.var 1) (.cons (.prim .neg (.cons (.var 2) .nil)) .nil))) (.tup (.cons (.name 1) (.cons (.name 2) .nil))) .zip (.cons (.var 0) (.cons (.prim .slFrom (.cons (.var 0) (.cons (.prim .chk (.cons (.con (.int (1))) .nil)) .nil))) .nil)) (.con (.bl true)) [1, 2]) .nil))) .nil)
def c48 : CSs := cellsC
def c49 : CSs := (.cons (.ret (.ite (.prim (.isTy [.lst, .tup]) (.cons (.var 0) .nil)) (.comp (.call 37 (.cons (.var 1) .nil)) (.name 1) .seq (.cons (.var 0) .nil) (.con (.bl true)) [1]) (.var 0))) .nil)
def c50 : CSs := (.cons (.cond (.prim (.isTy [.lst, .tup]) (.cons (.var 1) .nil)) (.cons (.cond (.or (.prim .ne (.cons (.prim (.isTy [.lst]) (.cons (.var 0) .nil)) (.cons (.prim (.isTy [.lst]) (.cons (.var 1) .nil)) .nil))) (.prim .ne (.cons (.prim (.isTy [.tup]) (.cons (.var 0) .nil)) (.cons (.prim (.isTy [.tup]) (.cons (.var 1) .nil)) .nil)))) (.cons (.ret (.con (.bl false))) .nil) .nil) (.cons (.ret (.and (.prim .eq (.cons (.prim .len (.cons (.var 0) .nil)) (.cons (.prim .len (.cons (.var 1) .nil)) .nil))) (.prim .all (.cons (.comp (.call 38 (.cons (.var 2) (.cons (.var 3) .nil))) (.tup (.cons (.name 2) (.cons (.name 3) .nil))) .zip (.cons (.var 0) (.cons (.var 1) .nil)) (.con (.bl true)) [2, 3]) .nil)))) .nil)) .nil) (.cons (.cond (.or (.prim .isN (.cons (.var 1) (.cons (.con .non) .nil))) (.prim (.isTy [.bl, .str]) (.cons (.var 1) .nil))) (.cons (.ret (.and (.prim .eq (.cons (.var 0) (.cons (.var 1) .nil))) (.and (.prim .eq (.cons (.prim (.isTy [.bl]) (.cons (.var 0) .nil)) (.cons (.prim (.isTy [.bl]) (.cons (.var 1) .nil)) .nil))) (.prim .eq (.cons (.prim .isN (.cons (.var 0) (.cons (.con .non) .nil))) (.cons (.prim .isN (.cons (.var 1) (.cons (.con .non) .nil))) .nil)))))) .nil) .nil) (.cons (.ret (.and (.prim (.isTy [.int]) (.cons (.var 0) .nil)) (.and (.not (.prim (.isTy [.bl]) (.cons (.var 0) .nil))) (.prim .eq (.cons (.var 0) (.cons (.var 1) .nil)))))) .nil)))
def c51 : CSs := (.cons (.ret (.prim .tup (.cons (.prim .tup (.cons (.con (.int (0))) (.cons (.con (.int (0))) (.cons (.con (.int (0))) .nil)))) (.cons (.prim .tup (.cons (.con (.int (1))) (.cons (.con (.int (2))) (.cons (.con (.int (3))) (.cons (.prim .neg (.cons (.con (.int (2))) .nil)) (.cons (.prim .neg (.cons (.con (.int (1))) .nil)) (.cons (.prim .neg (.cons (.con (.int (3))) .nil)) .nil))))))) .nil)))) .nil)
def c52 : CSs := (.cons (.ret (.prim .tup (.cons (.prim .tup (.cons (.con (.int (0))) (.cons (.con (.int (0))) (.cons (.con (.int (0))) .nil)))) (.cons (.prim .tup (.cons (.con (.int (1))) (.cons (.con (.int (2))) (.cons (.con (.int (1))) (.cons (.con (.int (3))) (.cons (.prim .neg (.cons (.con (.int (1))) .nil)) (.cons (.prim .neg (.cons (.con (.int (1))) .nil)) (.cons (.prim .neg (.cons (.con (.int (2))) .nil)) (.cons (.prim .neg (.cons (.con (.int (3))) .nil)) .nil))))))))) .nil)))) .nil)
def c53 : CSs := (.cons (.set (.name 0) (.prim .lst (.cons (.prim .tup (.cons (.con (.int (1))) (.cons (.con (.int (1))) (.cons (.con (.int (1))) .nil)))) (.cons (.prim .tup (.cons (.con (.int (1))) (.cons (.con (.int (1))) (.cons (.prim .neg (.cons (.con (.int (1))) .nil)) .nil)))) (.cons (.prim .tup (.cons (.con (.int (1))) (.cons (.prim .neg (.cons (.con (.int (1))) .nil)) (.cons (.con (.int (1))) .nil)))) (.cons (.prim .tup (.cons (.prim .neg (.cons (.con (.int (1))) .nil)) (.cons (.con (.int (1))) (.cons (.con (.int (1))) .nil)))) .nil)))))) (.cons (.ret (.prim .add (.cons (.var 0) (.cons (.comp (.prim .tupleOf (.cons (.comp (.prim .neg (.cons (.var 2) .nil)) (.name 2) .seq (.cons (.var 1) .nil) (.con (.bl true)) [2]) .nil)) (.name 1) .seq (.cons (.var 0) .nil) (.con (.bl true)) [1]) .nil)))) .nil))
def c54 : CSs := (.cons (.cond (.prim .lt (.cons (.var 0) (.cons (.con (.int (2))) .nil))) (.cons (.ret (.callv [12, 20, 21, 22, 23, 24, 27, 28, 45, 46, 47] (.prim .ix (.cons (.prim .lst (.cons (.con (.fn 21)) (.cons (.con (.fn 27)) .nil))) (.cons (.var 0) .nil))) (.cons (.var 1) .nil))) .nil) .nil) (.cons (.cond (.prim .lt (.cons (.var 0) (.cons (.con (.int (4))) .nil))) (.cons (.ret (.callv [12, 20, 21, 22, 23, 24, 27, 28, 45, 46, 47] (.prim .ix (.cons (.prim .lst (.cons (.con (.fn 20)) (.cons (.con (.fn 22)) .nil))) (.cons (.prim .sub (.cons (.prim .toInt (.cons (.var 0) .nil)) (.cons (.con (.int (2))) .nil))) .nil))) (.cons (.var 1) (.cons (.prim .tup (.cons (.con (.int (1))) (.cons (.con (.int (1))) (.cons (.con (.int (1))) .nil)))) .nil)))) .nil) .nil) (.cons (.ret (.callv [12, 20, 21, 22, 23, 24, 27, 28, 45, 46, 47] (.prim .ix (.cons (.prim .lst (.cons (.con (.fn 23)) (.cons (.con (.fn 28)) (.cons (.con (.fn 24)) .nil)))) (.cons (.prim .sub (.cons (.prim .toInt (.cons (.var 0) .nil)) (.cons (.con (.int (4))) .nil))) .nil))) (.cons (.var 1) (.cons (.prim .tup (.cons (.con (.int (1))) (.cons (.con (.int (1))) (.cons (.con (.int (1))) .nil)))) (.cons (.con (.int (1))) .nil))))) .nil)))
def c55 : CSs := (.cons (.set (.name 2) (.con (.str "none"))) (.cons (.tryx (.cons (.set (.name 2) (.call 42 (.cons (.var 0) (.cons (.var 1) .nil)))) .nil) (.cons [0] (some 3) [] (.cons (.set (.name 2) (.prim .lst (.cons (.con (.str "unfit")) (.cons (.prim .isExc (.cons (.var 3) .nil)) .nil)))) .nil) .nil)) (.cons (.ret (.var 2)) .nil)))
def c56 : CSs := (.cons (.set (.name 0) (.comp (.call 43 (.cons (.var 2) (.cons (.call 40 .nil) .nil))) (.name 2) .rng1 (.cons (.con (.int (7))) .nil) (.con (.bl true)) [2])) (.cons (.set (.name 1) (.prim .lst (.cons (.prim .tup (.cons (.prim .neg (.cons (.con (.int (1))) .nil)) (.cons (.con (.int (0))) (.cons (.con (.int (0))) (.cons (.con (.int (0))) .nil))))) (.cons (.prim .neg (.cons (.con (.int (1))) .nil)) (.cons (.prim .neg (.cons (.con (.int (1))) .nil)) (.cons (.prim .neg (.cons (.con (.int (3))) .nil)) (.cons (.prim .tup (.cons (.con (.int (1))) (.cons (.con (.int (2))) (.cons (.con (.int (2))) (.cons (.con (.int (2))) .nil))))) (.cons (.con (.int (7))) (.cons (.prim .neg (.cons (.con (.int (1))) .nil)) .nil))))))))) (.cons (.set (.name 0) (.prim .add (.cons (.var 0) (.cons (.prim .lst (.cons (.comp (.call 43 (.cons (.var 2) (.cons (.call 39 .nil) .nil))) (.name 2) .rng1 (.cons (.con (.int (7))) .nil) (.con (.bl true)) [2]) .nil)) .nil)))) (.cons (.push (.var 1) (.prim .lst (.cons (.prim .tup (.cons (.con (.int (1))) (.cons (.prim .neg (.cons (.con (.int (1))) .nil)) (.cons (.con (.int (0))) (.cons (.con (.int (0))) .nil))))) (.cons (.con (.int (0))) (.cons (.con (.int (1))) (.cons (.con (.int (4))) (.cons (.prim .tup (.cons (.con (.int (1))) (.cons (.prim .neg (.cons (.con (.int (1))) .nil)) (.cons (.con (.int (0))) (.cons (.con (.int (0))) .nil))))) (.cons (.con (.int (0))) (.cons (.con (.int (1))) .nil))))))))) (.cons (.ret (.call 38 (.cons (.prim .add (.cons (.var 0) (.cons (.prim .lst (.cons (.call 29 (.cons (.con (.int (3))) (.cons (.con (.int (1))) (.cons (.con (.int (2))) (.cons (.con (.int (3))) .nil))))) (.cons (.call 30 (.cons (.con (.int (2))) (.cons (.con (.int (1))) (.cons (.con (.int (3))) (.cons (.con (.int (2))) .nil))))) .nil))) .nil))) (.cons (.prim .add (.cons (.var 1) (.cons (.prim .lst (.cons (.prim .neg (.cons (.con (.int (2))) .nil)) (.cons (.con (.int (2))) .nil))) .nil))) .nil)))) .nil)))))
def c57 : CSs := (.cons (.set (.name 0) (.prim .lst (.cons (.prim .tup (.cons (.prim .tup (.cons (.con (.int (0))) (.cons (.con (.int (0))) (.cons (.con (.int (0))) .nil)))) (.cons (.prim .tup (.cons (.con (.int (1))) (.cons (.con (.int (2))) (.cons (.prim .neg (.cons (.con (.int (1))) .nil)) .nil)))) .nil))) (.cons (.prim .tup (.cons (.prim .tup (.cons (.con (.int (0))) (.cons (.con (.int (0))) (.cons (.con (.int (0))) .nil)))) (.cons (.prim .tup (.cons (.con (.int (1))) (.cons (.con (.int (2))) (.cons (.prim .neg (.cons (.con (.int (1))) .nil)) (.cons (.prim .neg (.cons (.con (.int (2))) .nil)) (.cons (.con (.int (1))) (.cons (.con (.int (2))) (.cons (.prim .neg (.cons (.con (.int (1))) .nil)) (.cons (.prim .neg (.cons (.con (.int (2))) .nil)) .nil))))))))) .nil))) (.cons (.prim .tup (.cons (.prim .tup (.cons (.con (.int (0))) (.cons (.con (.int (0))) (.cons (.con (.int (0))) .nil)))) (.cons (.prim .tup (.cons (.con (.int (1))) (.cons (.prim .neg (.cons (.con (.int (1))) .nil)) .nil))) .nil))) (.cons (.prim .tup (.cons (.prim .tup (.cons (.con (.int (0))) (.cons (.con (.int (0))) (.cons (.con (.int (0))) .nil)))) (.cons (.prim .tup (.cons (.con (.int (1))) (.cons (.con (.int (2))) (.cons (.prim .neg (.cons (.con (.int (1))) .nil)) (.cons (.prim .neg (.cons (.con (.int (4))) .nil)) .nil))))) .nil))) .nil)))))) (.cons (.set (.name 0) (.prim .add (.cons (.var 0) (.cons (.prim .lst (.cons (.prim .tup (.cons (.prim .tup (.cons (.con (.int (0))) (.cons (.con (.int (0))) .nil))) (.cons (.prim .tup (.cons (.con (.int (1))) (.cons (.con (.int (2))) (.cons (.prim .neg (.cons (.con (.int (1))) .nil)) (.cons (.prim .neg (.cons (.con (.int (2))) .nil)) .nil))))) .nil))) (.cons (.prim .tup (.cons (.prim .tup (.cons (.con (.int (0))) (.cons (.con (.int (0))) (.cons (.con (.int (0))) .nil)))) .nil)) (.cons (.prim .tup (.cons (.prim .tup (.cons (.con (.int (0))) (.cons (.con (.int (0))) (.cons (.con (.int (0))) .nil)))) (.cons (.prim .tup .nil) .nil))) (.cons (.prim .tup (.cons (.prim .tup (.cons (.con (.int (0))) (.cons (.con (.int (0))) (.cons (.con (.bl true)) .nil)))) (.cons (.prim .tup (.cons (.con (.int (1))) (.cons (.con (.int (2))) (.cons (.prim .neg (.cons (.con (.int (1))) .nil)) (.cons (.prim .neg (.cons (.con (.int (2))) .nil)) .nil))))) .nil))) (.cons (.prim .tup (.cons (.prim .tup (.cons (.con (.int (0))) (.cons (.con (.int (0))) (.cons (.con (.int (0))) .nil)))) (.cons (.prim .tup (.cons (.con (.int (1))) (.cons (.con (.int (2))) (.cons (.con (.int (0))) (.cons (.prim .neg (.cons (.con (.int (1))) .nil)) (.cons (.prim .neg (.cons (.con (.int (2))) .nil)) .nil)))))) .nil))) (.cons (.con (.int (7))) .nil))))))) .nil)))) (.cons (.each (.name 1) .rng1 (.cons (.con (.int (7))) .nil) (.cons (.cond (.not (.call 38 (.cons (.comp (.call 43 (.cons (.var 1) (.cons (.var 2) .nil))) (.name 2) .seq (.cons (.var 0) .nil) (.con (.bl true)) [2]) (.cons (.prim .mul (.cons (.prim .lst (.cons (.prim .lst (.cons (.con (.str "unfit")) (.cons (.con (.bl true)) .nil))) .nil)) (.cons (.prim .len (.cons (.var 0) .nil)) .nil))) .nil)))) (.cons (.ret (.con (.bl false))) .nil) .nil) .nil)) (.cons (.ret (.con (.bl true))) .nil))))
def c58 : CSs := (.cons (.set (.name 0) (.call 40 .nil)) (.cons (.set (.name 1) (.prim .tup (.cons (.prim .tup (.cons (.con (.int (0))) (.cons (.con (.int (0))) (.cons (.con (.int (0))) .nil)))) (.cons (.prim .tupleOf (.cons (.comp (.ite (.prim .eq (.cons (.prim .abs (.cons (.var 7) .nil)) (.cons (.con (.int (1))) .nil))) (.prim .neg (.cons (.var 7) .nil)) (.var 7)) (.name 7) .seq (.cons (.prim .ix (.cons (.var 0) (.cons (.con (.int (1))) .nil))) .nil) (.con (.bl true)) [7]) .nil)) .nil)))) (.cons (.set (.tup (.cons (.name 4) (.cons (.name 5) .nil))) (.prim .tup (.cons (.prim .tup (.cons (.prim .tup (.cons (.con (.int (0))) (.cons (.con (.int (0))) (.cons (.con (.int (0))) .nil)))) (.cons (.prim .tupleOf (.cons (.comp (.prim .neg (.cons (.var 7) .nil)) (.name 7) .seq (.cons (.prim .rev (.cons (.prim .ix (.cons (.var 0) (.cons (.con (.int (1))) .nil))) .nil)) .nil) (.con (.bl true)) [7]) .nil)) .nil))) (.cons (.prim .tup (.cons (.prim .tup (.cons (.con (.int (1))) (.cons (.con (.int (0))) (.cons (.con (.int (0))) .nil)))) (.cons (.prim .add (.cons (.prim .slFrom (.cons (.prim .ix (.cons (.var 0) (.cons (.con (.int (1))) .nil))) (.cons (.prim .chk (.cons (.con (.int (1))) .nil)) .nil))) (.cons (.prim .slTo (.cons (.prim .ix (.cons (.var 0) (.cons (.con (.int (1))) .nil))) (.cons (.prim .chk (.cons (.con (.int (1))) .nil)) .nil))) .nil))) .nil))) .nil)))) (.cons (.set (.name 2) (.prim .lst (.cons (.call 21 (.cons (.var 1) .nil)) (.cons (.call 27 (.cons (.var 1) .nil)) (.cons (.comp (.call 20 (.cons (.var 1) (.cons (.var 6) .nil))) (.name 6) .seq (.cons (.call 41 .nil) .nil) (.con (.bl true)) [6]) .nil))))) (.cons (.set (.name 3) (.prim .lst (.cons (.prim .tup (.cons (.con (.int (0))) (.cons (.con (.int (0))) (.cons (.con (.int (0))) (.cons (.con (.int (1))) .nil))))) (.cons (.con (.int (1))) (.cons (.prim .mul (.cons (.prim .lst (.cons (.con (.int (0))) (.cons (.con (.int (0))) (.cons (.con (.int (0))) (.cons (.con (.int (1))) .nil))))) (.cons (.con (.int (2))) .nil))) .nil))))) (.cons (.set (.name 2) (.prim .add (.cons (.var 2) (.cons (.prim .lst (.cons (.call 21 (.cons (.var 4) .nil)) (.cons (.call 27 (.cons (.var 4) .nil)) (.cons (.call 21 (.cons (.var 5) .nil)) (.cons (.call 21 (.cons (.prim .tup (.cons (.prim .tup (.cons (.con (.int (9))) (.cons (.prim .neg (.cons (.con (.int (4))) .nil)) (.cons (.con (.int (7))) .nil)))) (.cons (.prim .ix (.cons (.var 0) (.cons (.con (.int (1))) .nil))) .nil))) .nil)) (.cons (.call 27 (.cons (.var 5) .nil)) (.cons (.call 22 (.cons (.var 4) (.cons (.prim .tup (.cons (.con (.int (1))) (.cons (.con (.int (1))) (.cons (.con (.int (1))) .nil)))) .nil))) .nil))))))) .nil)))) (.cons (.set (.name 3) (.prim .add (.cons (.var 3) (.cons (.prim .lst (.cons (.prim .tup (.cons (.prim .neg (.cons (.con (.int (1))) .nil)) (.cons (.con (.int (0))) (.cons (.con (.int (0))) (.cons (.con (.int (0))) .nil))))) (.cons (.prim .neg (.cons (.con (.int (1))) .nil)) (.cons (.prim .tup (.cons (.prim .neg (.cons (.con (.int (1))) .nil)) (.cons (.con (.int (0))) (.cons (.con (.int (0))) (.cons (.con (.int (0))) .nil))))) (.cons (.prim .tup (.cons (.prim .neg (.cons (.con (.int (1))) .nil)) (.cons (.con (.int (0))) (.cons (.con (.int (0))) (.cons (.con (.int (0))) .nil))))) (.cons (.prim .neg (.cons (.con (.int (1))) .nil)) (.cons (.prim .neg (.cons (.con (.int (3))) .nil)) .nil))))))) .nil)))) (.cons (.set (.name 2) (.prim .add (.cons (.var 2) (.cons (.prim .lst (.cons (.call 24 (.cons (.var 1) (.cons (.prim .tup (.cons (.prim .neg (.cons (.con (.int (1))) .nil)) (.cons (.con (.int (1))) (.cons (.con (.int (1))) .nil)))) (.cons (.con (.int (1))) .nil)))) (.cons (.call 22 (.cons (.var 1) (.cons (.prim .tup (.cons (.prim .neg (.cons (.con (.int (1))) .nil)) (.cons (.con (.int (1))) (.cons (.con (.int (1))) .nil)))) .nil))) (.cons (.call 22 (.cons (.var 1) (.cons (.prim .tup (.cons (.con (.int (1))) (.cons (.con (.int (1))) (.cons (.con (.int (1))) .nil)))) .nil))) .nil)))) .nil)))) (.cons (.ret (.call 38 (.cons (.var 2) (.cons (.prim .add (.cons (.var 3) (.cons (.prim .lst (.cons (.con (.int (1))) (.cons (.con (.int (3))) (.cons (.prim .neg (.cons (.con (.int (1))) .nil)) .nil)))) .nil))) .nil)))) .nil)))))))))
def c59 : CSs := (.cons (.set (.name 0) (.call 37 (.cons (.call 40 .nil) .nil))) (.cons (.set (.name 1) (.prim .lst (.cons (.callp 21 [0] (.cons (.var 0) .nil)) (.cons (.callp 27 [0] (.cons (.var 0) .nil)) (.cons (.callp 20 [1, 0] (.cons (.prim .lst (.cons (.con (.int (1))) (.cons (.con (.int (1))) (.cons (.prim .neg (.cons (.con (.int (1))) .nil)) .nil)))) (.cons (.var 0) .nil))) (.cons (.callp 22 [1, 0] (.cons (.prim .lst (.cons (.con (.int (1))) (.cons (.con (.int (1))) (.cons (.con (.int (1))) .nil)))) (.cons (.var 0) .nil))) .nil)))))) (.cons (.set (.name 1) (.prim .add (.cons (.var 1) (.cons (.prim .lst (.cons (.callp 23 [2, 1, 0] (.cons (.con (.int (2))) (.cons (.prim .lst (.cons (.con (.int (1))) (.cons (.con (.int (1))) (.cons (.con (.int (1))) .nil)))) (.cons (.var 0) .nil)))) (.cons (.callp 28 [2, 1, 0] (.cons (.con (.int (2))) (.cons (.prim .lst (.cons (.con (.int (1))) (.cons (.con (.int (1))) (.cons (.con (.int (1))) .nil)))) (.cons (.var 0) .nil)))) (.cons (.callp 24 [2, 1, 0] (.cons (.con (.int (2))) (.cons (.prim .lst (.cons (.con (.int (1))) (.cons (.con (.int (1))) (.cons (.con (.int (1))) .nil)))) (.cons (.var 0) .nil)))) .nil)))) .nil)))) (.cons (.set (.name 1) (.prim .add (.cons (.var 1) (.cons (.prim .lst (.cons (.callp 29 [3, 2, 1, 0] (.cons (.con (.int (1))) (.cons (.con (.int (2))) (.cons (.con (.int (1))) (.cons (.con (.int (3))) .nil))))) (.cons (.callp 30 [3, 2, 1, 0] (.cons (.con (.int (1))) (.cons (.con (.int (3))) (.cons (.con (.int (1))) (.cons (.con (.int (2))) .nil))))) (.cons (.prim .len (.cons (.callp 31 [0] (.cons (.prim .neg (.cons (.con (.int (2))) .nil)) .nil)) .nil)) (.cons (.call 31 (.cons (.con (.int (3))) .nil)) (.cons (.prim .eq (.cons (.var 0) (.cons (.call 37 (.cons (.call 40 .nil) .nil)) .nil))) .nil)))))) .nil)))) (.cons (.ret (.call 38 (.cons (.var 1) (.cons (.prim .lst (.cons (.prim .tup (.cons (.prim .neg (.cons (.con (.int (1))) .nil)) (.cons (.con (.int (0))) (.cons (.con (.int (0))) (.cons (.con (.int (0))) .nil))))) (.cons (.prim .neg (.cons (.con (.int (1))) .nil)) (.cons (.con (.int (0))) (.cons (.prim .neg (.cons (.con (.int (3))) .nil)) (.cons (.prim .tup (.cons (.con (.int (2))) (.cons (.con (.int (3))) (.cons (.con (.int (3))) (.cons (.con (.int (3))) .nil))))) (.cons (.con (.int (11))) (.cons (.prim .neg (.cons (.con (.int (1))) .nil)) (.cons (.prim .neg (.cons (.con (.int (1))) .nil)) (.cons (.con (.int (1))) (.cons (.con (.int (24))) (.cons (.prim .lst .nil) (.cons (.con (.bl true)) .nil))))))))))))) .nil)))) .nil)))))
def c60 : CSs := (.cons (.cond (.not (.call 44 .nil)) (.cons (.ret (.con (.bl false))) .nil) .nil) (.cons (.ret (.callv [12, 20, 21, 22, 23, 24, 27, 28, 45, 46, 47] (.prim .ix (.cons (.prim .lst (.cons (.con (.fn 45)) (.cons (.con (.fn 46)) (.cons (.con (.fn 47)) .nil)))) (.cons (.prim .mod (.cons (.prim .toInt (.cons (.prim .ix (.cons (.call 36 (.cons (.var 0) (.cons (.con (.int (1))) .nil))) (.cons (.con (.int (0))) .nil))) .nil)) (.cons (.con (.int (3))) .nil))) .nil))) .nil)) .nil))
def d0 : He.DefD := ⟨("is_number", none), "is_number", "is_number", defArgs (top 5), defBody (top 5), defScope (top 5), [], []⟩
def e0 : DI := ⟨d0, N5, ps5, c5⟩
def d1 : He.DefD := ⟨("is_point", none), "is_point", "is_point", defArgs (top 6), defBody (top 6), defScope (top 6), [], []⟩
def e1 : DI := ⟨d1, N6, ps6, c6⟩
def d2 : He.DefD := ⟨("is_stroke", none), "is_stroke", "is_stroke", defArgs (top 7), defBody (top 7), defScope (top 7), [], []⟩
def e2 : DI := ⟨d2, N7, ps7, c7⟩
def d3 : He.DefD := ⟨("way", none), "way", "way", defArgs (top 8), defBody (top 8), defScope (top 8), [], []⟩
def e3 : DI := ⟨d3, N8, ps8, c8⟩
def d4 : He.DefD := ⟨("are_unlike", none), "are_unlike", "are_unlike", defArgs (top 9), defBody (top 9), defScope (top 9), [], []⟩
def e4 : DI := ⟨d4, N9, ps9, c9⟩
def d5 : He.DefD := ⟨("determinant", none), "determinant", "determinant", defArgs (top 10), defBody (top 10), defScope (top 10), [], []⟩
def e5 : DI := ⟨d5, N10, ps10, c10⟩
def d6 : He.DefD := ⟨("upright_to", none), "upright_to", "upright_to", defArgs (top 11), defBody (top 11), defScope (top 11), [], []⟩
def e6 : DI := ⟨d6, N11, ps11, c11⟩
def d7 : He.DefD := ⟨("stepped", none), "stepped", "stepped", defArgs (top 12), defBody (top 12), defScope (top 12), [], []⟩
def e7 : DI := ⟨d7, N12, ps12, c12⟩
def d8 : He.DefD := ⟨("walked", none), "walked", "walked", defArgs (top 13), defBody (top 13), defScope (top 13), [], []⟩
def e8 : DI := ⟨d8, N13, ps13, c13⟩
def d9 : He.DefD := ⟨("spans", none), "spans", "spans", defArgs (top 14), defBody (top 14), defScope (top 14), [], []⟩
def e9 : DI := ⟨d9, N14, ps14, c14⟩
def d10 : He.DefD := ⟨("bent_places", none), "bent_places", "bent_places", defArgs (top 15), defBody (top 15), defScope (top 15), [], []⟩
def e10 : DI := ⟨d10, N15, ps15, c15⟩
def d11 : He.DefD := ⟨("is_cord", none), "is_cord", "is_cord", defArgs (top 17), defBody (top 17), defScope (top 17), [], []⟩
def e11 : DI := ⟨d11, N17, ps17, c17⟩
def d12 : He.DefD := ⟨("_are_strokes", none), "_are_strokes", "_are_strokes", defArgs (top 44), defBody (top 44), defScope (top 44), [], []⟩
def e12 : DI := ⟨d12, N44, ps44, c44⟩
def d13 : He.DefD := ⟨("are_strokes_cords", none), "_are_strokes", "_are_strokes", defArgs (top 18), defBody (top 18), defScope (top 18), [], []⟩
def e13 : DI := ⟨d13, N18, ps18, c18⟩
def d14 : He.DefD := ⟨("_closes", none), "_closes", "_closes", defArgs (top 20), defBody (top 20), defScope (top 20), [], []⟩
def e14 : DI := ⟨d14, N20, ps20, c20⟩
def d15 : He.DefD := ⟨("told_cord", none), "told_cord", "told_cord", defArgs (top 21), defBody (top 21), defScope (top 21), [], []⟩
def e15 : DI := ⟨d15, N21, ps21, c21⟩
def d16 : He.DefD := ⟨("pushed_link", none), "pushed_link", "pushed_link", defArgs (top 23), defBody (top 23), defScope (top 23), [], []⟩
def e16 : DI := ⟨d16, N23, ps23, c23⟩
def d17 : He.DefD := ⟨("_flat_strokes", none), "_flat_strokes", "_flat_strokes", defArgs (top 24), defBody (top 24), defScope (top 24), [], []⟩
def e17 : DI := ⟨d17, N24, ps24, c24⟩
def d18 : He.DefD := ⟨("_shadows", none), "_shadows", "_shadows", defArgs (top 25), defBody (top 25), defScope (top 25), [], []⟩
def e18 : DI := ⟨d18, N25, ps25, c25⟩
def d19 : He.DefD := ⟨("_crossed", none), "_crossed", "_crossed", defArgs (top 26), defBody (top 26), defScope (top 26), [], []⟩
def e19 : DI := ⟨d19, N26, ps26, c26⟩
def d20 : He.DefD := ⟨("self_link", none), "self_link", "self_link", defArgs (top 29), defBody (top 29), defScope (top 29), [], []⟩
def e20 : DI := ⟨d20, N29, ps29, c29⟩
def d21 : He.DefD := ⟨("four", none), "four", "four", defArgs (top 30), defBody (top 30), defScope (top 30), [], []⟩
def e21 : DI := ⟨d21, N30, ps30, c30⟩
def d22 : He.DefD := ⟨("corner_sum", none), "corner_sum", "corner_sum", defArgs (top 31), defBody (top 31), defScope (top 31), [], []⟩
def e22 : DI := ⟨d22, N31, ps31, c31⟩
def d23 : He.DefD := ⟨("four_by", none), "four_by", "four_by", defArgs (top 32), defBody (top 32), defScope (top 32), [], []⟩
def e23 : DI := ⟨d23, N32, ps32, c32⟩
def d24 : He.DefD := ⟨("octant_change", none), "octant_change", "octant_change", defArgs (top 33), defBody (top 33), defScope (top 33), [], []⟩
def e24 : DI := ⟨d24, N33, ps33, c33⟩
def d25 : He.DefD := ⟨("_corner_strokes", none), "_corner_strokes", "_corner_strokes", defArgs (top 34), defBody (top 34), defScope (top 34), [], []⟩
def e25 : DI := ⟨d25, N34, ps34, c34⟩
def d26 : He.DefD := ⟨("_sign_along", none), "_sign_along", "_sign_along", defArgs (top 35), defBody (top 35), defScope (top 35), [], []⟩
def e26 : DI := ⟨d26, N35, ps35, c35⟩
def d27 : He.DefD := ⟨("quarters", none), "quarters", "quarters", defArgs (top 37), defBody (top 37), defScope (top 37), [], []⟩
def e27 : DI := ⟨d27, N37, ps37, c37⟩
def d28 : He.DefD := ⟨("quarters_by", none), "quarters_by", "quarters_by", defArgs (top 38), defBody (top 38), defScope (top 38), [], []⟩
def e28 : DI := ⟨d28, N38, ps38, c38⟩
def d29 : He.DefD := ⟨("bend_change", none), "bend_change", "bend_change", defArgs (top 39), defBody (top 39), defScope (top 39), [], []⟩
def e29 : DI := ⟨d29, N39, ps39, c39⟩
def d30 : He.DefD := ⟨("out_change", none), "out_change", "out_change", defArgs (top 40), defBody (top 40), defScope (top 40), [], []⟩
def e30 : DI := ⟨d30, N40, ps40, c40⟩
def d31 : He.DefD := ⟨("changed_rows", none), "changed_rows", "changed_rows", defArgs (top 41), defBody (top 41), defScope (top 41), [], []⟩
def e31 : DI := ⟨d31, N41, ps41, c41⟩
def d32 : He.DefD := ⟨("_is_fit_bend", none), "_is_fit_bend", "_is_fit_bend", defArgs (top 42), defBody (top 42), defScope (top 42), [], []⟩
def e32 : DI := ⟨d32, N42, ps42, c42⟩
def d33 : He.DefD := ⟨("_is_fit_bump", none), "_is_fit_bump", "_is_fit_bump", defArgs (top 43), defBody (top 43), defScope (top 43), [], []⟩
def e33 : DI := ⟨d33, N43, ps43, c43⟩
def d34 : He.DefD := ⟨("are_strokes_quarters", none), "_are_strokes", "_are_strokes", defArgs (top 44), defBody (top 44), defScope (top 44), [], []⟩
def e34 : DI := ⟨d34, N44, ps44, c44⟩
def d35 : He.DefD := ⟨("_runs_on", none), "_runs_on", "_runs_on", defArgs (top 46), defBody (top 46), defScope (top 46), [], []⟩
def e35 : DI := ⟨d35, N46, ps46, c46⟩
def d36 : He.DefD := ⟨("_law_cells", none), "_law_cells", "_law_cells", defArgs (top 48), defBody (top 48), defScope (top 48), [], []⟩
def e36 : DI := ⟨d36, N48, ps48, c48⟩
def d37 : He.DefD := ⟨("_law_lists", none), "_law_lists", "_law_lists", defArgs (top 49), defBody (top 49), defScope (top 49), [], []⟩
def e37 : DI := ⟨d37, N49, ps49, c49⟩
def d38 : He.DefD := ⟨("_law_same", none), "_law_same", "_law_same", defArgs (top 50), defBody (top 50), defScope (top 50), [], []⟩
def e38 : DI := ⟨d38, N50, ps50, c50⟩
def d39 : He.DefD := ⟨("_law_skew", none), "_law_skew", "_law_skew", defArgs (top 51), defBody (top 51), defScope (top 51), [], []⟩
def e39 : DI := ⟨d39, N51, ps51, c51⟩
def d40 : He.DefD := ⟨("_law_coil", none), "_law_coil", "_law_coil", defArgs (top 52), defBody (top 52), defScope (top 52), [], []⟩
def e40 : DI := ⟨d40, N52, ps52, c52⟩
def d41 : He.DefD := ⟨("_law_eyes", none), "_law_eyes", "_law_eyes", defArgs (top 53), defBody (top 53), defScope (top 53), [], []⟩
def e41 : DI := ⟨d41, N53, ps53, c53⟩
def d42 : He.DefD := ⟨("_law_asked", none), "_law_asked", "_law_asked", defArgs (top 54), defBody (top 54), defScope (top 54), [], []⟩
def e42 : DI := ⟨d42, N54, ps54, c54⟩
def d43 : He.DefD := ⟨("_law_reply", none), "_law_reply", "_law_reply", defArgs (top 55), defBody (top 55), defScope (top 55), [], []⟩
def e43 : DI := ⟨d43, N55, ps55, c55⟩
def d44 : He.DefD := ⟨("_law_front_right", none), "_law_front_right", "_law_front_right", defArgs (top 56), defBody (top 56), defScope (top 56), [], []⟩
def e44 : DI := ⟨d44, N56, ps56, c56⟩
def d45 : He.DefD := ⟨("_law_refused_right", none), "_law_refused_right", "_law_refused_right", defArgs (top 57), defBody (top 57), defScope (top 57), [], []⟩
def e45 : DI := ⟨d45, N57, ps57, c57⟩
def d46 : He.DefD := ⟨("_law_mirrored_right", none), "_law_mirrored_right", "_law_mirrored_right", defArgs (top 58), defBody (top 58), defScope (top 58), [], []⟩
def e46 : DI := ⟨d46, N58, ps58, c58⟩
def d47 : He.DefD := ⟨("_law_soft_right", none), "_law_soft_right", "_law_soft_right", defArgs (top 59), defBody (top 59), defScope (top 59), [], []⟩
def e47 : DI := ⟨d47, N59, ps59, c59⟩
def d48 : He.DefD := ⟨("law", none), "law", "law", defArgs (top 60), defBody (top 60), defScope (top 60), [], []⟩
def e48 : DI := ⟨d48, N60, ps60, c60⟩
def L0 : List DI := [e0, e1, e2, e3, e4, e5, e6, e7, e8, e9, e10, e11, e12, e13, e14, e15, e16, e17, e18, e19]
def L20 : List DI := [e20, e21, e22, e23, e24, e25, e26, e27, e28, e29, e30, e31, e32, e33, e34, e35, e36, e37, e38, e39]
def L40 : List DI := [e40, e41, e42, e43, e44, e45, e46, e47, e48]
def L : List DI := L0 ++ L20 ++ L40
def tf0 : List Fn := [⟨1, 1, c5⟩, ⟨2, 1, c6⟩, ⟨1, 1, c7⟩, ⟨1, 1, c8⟩, ⟨2, 2, c9⟩, ⟨7, 3, c10⟩, ⟨3, 2, c11⟩, ⟨8, 2, c12⟩, ⟨4, 2, c13⟩, ⟨7, 1, c14⟩, ⟨2, 1, c15⟩, ⟨3, 1, c17⟩, ⟨2, 1, c44⟩, ⟨2, 1, c18⟩, ⟨3, 2, c20⟩, ⟨4, 1, c21⟩, ⟨10, 3, c23⟩, ⟨3, 1, c24⟩, ⟨4, 1, c25⟩, ⟨3, 3, c26⟩]
def tf20 : List Fn := [⟨3, 2, c29⟩, ⟨3, 1, c30⟩, ⟨6, 2, c31⟩, ⟨5, 3, c32⟩, ⟨8, 3, c33⟩, ⟨3, 1, c34⟩, ⟨2, 2, c35⟩, ⟨1, 1, c37⟩, ⟨3, 3, c38⟩, ⟨4, 4, c39⟩, ⟨4, 4, c40⟩, ⟨6, 1, c41⟩, ⟨6, 4, c42⟩, ⟨4, 4, c43⟩, ⟨2, 1, c44⟩, ⟨3, 1, c46⟩, ⟨6, 2, c48⟩, ⟨2, 1, c49⟩, ⟨4, 2, c50⟩, ⟨0, 0, c51⟩]
def tf40 : List Fn := [⟨0, 0, c52⟩, ⟨3, 0, c53⟩, ⟨2, 2, c54⟩, ⟨4, 2, c55⟩, ⟨3, 0, c56⟩, ⟨3, 0, c57⟩, ⟨8, 0, c58⟩, ⟨2, 0, c59⟩, ⟨1, 1, c60⟩]
def tf : List Fn := tf0 ++ tf20 ++ tf40
theorem tf_eq : tfOf L = tf := by kernel_rfl
def clsBody : Stmt → List Stmt
  | .ClassDef _ _ _ b _ _ _ _ _ _ _ => b
  | _ => []
def ci0 : Stmt := (clsBody (top 1)).getD 0 (.Pass ⟨0, 0, 0, 0⟩)
def dc0 : He.DefD := ⟨("Unfit", some "__init__"), "__init__", "Unfit.__init__", defArgs ci0, defBody ci0, defScope ci0, [], []⟩
def CL : List CI := [⟨"Unfit", dc0⟩]
def bx : List (Str × String) := [("ValueError", "ValueError")]
def fa : List He.Fa := (L.map fun e => He.Fa.glo e.d.at_.1) ++ ((CL.map fun e => He.Fa.glo e.x) ++ tblt.map He.Fa.free)
def fn : List He.DefD := L.map (·.d) ++ CL.map (·.d)
theorem sc0 : FnScope N5 ps5 (defScope (top 5)) := ⟨rfl, rfl, rfl, by decide +kernel, rfl, by decide +kernel, by decide +kernel⟩
theorem ok0 : OkI tb e0 := ⟨rfl, rfl, rfl, sc0, by kernel_rfl, fun _ _ _ _ _ _ us hl => match us, hl with | [_], _ => rfl, ⟨[], by kernel_rfl, fun q hq => nomatch hq⟩⟩
theorem sc1 : FnScope N6 ps6 (defScope (top 6)) := ⟨rfl, rfl, rfl, by decide +kernel, rfl, by decide +kernel, by decide +kernel⟩
theorem ok1 : OkI tb e1 := ⟨rfl, rfl, rfl, sc1, by kernel_rfl, fun _ _ _ _ _ _ us hl => match us, hl with | [_], _ => rfl, ⟨[], by kernel_rfl, fun q hq => nomatch hq⟩⟩
theorem sc2 : FnScope N7 ps7 (defScope (top 7)) := ⟨rfl, rfl, rfl, by decide +kernel, rfl, by decide +kernel, by decide +kernel⟩
theorem ok2 : OkI tb e2 := ⟨rfl, rfl, rfl, sc2, by kernel_rfl, fun _ _ _ _ _ _ us hl => match us, hl with | [_], _ => rfl, ⟨[], by kernel_rfl, fun q hq => nomatch hq⟩⟩
theorem sc3 : FnScope N8 ps8 (defScope (top 8)) := ⟨rfl, rfl, rfl, by decide +kernel, rfl, by decide +kernel, by decide +kernel⟩
theorem ok3 : OkI tb e3 := ⟨rfl, rfl, rfl, sc3, by kernel_rfl, fun _ _ _ _ _ _ us hl => match us, hl with | [_], _ => rfl, ⟨[], by kernel_rfl, fun q hq => nomatch hq⟩⟩
theorem sc4 : FnScope N9 ps9 (defScope (top 9)) := ⟨rfl, rfl, rfl, by decide +kernel, rfl, by decide +kernel, by decide +kernel⟩
theorem ok4 : OkI tb e4 := ⟨rfl, rfl, rfl, sc4, by kernel_rfl, fun _ _ _ _ _ _ us hl => match us, hl with | [_, _], _ => rfl, ⟨[], by kernel_rfl, fun q hq => nomatch hq⟩⟩
theorem sc5 : FnScope N10 ps10 (defScope (top 10)) := ⟨rfl, rfl, rfl, by decide +kernel, rfl, by decide +kernel, by decide +kernel⟩
theorem ok5 : OkI tb e5 := ⟨rfl, rfl, rfl, sc5, by kernel_rfl, fun _ _ _ _ _ _ us hl => match us, hl with | [_, _, _], _ => rfl, ⟨[], by kernel_rfl, fun q hq => nomatch hq⟩⟩
theorem sc6 : FnScope N11 ps11 (defScope (top 11)) := ⟨rfl, rfl, rfl, by decide +kernel, rfl, by decide +kernel, by decide +kernel⟩
theorem ok6 : OkI tb e6 := ⟨rfl, rfl, rfl, sc6, by kernel_rfl, fun _ _ _ _ _ _ us hl => match us, hl with | [_, _], _ => rfl, ⟨[], by kernel_rfl, fun q hq => nomatch hq⟩⟩
theorem sc7 : FnScope N12 ps12 (defScope (top 12)) := ⟨rfl, rfl, rfl, by decide +kernel, rfl, by decide +kernel, by decide +kernel⟩
theorem ok7 : OkI tb e7 := ⟨rfl, rfl, rfl, sc7, by kernel_rfl, fun _ _ _ _ _ _ us hl => match us, hl with | [_, _], _ => rfl, ⟨[], by kernel_rfl, fun q hq => nomatch hq⟩⟩
theorem sc8 : FnScope N13 ps13 (defScope (top 13)) := ⟨rfl, rfl, rfl, by decide +kernel, rfl, by decide +kernel, by decide +kernel⟩
theorem ok8 : OkI tb e8 := ⟨rfl, rfl, rfl, sc8, by kernel_rfl, fun _ _ _ _ _ _ us hl => match us, hl with | [_, _], _ => rfl, ⟨[], by kernel_rfl, fun q hq => nomatch hq⟩⟩
theorem sc9 : FnScope N14 ps14 (defScope (top 14)) := ⟨rfl, rfl, rfl, by decide +kernel, rfl, by decide +kernel, by decide +kernel⟩
theorem ok9 : OkI tb e9 := ⟨rfl, rfl, rfl, sc9, by kernel_rfl, fun _ _ _ _ _ _ us hl => match us, hl with | [_], _ => rfl, ⟨[], by kernel_rfl, fun q hq => nomatch hq⟩⟩
theorem sc10 : FnScope N15 ps15 (defScope (top 15)) := ⟨rfl, rfl, rfl, by decide +kernel, rfl, by decide +kernel, by decide +kernel⟩
theorem ok10 : OkI tb e10 := ⟨rfl, rfl, rfl, sc10, by kernel_rfl, fun _ _ _ _ _ _ us hl => match us, hl with | [_], _ => rfl, ⟨[], by kernel_rfl, fun q hq => nomatch hq⟩⟩
theorem sc11 : FnScope N17 ps17 (defScope (top 17)) := ⟨rfl, rfl, rfl, by decide +kernel, rfl, by decide +kernel, by decide +kernel⟩
theorem ok11 : OkI tb e11 := ⟨rfl, rfl, rfl, sc11, by kernel_rfl, fun _ _ _ _ _ _ us hl => match us, hl with | [_], _ => rfl, ⟨[], by kernel_rfl, fun q hq => nomatch hq⟩⟩
theorem sc12 : FnScope N44 ps44 (defScope (top 44)) := ⟨rfl, rfl, rfl, by decide +kernel, rfl, by decide +kernel, by decide +kernel⟩
theorem ok12 : OkI tb e12 := ⟨rfl, rfl, rfl, sc12, by kernel_rfl, fun _ _ _ _ _ _ us hl => match us, hl with | [_], _ => rfl, ⟨[], by kernel_rfl, fun q hq => nomatch hq⟩⟩
theorem sc13 : FnScope N18 ps18 (defScope (top 18)) := ⟨rfl, rfl, rfl, by decide +kernel, rfl, by decide +kernel, by decide +kernel⟩
theorem ok13 : OkI tb e13 := ⟨rfl, rfl, rfl, sc13, by kernel_rfl, fun _ _ _ _ _ _ us hl => match us, hl with | [_], _ => rfl, ⟨[], by kernel_rfl, fun q hq => nomatch hq⟩⟩
theorem sc14 : FnScope N20 ps20 (defScope (top 20)) := ⟨rfl, rfl, rfl, by decide +kernel, rfl, by decide +kernel, by decide +kernel⟩
theorem ok14 : OkI tb e14 := ⟨rfl, rfl, rfl, sc14, by kernel_rfl, fun _ _ _ _ _ _ us hl => match us, hl with | [_, _], _ => rfl, ⟨[], by kernel_rfl, fun q hq => nomatch hq⟩⟩
theorem sc15 : FnScope N21 ps21 (defScope (top 21)) := ⟨rfl, rfl, rfl, by decide +kernel, rfl, by decide +kernel, by decide +kernel⟩
theorem ok15 : OkI tb e15 := ⟨rfl, rfl, rfl, sc15, by kernel_rfl, fun _ _ _ _ _ _ us hl => match us, hl with | [_], _ => rfl, ⟨[], by kernel_rfl, fun q hq => nomatch hq⟩⟩
theorem sc16 : FnScope N23 ps23 (defScope (top 23)) := ⟨rfl, rfl, rfl, by decide +kernel, rfl, by decide +kernel, by decide +kernel⟩
theorem ok16 : OkI tb e16 := ⟨rfl, rfl, rfl, sc16, by kernel_rfl, fun _ _ _ _ _ _ us hl => match us, hl with | [_, _, _], _ => rfl, ⟨[], by kernel_rfl, fun q hq => nomatch hq⟩⟩
theorem sc17 : FnScope N24 ps24 (defScope (top 24)) := ⟨rfl, rfl, rfl, by decide +kernel, rfl, by decide +kernel, by decide +kernel⟩
theorem ok17 : OkI tb e17 := ⟨rfl, rfl, rfl, sc17, by kernel_rfl, fun _ _ _ _ _ _ us hl => match us, hl with | [_], _ => rfl, ⟨[], by kernel_rfl, fun q hq => nomatch hq⟩⟩
theorem sc18 : FnScope N25 ps25 (defScope (top 25)) := ⟨rfl, rfl, rfl, by decide +kernel, rfl, by decide +kernel, by decide +kernel⟩
theorem ok18 : OkI tb e18 := ⟨rfl, rfl, rfl, sc18, by kernel_rfl, fun _ _ _ _ _ _ us hl => match us, hl with | [_], _ => rfl, ⟨[], by kernel_rfl, fun q hq => nomatch hq⟩⟩
theorem sc19 : FnScope N26 ps26 (defScope (top 26)) := ⟨rfl, rfl, rfl, by decide +kernel, rfl, by decide +kernel, by decide +kernel⟩
theorem ok19 : OkI tb e19 := ⟨rfl, rfl, rfl, sc19, by kernel_rfl, fun _ _ _ _ _ _ us hl => match us, hl with | [_, _, _], _ => rfl, ⟨[], by kernel_rfl, fun q hq => nomatch hq⟩⟩
theorem sc20 : FnScope N29 ps29 (defScope (top 29)) := ⟨rfl, rfl, rfl, by decide +kernel, rfl, by decide +kernel, by decide +kernel⟩
theorem ok20 : OkI tb e20 := ⟨rfl, rfl, rfl, sc20, by kernel_rfl, fun _ _ _ _ _ _ us hl => match us, hl with | [_, _], _ => rfl, ⟨[(["octant", "cord"], [1, 0])], by kernel_rfl, fun q hq kV doc pm an cdv ct ws hl => by
  simp only [List.mem_cons, List.mem_nil_iff, or_false] at hq
  rcases hq with rfl <;> (rcases ws with _ | ⟨a, _ | ⟨b, _ | ⟨z, r⟩⟩⟩ <;> first | rfl | (simp [permV, e20, ps29] at hl))⟩⟩
theorem sc21 : FnScope N30 ps30 (defScope (top 30)) := ⟨rfl, rfl, rfl, by decide +kernel, rfl, by decide +kernel, by decide +kernel⟩
theorem ok21 : OkI tb e21 := ⟨rfl, rfl, rfl, sc21, by kernel_rfl, fun _ _ _ _ _ _ us hl => match us, hl with | [_], _ => rfl, ⟨[(["cord"], [0])], by kernel_rfl, fun q hq kV doc pm an cdv ct ws hl => by
  simp only [List.mem_cons, List.mem_nil_iff, or_false] at hq
  rcases hq with rfl <;> (rcases ws with _ | ⟨a, _ | ⟨z, r⟩⟩ <;> first | rfl | (simp [permV, e21, ps30] at hl))⟩⟩
theorem sc22 : FnScope N31 ps31 (defScope (top 31)) := ⟨rfl, rfl, rfl, by decide +kernel, rfl, by decide +kernel, by decide +kernel⟩
theorem ok22 : OkI tb e22 := ⟨rfl, rfl, rfl, sc22, by kernel_rfl, fun _ _ _ _ _ _ us hl => match us, hl with | [_, _], _ => rfl, ⟨[(["octant", "cord"], [1, 0])], by kernel_rfl, fun q hq kV doc pm an cdv ct ws hl => by
  simp only [List.mem_cons, List.mem_nil_iff, or_false] at hq
  rcases hq with rfl <;> (rcases ws with _ | ⟨a, _ | ⟨b, _ | ⟨z, r⟩⟩⟩ <;> first | rfl | (simp [permV, e22, ps31] at hl))⟩⟩
theorem sc23 : FnScope N32 ps32 (defScope (top 32)) := ⟨rfl, rfl, rfl, by decide +kernel, rfl, by decide +kernel, by decide +kernel⟩
theorem ok23 : OkI tb e23 := ⟨rfl, rfl, rfl, sc23, by kernel_rfl, fun _ _ _ _ _ _ us hl => match us, hl with | [_, _, _], _ => rfl, ⟨[(["number", "octant", "cord"], [2, 1, 0])], by kernel_rfl, fun q hq kV doc pm an cdv ct ws hl => by
  simp only [List.mem_cons, List.mem_nil_iff, or_false] at hq
  rcases hq with rfl <;> (rcases ws with _ | ⟨a, _ | ⟨b, _ | ⟨c, _ | ⟨z, r⟩⟩⟩⟩ <;> first | rfl | (simp [permV, e23, ps32] at hl))⟩⟩
theorem sc24 : FnScope N33 ps33 (defScope (top 33)) := ⟨rfl, rfl, rfl, by decide +kernel, rfl, by decide +kernel, by decide +kernel⟩
theorem ok24 : OkI tb e24 := ⟨rfl, rfl, rfl, sc24, by kernel_rfl, fun _ _ _ _ _ _ us hl => match us, hl with | [_, _, _], _ => rfl, ⟨[(["axis", "octant", "cord"], [2, 1, 0])], by kernel_rfl, fun q hq kV doc pm an cdv ct ws hl => by
  simp only [List.mem_cons, List.mem_nil_iff, or_false] at hq
  rcases hq with rfl <;> (rcases ws with _ | ⟨a, _ | ⟨b, _ | ⟨c, _ | ⟨z, r⟩⟩⟩⟩ <;> first | rfl | (simp [permV, e24, ps33] at hl))⟩⟩
theorem sc25 : FnScope N34 ps34 (defScope (top 34)) := ⟨rfl, rfl, rfl, by decide +kernel, rfl, by decide +kernel, by decide +kernel⟩
theorem ok25 : OkI tb e25 := ⟨rfl, rfl, rfl, sc25, by kernel_rfl, fun _ _ _ _ _ _ us hl => match us, hl with | [_], _ => rfl, ⟨[], by kernel_rfl, fun q hq => nomatch hq⟩⟩
theorem sc26 : FnScope N35 ps35 (defScope (top 35)) := ⟨rfl, rfl, rfl, by decide +kernel, rfl, by decide +kernel, by decide +kernel⟩
theorem ok26 : OkI tb e26 := ⟨rfl, rfl, rfl, sc26, by kernel_rfl, fun _ _ _ _ _ _ us hl => match us, hl with | [_, _], _ => rfl, ⟨[], by kernel_rfl, fun q hq => nomatch hq⟩⟩
theorem sc27 : FnScope N37 ps37 (defScope (top 37)) := ⟨rfl, rfl, rfl, by decide +kernel, rfl, by decide +kernel, by decide +kernel⟩
theorem ok27 : OkI tb e27 := ⟨rfl, rfl, rfl, sc27, by kernel_rfl, fun _ _ _ _ _ _ us hl => match us, hl with | [_], _ => rfl, ⟨[(["cord"], [0])], by kernel_rfl, fun q hq kV doc pm an cdv ct ws hl => by
  simp only [List.mem_cons, List.mem_nil_iff, or_false] at hq
  rcases hq with rfl <;> (rcases ws with _ | ⟨a, _ | ⟨z, r⟩⟩ <;> first | rfl | (simp [permV, e27, ps37] at hl))⟩⟩
theorem sc28 : FnScope N38 ps38 (defScope (top 38)) := ⟨rfl, rfl, rfl, by decide +kernel, rfl, by decide +kernel, by decide +kernel⟩
theorem ok28 : OkI tb e28 := ⟨rfl, rfl, rfl, sc28, by kernel_rfl, fun _ _ _ _ _ _ us hl => match us, hl with | [_, _, _], _ => rfl, ⟨[(["number", "octant", "cord"], [2, 1, 0])], by kernel_rfl, fun q hq kV doc pm an cdv ct ws hl => by
  simp only [List.mem_cons, List.mem_nil_iff, or_false] at hq
  rcases hq with rfl <;> (rcases ws with _ | ⟨a, _ | ⟨b, _ | ⟨c, _ | ⟨z, r⟩⟩⟩⟩ <;> first | rfl | (simp [permV, e28, ps38] at hl))⟩⟩
theorem sc29 : FnScope N39 ps39 (defScope (top 39)) := ⟨rfl, rfl, rfl, by decide +kernel, rfl, by decide +kernel, by decide +kernel⟩
theorem ok29 : OkI tb e29 := ⟨rfl, rfl, rfl, sc29, by kernel_rfl, fun _ _ _ _ _ _ us hl => match us, hl with | [_, _, _, _], _ => rfl, ⟨[(["behind", "other", "stroke", "ahead"], [3, 2, 1, 0])], by kernel_rfl, fun q hq kV doc pm an cdv ct ws hl => by
  simp only [List.mem_cons, List.mem_nil_iff, or_false] at hq
  rcases hq with rfl <;> (rcases ws with _ | ⟨a, _ | ⟨b, _ | ⟨c, _ | ⟨d, _ | ⟨z, r⟩⟩⟩⟩⟩ <;> first | rfl | (simp [permV, e29, ps39] at hl))⟩⟩
theorem sc30 : FnScope N40 ps40 (defScope (top 40)) := ⟨rfl, rfl, rfl, by decide +kernel, rfl, by decide +kernel, by decide +kernel⟩
theorem ok30 : OkI tb e30 := ⟨rfl, rfl, rfl, sc30, by kernel_rfl, fun _ _ _ _ _ _ us hl => match us, hl with | [_, _, _, _], _ => rfl, ⟨[(["behind", "side", "stroke", "ahead"], [3, 2, 1, 0])], by kernel_rfl, fun q hq kV doc pm an cdv ct ws hl => by
  simp only [List.mem_cons, List.mem_nil_iff, or_false] at hq
  rcases hq with rfl <;> (rcases ws with _ | ⟨a, _ | ⟨b, _ | ⟨c, _ | ⟨d, _ | ⟨z, r⟩⟩⟩⟩⟩ <;> first | rfl | (simp [permV, e30, ps40] at hl))⟩⟩
theorem sc31 : FnScope N41 ps41 (defScope (top 41)) := ⟨rfl, rfl, rfl, by decide +kernel, rfl, by decide +kernel, by decide +kernel⟩
theorem ok31 : OkI tb e31 := ⟨rfl, rfl, rfl, sc31, by kernel_rfl, fun _ _ _ _ _ _ us hl => match us, hl with | [_], _ => rfl, ⟨[(["number"], [0])], by kernel_rfl, fun q hq kV doc pm an cdv ct ws hl => by
  simp only [List.mem_cons, List.mem_nil_iff, or_false] at hq
  rcases hq with rfl <;> (rcases ws with _ | ⟨a, _ | ⟨z, r⟩⟩ <;> first | rfl | (simp [permV, e31, ps41] at hl))⟩⟩
theorem sc32 : FnScope N42 ps42 (defScope (top 42)) := ⟨rfl, rfl, rfl, by decide +kernel, rfl, by decide +kernel, by decide +kernel⟩
theorem ok32 : OkI tb e32 := ⟨rfl, rfl, rfl, sc32, by kernel_rfl, fun _ _ _ _ _ _ us hl => match us, hl with | [_, _, _, _], _ => rfl, ⟨[], by kernel_rfl, fun q hq => nomatch hq⟩⟩
theorem sc33 : FnScope N43 ps43 (defScope (top 43)) := ⟨rfl, rfl, rfl, by decide +kernel, rfl, by decide +kernel, by decide +kernel⟩
theorem ok33 : OkI tb e33 := ⟨rfl, rfl, rfl, sc33, by kernel_rfl, fun _ _ _ _ _ _ us hl => match us, hl with | [_, _, _, _], _ => rfl, ⟨[], by kernel_rfl, fun q hq => nomatch hq⟩⟩
theorem sc34 : FnScope N44 ps44 (defScope (top 44)) := ⟨rfl, rfl, rfl, by decide +kernel, rfl, by decide +kernel, by decide +kernel⟩
theorem ok34 : OkI tb e34 := ⟨rfl, rfl, rfl, sc34, by kernel_rfl, fun _ _ _ _ _ _ us hl => match us, hl with | [_], _ => rfl, ⟨[], by kernel_rfl, fun q hq => nomatch hq⟩⟩
theorem sc35 : FnScope N46 ps46 (defScope (top 46)) := ⟨rfl, rfl, rfl, by decide +kernel, rfl, by decide +kernel, by decide +kernel⟩
theorem ok35 : OkI tb e35 := ⟨rfl, rfl, rfl, sc35, by kernel_rfl, fun _ _ _ _ _ _ us hl => match us, hl with | [_], _ => rfl, ⟨[], by kernel_rfl, fun q hq => nomatch hq⟩⟩
theorem sc36 : FnScope N48 ps48 (defScope (top 48)) := ⟨rfl, rfl, rfl, by decide +kernel, rfl, by decide +kernel, by decide +kernel⟩
theorem ok36 : OkI tb e36 := ⟨rfl, rfl, rfl, sc36, by kernel_rfl, fun _ _ _ _ _ _ us hl => match us, hl with | [_, _], _ => rfl, ⟨[], by kernel_rfl, fun q hq => nomatch hq⟩⟩
theorem sc37 : FnScope N49 ps49 (defScope (top 49)) := ⟨rfl, rfl, rfl, by decide +kernel, rfl, by decide +kernel, by decide +kernel⟩
theorem ok37 : OkI tb e37 := ⟨rfl, rfl, rfl, sc37, by kernel_rfl, fun _ _ _ _ _ _ us hl => match us, hl with | [_], _ => rfl, ⟨[], by kernel_rfl, fun q hq => nomatch hq⟩⟩
theorem sc38 : FnScope N50 ps50 (defScope (top 50)) := ⟨rfl, rfl, rfl, by decide +kernel, rfl, by decide +kernel, by decide +kernel⟩
theorem ok38 : OkI tb e38 := ⟨rfl, rfl, rfl, sc38, by kernel_rfl, fun _ _ _ _ _ _ us hl => match us, hl with | [_, _], _ => rfl, ⟨[], by kernel_rfl, fun q hq => nomatch hq⟩⟩
theorem sc39 : FnScope N51 ps51 (defScope (top 51)) := ⟨rfl, rfl, rfl, by decide +kernel, rfl, by decide +kernel, by decide +kernel⟩
theorem ok39 : OkI tb e39 := ⟨rfl, rfl, rfl, sc39, by kernel_rfl, fun _ _ _ _ _ _ us hl => match us, hl with | [], _ => rfl, ⟨[], by kernel_rfl, fun q hq => nomatch hq⟩⟩
theorem sc40 : FnScope N52 ps52 (defScope (top 52)) := ⟨rfl, rfl, rfl, by decide +kernel, rfl, by decide +kernel, by decide +kernel⟩
theorem ok40 : OkI tb e40 := ⟨rfl, rfl, rfl, sc40, by kernel_rfl, fun _ _ _ _ _ _ us hl => match us, hl with | [], _ => rfl, ⟨[], by kernel_rfl, fun q hq => nomatch hq⟩⟩
theorem sc41 : FnScope N53 ps53 (defScope (top 53)) := ⟨rfl, rfl, rfl, by decide +kernel, rfl, by decide +kernel, by decide +kernel⟩
theorem ok41 : OkI tb e41 := ⟨rfl, rfl, rfl, sc41, by kernel_rfl, fun _ _ _ _ _ _ us hl => match us, hl with | [], _ => rfl, ⟨[], by kernel_rfl, fun q hq => nomatch hq⟩⟩
theorem sc42 : FnScope N54 ps54 (defScope (top 54)) := ⟨rfl, rfl, rfl, by decide +kernel, rfl, by decide +kernel, by decide +kernel⟩
theorem ok42 : OkI tb e42 := ⟨rfl, rfl, rfl, sc42, by kernel_rfl, fun _ _ _ _ _ _ us hl => match us, hl with | [_, _], _ => rfl, ⟨[], by kernel_rfl, fun q hq => nomatch hq⟩⟩
theorem sc43 : FnScope N55 ps55 (defScope (top 55)) := ⟨rfl, rfl, rfl, by decide +kernel, rfl, by decide +kernel, by decide +kernel⟩
theorem ok43 : OkI tb e43 := ⟨rfl, rfl, rfl, sc43, by kernel_rfl, fun _ _ _ _ _ _ us hl => match us, hl with | [_, _], _ => rfl, ⟨[], by kernel_rfl, fun q hq => nomatch hq⟩⟩
theorem sc44 : FnScope N56 ps56 (defScope (top 56)) := ⟨rfl, rfl, rfl, by decide +kernel, rfl, by decide +kernel, by decide +kernel⟩
theorem ok44 : OkI tb e44 := ⟨rfl, rfl, rfl, sc44, by kernel_rfl, fun _ _ _ _ _ _ us hl => match us, hl with | [], _ => rfl, ⟨[], by kernel_rfl, fun q hq => nomatch hq⟩⟩
theorem sc45 : FnScope N57 ps57 (defScope (top 57)) := ⟨rfl, rfl, rfl, by decide +kernel, rfl, by decide +kernel, by decide +kernel⟩
theorem ok45 : OkI tb e45 := ⟨rfl, rfl, rfl, sc45, by kernel_rfl, fun _ _ _ _ _ _ us hl => match us, hl with | [], _ => rfl, ⟨[], by kernel_rfl, fun q hq => nomatch hq⟩⟩
theorem sc46 : FnScope N58 ps58 (defScope (top 58)) := ⟨rfl, rfl, rfl, by decide +kernel, rfl, by decide +kernel, by decide +kernel⟩
theorem ok46 : OkI tb e46 := ⟨rfl, rfl, rfl, sc46, by kernel_rfl, fun _ _ _ _ _ _ us hl => match us, hl with | [], _ => rfl, ⟨[], by kernel_rfl, fun q hq => nomatch hq⟩⟩
theorem sc47 : FnScope N59 ps59 (defScope (top 59)) := ⟨rfl, rfl, rfl, by decide +kernel, rfl, by decide +kernel, by decide +kernel⟩
theorem ok47 : OkI tb e47 := ⟨rfl, rfl, rfl, sc47, by kernel_rfl, fun _ _ _ _ _ _ us hl => match us, hl with | [], _ => rfl, ⟨[], by kernel_rfl, fun q hq => nomatch hq⟩⟩
theorem sc48 : FnScope N60 ps60 (defScope (top 60)) := ⟨rfl, rfl, rfl, by decide +kernel, rfl, by decide +kernel, by decide +kernel⟩
theorem ok48 : OkI tb e48 := ⟨rfl, rfl, rfl, sc48, by kernel_rfl, fun _ _ _ _ _ _ us hl => match us, hl with | [_], _ => rfl, ⟨[], by kernel_rfl, fun q hq => nomatch hq⟩⟩
theorem okL : ∀ e ∈ L, OkI tb e := fun e he => by
  unfold L L0 L20 L40 at he
  simp only [List.cons_append, List.nil_append, List.mem_cons, List.mem_nil_iff, or_false] at he
  rcases he with rfl | rfl | rfl | rfl | rfl | rfl | rfl | rfl | rfl | rfl | rfl | rfl | rfl | rfl | rfl | rfl | rfl | rfl | rfl | rfl | rfl | rfl | rfl | rfl | rfl | rfl | rfl | rfl | rfl | rfl | rfl | rfl | rfl | rfl | rfl | rfl | rfl | rfl | rfl | rfl | rfl | rfl | rfl | rfl | rfl | rfl | rfl | rfl | rfl
  · exact ok0
  · exact ok1
  · exact ok2
  · exact ok3
  · exact ok4
  · exact ok5
  · exact ok6
  · exact ok7
  · exact ok8
  · exact ok9
  · exact ok10
  · exact ok11
  · exact ok12
  · exact ok13
  · exact ok14
  · exact ok15
  · exact ok16
  · exact ok17
  · exact ok18
  · exact ok19
  · exact ok20
  · exact ok21
  · exact ok22
  · exact ok23
  · exact ok24
  · exact ok25
  · exact ok26
  · exact ok27
  · exact ok28
  · exact ok29
  · exact ok30
  · exact ok31
  · exact ok32
  · exact ok33
  · exact ok34
  · exact ok35
  · exact ok36
  · exact ok37
  · exact ok38
  · exact ok39
  · exact ok40
  · exact ok41
  · exact ok42
  · exact ok43
  · exact ok44
  · exact ok45
  · exact ok46
  · exact ok47
  · exact ok48
theorem Z : Facts tb L fa fn where
  fns := by kernel_rfl
  fn := fun e he => List.mem_append_left _ (List.mem_map_of_mem he)
  glo := fun e he => List.mem_append_left _ (List.mem_map.mpr ⟨e, he, rfl⟩)
  free := fun x hx => List.mem_append_right _ (List.mem_append_right _ (List.mem_map_of_mem (List.contains_iff_mem.mp hx)))
  okI := okL
  sz := by decide +kernel
abbrev R : PySem.W.OpenRow := PySem.W.OpenLaw.row PySem.Challenge.rw_fourlooks_k23_pushes_and_quarters_by_han
abbrev hk : PySem.W.Hook := hookM 6 fa fn (exB tb CL bx)
def ob (s : PySem.W.SharedT) : He.AlD × Bool := obM 6 fa fn (exB tb CL bx) (HandSHeadRun.getT s)
theorem ob_eq (s : PySem.W.SharedT) : ob s = hk.obs s.abs := obM_eq (HandSHeadRun.getT_eq s)
def loose_0 : List PySem.Str := ["is_number", "is_point", "is_stroke", "way", "are_unlike", "determinant", "upright_to", "stepped", "walked", "spans", "bent_places", "is_cord", "_are_strokes", "are_strokes_cords", "_closes", "told_cord", "pushed_link", "_flat_strokes", "_shadows", "_crossed", "self_link", "four", "corner_sum", "four_by", "octant_change", "_corner_strokes", "_sign_along", "quarters", "quarters_by", "bend_change"]
def loose_30 : List PySem.Str := ["out_change", "changed_rows", "_is_fit_bend", "_is_fit_bump", "are_strokes_quarters", "_runs_on", "_law_cells", "_law_lists", "_law_same", "_law_skew", "_law_coil", "_law_eyes", "_law_asked", "_law_reply", "_law_front_right", "_law_refused_right", "_law_mirrored_right", "_law_soft_right", "Unfit", "STROKES", "STEPS", "FOUR_OCTANTS"]
def loose : List PySem.Str := loose_0 ++ loose_30
theorem run0 (w : World) : HandSHeadRun.RunEq R (PySem.W.view R.prog [60]) hk ob 6000 loose (w.withFollow "special-get-raises" false) := by
  intro os
  kernel_rfl
theorem run1 (w : World) : HandSHeadRun.RunEq R (PySem.W.view R.prog [60]) hk ob 6000 loose (w.withFollow "special-get-raises" true) := by
  intro os
  kernel_rfl
theorem run (w : World) : HandSHeadRun.RunEq R (PySem.W.view R.prog [60]) hk ob 6000 loose w := PySem.W.byRow2 "special-get-raises" (P := fun w => HandSHeadRun.RunEq R (PySem.W.view R.prog [60]) hk ob 6000 loose w) run0 run1 w
theorem scc0 : FnScope ["self"] ["self"] (defScope ci0) := ⟨rfl, rfl, rfl, by decide +kernel, rfl, by decide +kernel, by decide +kernel⟩
theorem init0 {P : Program} {w : World} {K : PySem.W.Frag} {mg : Str → Option Value} {base : Heap} {C f : Addr} {fd : FuncData} (hm : mg "ValueError" = none) (hv : vvB K = true) (hC : OexC K C) (F : FunD K dc0.name dc0.qual dc0.params dc0.body dc0.scope [] [] f fd) : FnOk P w K mg base CX0 1 f fd ["self"] (spNew C) ∧ Binds K fd ["self"] [] := by
  refine ⟨F.ok scc0 (fun vs H Q E h => ?_) (fun cdv A outer s H vs Q E hr h => ⟨_, PSs.nox (pss_one (ps_expr (pe_veinit rfl hm (vvB_ok hv) (pa_cons (pv 0) pa_nil)) rfl)), ?_⟩), FunD.bindsN F fun _ _ _ _ _ _ us hl => match us, hl with | [_], _ => rfl⟩
  · obtain ⟨a, rfl, _⟩ := h
    rfl
  · obtain ⟨a, rfl, e, q⟩ := h
    exact ⟨_, rfl, a, C, [], rfl, by decide, hC, e, q⟩
theorem cl_glo : ∀ e ∈ CL, He.Fa.glo e.x ∈ fa := fun e he => List.mem_append_right _ (List.mem_append_left _ (List.mem_map.mpr ⟨e, he, rfl⟩))
theorem cl_hd : ∀ e ∈ CL, e.d ∈ fn ∧ e.d.at_ = (e.x, some ("__init__" : Str)) ∧ e.d.dfl = [] ∧ e.d.kwd = [] := fun e he => by
  have h1 : e.d ∈ fn := List.mem_append_right _ (List.mem_map_of_mem he)
  refine ⟨h1, ?_⟩
  have h2 := he
  unfold CL at h2
  simp only [List.mem_cons, List.mem_nil_iff, or_false] at h2
  rcases h2 with rfl
  · exact ⟨rfl, rfl, rfl⟩

theorem cl_hi (P : Program) (w : World) (K : PySem.W.Frag) (mg : Str → Option Value) (base : Heap) (hm : mg "ValueError" = none) (hv : vvB K = true) : ∀ e ∈ CL, ∀ (C f : Addr) (fd : FuncData), OexC K C → FunD K e.d.name e.d.qual e.d.params e.d.body e.d.scope [] [] f fd → FnOk P w K mg base CX0 1 f fd ["self"] (spNew C) ∧ Binds K fd ["self"] [] := fun e he C f fd hC F => by
  have h2 := he
  unfold CL at h2
  simp only [List.mem_cons, List.mem_nil_iff, or_false] at h2
  rcases h2 with rfl
  · exact init0 hm hv hC F

theorem hb : ∀ p ∈ bx, bootBuiltins p.1 = some (.type p.2) := fun p hp => by
  unfold bx at hp
  simp only [List.mem_cons, List.mem_nil_iff, or_false] at hp
  rcases hp with rfl
  · decide +kernel

theorem hs : ∀ tn, tb.isx.contains tn = true → tn ∈ bx.map (·.1) := fun tn ht => List.contains_iff_mem.mp ht
theorem ho : ∀ i, tb.oks.contains i = true → ∃ x ar, tb.fns.lookup x = some (i, ar) := oks_all (by decide +kernel)
theorem hve : CL = [] ∨ tb.blt.contains "ValueError" = true := .inr (by decide +kernel)
end Lw

set_option maxRecDepth 100000
set_option maxHeartbeats 0
namespace Lw
open Mi
theorem t44 : isTe (runG tf (runC tf 13) 44 [] ⟨[], none⟩) = true := by decide +kernel
end Lw

set_option maxRecDepth 100000
set_option maxHeartbeats 0
namespace Lw
open Mi
theorem t45 : isTe (runG tf (runC tf 13) 45 [] ⟨[], none⟩) = true := by decide +kernel
end Lw

set_option maxRecDepth 100000
set_option maxHeartbeats 0
namespace Lw
open Mi
theorem t46 : isTe (runG tf (runC tf 13) 46 [] ⟨[], none⟩) = true := by decide +kernel
end Lw

set_option linter.all false
set_option maxRecDepth 100000
set_option maxHeartbeats 0
namespace Lw
open Mi
def st : List Int := [-3, -2, -1, 1, 2, 3]
def fitB (a b c d : Int) : Bool := !(b.natAbs == c.natAbs) && !(a == -b) && !(b == -c) && !(c == -d) && !(a == -c) && !(c == -b) && !(b == -d)
def detI (x y z : Int) : Int := (((x.natAbs : Int) - y.natAbs) * ((y.natAbs : Int) - z.natAbs) * ((z.natAbs : Int) - x.natAbs)) / 2 * x.sign * y.sign * z.sign
def bendI (a b c d : Int) : Int := -(detI b c a) - detI b c d
def isB (r : Mi.R Mi.D) (x : Bool) : Bool := match r with
  | .ok (.bl b) ⟨[], _⟩ => b == x
  | _ => false
def isI (r : Mi.R Mi.D) (x : Int) : Bool := match r with
  | .ok (.int b) ⟨[], _⟩ => b == x
  | _ => false
def is4 (F : Funs) (a : Int) : Bool := st.all fun b => st.all fun c => st.all fun d => isB (F 32 [.int a, .int b, .int c, .int d] ⟨[], none⟩) (fitB a b c d)
def is5 (F : Funs) (a : Int) : Bool := st.all fun b => st.all fun c => st.all fun d => !(fitB a b c d) || isI (F 29 [.int a, .int b, .int c, .int d] ⟨[], none⟩) (bendI a b c d)
def mm (F : Funs) : Funs := fun f ds s => match ds with
  | [.int a, .int b, .int c, .int d] => if st.contains a && st.contains b && st.contains c && st.contains d then (if Nat.beq f 32 then .ok (.bl (fitB a b c d)) s else if Nat.beq f 29 && fitB a b c d then .ok (.int (bendI a b c d)) s else F f ds s) else F f ds s
  | _ => F f ds s
theorem cl_here {G : Funs} {f : Nat} {ds : List Mi.D} {d : Mi.D} {e : Option Nat} (hr : refsLtL 0 ds = true) (h : cl G f ds ⟨[], none⟩ = .ok d ⟨[], e⟩) (s : S) : cl G f ds s = .ok d s := by
  rw [cl_eq] at h ⊢
  unfold clO at h ⊢
  rw [if_pos hr] at h ⊢
  cases q : G f ds ⟨[], none⟩ with
  | no => rw [q] at h; cases h
  | ex x fs s' =>
    rw [q] at h
    dsimp only at h
    by_cases z : refsLtL 0 fs = true
    · rw [if_pos z] at h; cases h
    · rw [if_neg z] at h; cases h
  | ok d' s' =>
    rw [q] at h
    obtain ⟨l, e'⟩ := s'
    cases l with
    | nil => cases h; rfl
    | cons c cs => 
      have h : Mi.R.ok (shD 0 d') (⟨[] ++ (c :: cs).map (shC 0), shE 0 none e'⟩ : S) = .ok d ⟨[], e⟩ := h
      cases h
theorem isB_ok {r : Mi.R Mi.D} {x : Bool} (h : isB r x = true) : ∃ e, r = .ok (.bl x) ⟨[], e⟩ := by
  unfold isB at h
  split at h
  · rw [beq_iff_eq.mp h]; exact ⟨_, rfl⟩
  · cases h
theorem isI_ok {r : Mi.R Mi.D} {x : Int} (h : isI r x = true) : ∃ e, r = .ok (.int x) ⟨[], e⟩ := by
  unfold isI at h
  split at h
  · rw [beq_iff_eq.mp h]; exact ⟨_, rfl⟩
  · cases h
theorem mm_eq {G : Funs} (h4 : ∀ a ∈ st, is4 (cl G) a = true) (h5 : ∀ a ∈ st, is5 (cl G) a = true) : mm (cl G) = cl G := by
  funext f ds s
  unfold mm
  split
  · rename_i a b c d
    split
    · rename_i hm
      rw [Bool.and_eq_true, Bool.and_eq_true, Bool.and_eq_true, List.contains_iff_mem, List.contains_iff_mem, List.contains_iff_mem, List.contains_iff_mem] at hm
      split
      · rename_i hf
        have hf := Nat.eq_of_beq_eq_true hf
        subst hf
        obtain ⟨e, q⟩ := isB_ok (List.all_eq_true.mp (List.all_eq_true.mp (List.all_eq_true.mp (h4 a hm.1.1.1) b hm.1.1.2) c hm.1.2) d hm.2)
        exact (cl_here rfl q s).symm
      · split
        · rename_i hf
          rw [Bool.and_eq_true] at hf
          have hf1 := Nat.eq_of_beq_eq_true hf.1
          subst hf1
          have z := List.all_eq_true.mp (List.all_eq_true.mp (List.all_eq_true.mp (h5 a hm.1.1.1) b hm.1.1.2) c hm.1.2) d hm.2
          rw [hf.2] at z
          obtain ⟨e, q⟩ := isI_ok (show isI _ _ = true from z)
          exact (cl_here rfl q s).symm
        · rfl
    · rfl
  · rfl
def runC1 (T : List Fn) (F : Funs) : Funs := cl fun f ds s => match T[f]? with
  | some fn => runDef F fn ds s
  | none => .no
end Lw

set_option maxRecDepth 100000
set_option maxHeartbeats 0
namespace Lw
open Mi
theorem f40 : is4 (runC tf 12) (-3) = true := by decide +kernel
end Lw

set_option maxRecDepth 100000
set_option maxHeartbeats 0
namespace Lw
open Mi
theorem f41 : is4 (runC tf 12) (-2) = true := by decide +kernel
end Lw

set_option maxRecDepth 100000
set_option maxHeartbeats 0
namespace Lw
open Mi
theorem f42 : is4 (runC tf 12) (-1) = true := by decide +kernel
end Lw

set_option maxRecDepth 100000
set_option maxHeartbeats 0
namespace Lw
open Mi
theorem f43 : is4 (runC tf 12) (1) = true := by decide +kernel
end Lw

set_option maxRecDepth 100000
set_option maxHeartbeats 0
namespace Lw
open Mi
theorem f44 : is4 (runC tf 12) (2) = true := by decide +kernel
end Lw

set_option maxRecDepth 100000
set_option maxHeartbeats 0
namespace Lw
open Mi
theorem f45 : is4 (runC tf 12) (3) = true := by decide +kernel
end Lw

set_option maxRecDepth 100000
set_option maxHeartbeats 0
namespace Lw
open Mi
theorem f50 : is5 (runC tf 12) (-3) = true := by decide +kernel
end Lw

set_option maxRecDepth 100000
set_option maxHeartbeats 0
namespace Lw
open Mi
theorem f51 : is5 (runC tf 12) (-2) = true := by decide +kernel
end Lw

set_option maxRecDepth 100000
set_option maxHeartbeats 0
namespace Lw
open Mi
theorem f52 : is5 (runC tf 12) (-1) = true := by decide +kernel
end Lw

set_option maxRecDepth 100000
set_option maxHeartbeats 0
namespace Lw
open Mi
theorem f53 : is5 (runC tf 12) (1) = true := by decide +kernel
end Lw

set_option maxRecDepth 100000
set_option maxHeartbeats 0
namespace Lw
open Mi
theorem f54 : is5 (runC tf 12) (2) = true := by decide +kernel
end Lw

set_option maxRecDepth 100000
set_option maxHeartbeats 0
namespace Lw
open Mi
theorem f55 : is5 (runC tf 12) (3) = true := by decide +kernel
end Lw

set_option maxRecDepth 100000
set_option maxHeartbeats 0
namespace Lw
open Mi
theorem t47m : isTe (runG tf (runC1 tf (mm (runC tf 12))) 47 [] ⟨[], none⟩) = true := by decide +kernel
end Lw

set_option maxRecDepth 100000
set_option maxHeartbeats 0
namespace Lw
open Mi
theorem h4all : ∀ a ∈ st, is4 (runC tf 12) a = true := fun a ha => by
  unfold st at ha
  simp only [List.mem_cons, List.mem_nil_iff, or_false] at ha
  rcases ha with rfl | rfl | rfl | rfl | rfl | rfl
  · exact f40
  · exact f41
  · exact f42
  · exact f43
  · exact f44
  · exact f45
theorem h5all : ∀ a ∈ st, is5 (runC tf 12) a = true := fun a ha => by
  unfold st at ha
  simp only [List.mem_cons, List.mem_nil_iff, or_false] at ha
  rcases ha with rfl | rfl | rfl | rfl | rfl | rfl
  · exact f50
  · exact f51
  · exact f52
  · exact f53
  · exact f54
  · exact f55
theorem runC_succ (T : List Fn) (k : Nat) : runC T (k + 1) = runC1 T (runC T k) := rfl
theorem runC12 : mm (runC tf 12) = runC tf 12 := by
  have e : runC tf 12 = cl fun f ds s => match tf[f]? with
    | some fn => runDef (runC tf 11) fn ds s
    | none => .no := runC_succ tf 11
  have h4 := h4all
  have h5 := h5all
  rw [e] at h4 h5 ⊢
  exact mm_eq h4 h5
theorem t47 : isTe (runG tf (runC tf 13) 47 [] ⟨[], none⟩) = true := by
  rw [runC_succ tf 12, ← runC12]
  exact t47m
end Lw





set_option linter.all false
set_option maxRecDepth 100000
set_option maxHeartbeats 0
namespace Lw
open PySem PySem.Spec PyProof.Rows L2 Mi
theorem law_run (ns : List Int) (h : ns.length ≤ 63) : ∃ s, runC (tfOf L) 15 48 [.lk (ns.map Mi.D.int)] ⟨[], none⟩ = .ok (.bl true) s := by
  rw [tf_eq]
  have c44 : ∀ s, runC tf 14 44 [] s = .ok (.bl true) s := cl_true (F := runG tf (runC tf 13)) t44
  have c45 : ∀ s, runC tf 14 45 [] s = .ok (.bl true) s := cl_true (F := runG tf (runC tf 13)) t45
  have c46 : ∀ s, runC tf 14 46 [] s = .ok (.bl true) s := cl_true (F := runG tf (runC tf 13)) t46
  have c47 : ∀ s, runC tf 14 47 [] s = .ok (.bl true) s := cl_true (F := runG tf (runC tf 13)) t47
  obtain ⟨x, cc⟩ : ∃ x : Int, runC tf 14 36 [.lk (ns.map Mi.D.int), .int 1] ⟨[.lst [.fn 45, .fn 46, .fn 47]], none⟩ = .ok (.ref 1) ⟨[.lst [.fn 45, .fn 46, .fn 47], .lst [.int x]], none⟩ :=
    cl_cells (Tf := tf) (Fs := runC tf 13) (f := 36) rfl ns h ⟨[.lst [.fn 45, .fn 46, .fn 47]], none⟩
  generalize hF : runC tf 14 = F at *
  have v1 : ev F (.prim .lst (.cons (.con (.fn 45)) (.cons (.con (.fn 46)) (.cons (.con (.fn 47)) .nil)))) [some (.lk (ns.map Mi.D.int))] ⟨[], none⟩ = .ok (.ref 0) ⟨[.lst [.fn 45, .fn 46, .fn 47]], none⟩ := rfl
  have v2 : ev F (.call 36 (.cons (.var 0) (.cons (.con (.int (1))) .nil))) [some (.lk (ns.map Mi.D.int))] ⟨[.lst [.fn 45, .fn 46, .fn 47]], none⟩ = .ok (.ref 1) ⟨[.lst [.fn 45, .fn 46, .fn 47], .lst [.int x]], none⟩ := cc
  have v3 : ev F (.prim .ix (.cons (.call 36 (.cons (.var 0) (.cons (.con (.int (1))) .nil))) (.cons (.con (.int (0))) .nil))) [some (.lk (ns.map Mi.D.int))] ⟨[.lst [.fn 45, .fn 46, .fn 47]], none⟩ = .ok (.int x) ⟨[.lst [.fn 45, .fn 46, .fn 47], .lst [.int x]], none⟩ := by
    show (evs F _ _ _).bind _ = _
    rw [evs2, v2]
    rfl
  have v4 : ev F (.prim .toInt (.cons (.prim .ix (.cons (.call 36 (.cons (.var 0) (.cons (.con (.int (1))) .nil))) (.cons (.con (.int (0))) .nil))) .nil)) [some (.lk (ns.map Mi.D.int))] ⟨[.lst [.fn 45, .fn 46, .fn 47]], none⟩ = .ok (.int x) ⟨[.lst [.fn 45, .fn 46, .fn 47], .lst [.int x]], none⟩ := by
    show (evs F _ _ _).bind _ = _
    rw [evs1, v3]
    rfl
  have v5 : ev F (.prim .mod (.cons (.prim .toInt (.cons (.prim .ix (.cons (.call 36 (.cons (.var 0) (.cons (.con (.int (1))) .nil))) (.cons (.con (.int (0))) .nil))) .nil)) (.cons (.con (.int (3))) .nil))) [some (.lk (ns.map Mi.D.int))] ⟨[.lst [.fn 45, .fn 46, .fn 47]], none⟩ = .ok (.int (x.fmod 3)) ⟨[.lst [.fn 45, .fn 46, .fn 47], .lst [.int x]], none⟩ := by
    show (evs F _ _ _).bind _ = _
    rw [evs2, v4]
    rfl
  have hx : x.fmod 3 = 0 ∨ x.fmod 3 = 1 ∨ x.fmod 3 = 2 := by
    rw [Int.fmod_eq_emod_of_nonneg x (by decide)]
    omega
  obtain ⟨f, hf, cf, ev6⟩ : ∃ f, [12, 20, 21, 22, 23, 24, 27, 28, 45, 46, 47].contains f = true ∧ (∀ s, F f [] s = .ok (.bl true) s) ∧ ev F (.prim .ix (.cons (.prim .lst (.cons (.con (.fn 45)) (.cons (.con (.fn 46)) (.cons (.con (.fn 47)) .nil)))) (.cons (.prim .mod (.cons (.prim .toInt (.cons (.prim .ix (.cons (.call 36 (.cons (.var 0) (.cons (.con (.int (1))) .nil))) (.cons (.con (.int (0))) .nil))) .nil)) (.cons (.con (.int (3))) .nil))) .nil))) [some (.lk (ns.map Mi.D.int))] ⟨[], none⟩ = .ok (.fn f) ⟨[.lst [.fn 45, .fn 46, .fn 47], .lst [.int x]], none⟩ := by
    rcases hx with q | q | q
    · refine ⟨45, by decide, c45, ?_⟩
      show (evs F _ _ _).bind _ = _
      rw [evs2, v1]
      show (ev F (.prim .mod _) _ _).bind _ = _
      rw [v5, q]
      rfl
    · refine ⟨46, by decide, c46, ?_⟩
      show (evs F _ _ _).bind _ = _
      rw [evs2, v1]
      show (ev F (.prim .mod _) _ _).bind _ = _
      rw [v5, q]
      rfl
    · refine ⟨47, by decide, c47, ?_⟩
      show (evs F _ _ _).bind _ = _
      rw [evs2, v1]
      show (ev F (.prim .mod _) _ _).bind _ = _
      rw [v5, q]
      rfl
  have hr : ∃ s2, exs F c60 [some (.lk (ns.map Mi.D.int))] ⟨[], none⟩ = .ok (.rt (.bl true)) ⟨s2, none⟩ := by
    refine ⟨[.lst [.fn 45, .fn 46, .fn 47], .lst [.int x]], ?_⟩
    have w1 : ev F (.not (.call 44 .nil)) [some (.lk (ns.map Mi.D.int))] ⟨[], none⟩ = .ok (.bl false) ⟨[], none⟩ := by
      show (tst (F 44 [] ⟨[], none⟩)).bind _ = _
      rw [c44]
      rfl
    have w2 : ev F (.callv [12, 20, 21, 22, 23, 24, 27, 28, 45, 46, 47] (.prim .ix (.cons (.prim .lst (.cons (.con (.fn 45)) (.cons (.con (.fn 46)) (.cons (.con (.fn 47)) .nil)))) (.cons (.prim .mod (.cons (.prim .toInt (.cons (.prim .ix (.cons (.call 36 (.cons (.var 0) (.cons (.con (.int (1))) .nil))) (.cons (.con (.int (0))) .nil))) .nil)) (.cons (.con (.int (3))) .nil))) .nil))) .nil) [some (.lk (ns.map Mi.D.int))] ⟨[], none⟩ = .ok (.bl true) ⟨[.lst [.fn 45, .fn 46, .fn 47], .lst [.int x]], none⟩ := by
      show (ev F _ _ _).bind (fun d s => match d with
        | .fn f => if [12, 20, 21, 22, 23, 24, 27, 28, 45, 46, 47].contains f then (evs F .nil [some (.lk (ns.map Mi.D.int))] s).bind fun ds s => F f ds s else .no
        | _ => .no) = _
      rw [ev6]
      show (if [12, 20, 21, 22, 23, 24, 27, 28, 45, 46, 47].contains f then F f [] _ else R.no) = _
      rw [if_pos hf, cf]
    have w3 : ex F (.cond (.not (.call 44 .nil)) (.cons (.ret (.con (.bl false))) .nil) .nil) [some (.lk (ns.map Mi.D.int))] ⟨[], none⟩ = .ok (.nx [some (.lk (ns.map Mi.D.int))]) ⟨[], none⟩ := by
      show RS.of (tst (ev F (.not (.call 44 .nil)) [some (.lk (ns.map Mi.D.int))] ⟨[], none⟩)) [some (.lk (ns.map Mi.D.int))] (fun k s => match k with
        | true => exs F (.cons (.ret (.con (.bl false))) .nil) [some (.lk (ns.map Mi.D.int))] s
        | false => exs F .nil [some (.lk (ns.map Mi.D.int))] s) = _
      rw [w1]
      rfl
    show (match ex F (.cond (.not (.call 44 .nil)) (.cons (.ret (.con (.bl false))) .nil) .nil) [some (.lk (ns.map Mi.D.int))] ⟨[], none⟩ with
      | .ok (.nx ρ2) s2 => exs F (.cons (.ret _) .nil) ρ2 s2
      | r => r) = _
    rw [w3]
    show (match RS.of (ev F (.callv [12, 20, 21, 22, 23, 24, 27, 28, 45, 46, 47] _ .nil) [some (.lk (ns.map Mi.D.int))] ⟨[], none⟩) [some (.lk (ns.map Mi.D.int))] (fun d s => RS.ok (.rt d) s) with
      | .ok (.nx ρ2) s2 => exs F .nil ρ2 s2
      | r => r) = _
    rw [w2]
    rfl
  obtain ⟨s2, hr⟩ := hr
  refine ⟨⟨[], none⟩, ?_⟩
  show cl (runG tf (runC tf 14)) 48 [.lk (ns.map Mi.D.int)] ⟨[], none⟩ = _
  have e1 : runG tf (runC tf 14) 48 [.lk (ns.map Mi.D.int)] ⟨[], none⟩ = .ok (.bl true) ⟨[], none⟩ := by
    rw [hF, runG_at (fn := ⟨1, 1, c60⟩) rfl]
    unfold runDef
    rw [if_pos ⟨rfl, by decide⟩]
    show (match exs F c60 [some (.lk (ns.map Mi.D.int))] ⟨[], none⟩ with
      | .ok (.rt d) s2 => gc 0 d s2
      | .ok (.nx _) s2 => gc 0 .non s2
      | .ex x fs _ s2 => .ex x fs s2
      | _ => .no) = _
    rw [hr]
    rfl
  rw [cl_eq]
  unfold clO
  have hc : refsLtL 0 [D.lk (ns.map Mi.D.int)] = true := by
    show (refsLtL 0 (ns.map Mi.D.int) && true) = true
    rw [refs_ints]; rfl
  rw [if_pos hc, e1]
end Lw
open PySem PySem.W PySem.Calls PyProof.Rows
theorem PySem.Challenge.cw_fourlooks_k23_pushes_and_quarters_by_han_holds : PySem.Challenge.rw_fourlooks_k23_pushes_and_quarters_by_han.Holds := by
  w_on; o_law
  refine HandSHeadRun.head_any (r := OpenLaw.row PySem.Challenge.rw_fourlooks_k23_pushes_and_quarters_by_han) (q := view (OpenLaw.row PySem.Challenge.rw_fourlooks_k23_pushes_and_quarters_by_han).prog [60]) (H := Lw.hk) (ob := Lw.ob) (M := 6000) (loose := Lw.loose) (d := HandSHeadRun.topDef (OpenLaw.row PySem.Challenge.rw_fourlooks_k23_pushes_and_quarters_by_han).prog 60) (kwd := []) Lw.ob_eq
    (by kernel_rfl) (fun s => by kernel_rfl) Lw.run (by kernel_rfl) (by kernel_rfl) (by kernel_rfl) (by rfl) (by first | assumption | decide +kernel) (by decide +kernel) ⟨rfl, rfl, rfl, rfl, rfl, by decide +kernel⟩ ?hw ?hc
  case hw => w_witness2
  case hc =>
    exact Mi.law_walk (nH := 6) (J := 14) (il := 48) (el := Lw.e48) (T := Lw.tb) (L := Lw.L) (CL := Lw.CL) (bx := Lw.bx) (fa := Lw.fa) (fn := Lw.fn) rfl (by kernel_rfl) ⟨rfl, by decide, by decide⟩ (by kernel_rfl) Lw.Z (by kernel_rfl) Lw.cl_glo Lw.cl_hd Lw.cl_hi Lw.hve Lw.hb Lw.hs Lw.ho rfl rfl rfl Lw.law_run
