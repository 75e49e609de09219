import PyProof.Rows.All
import Wide.All
import OpenK.AllK
import Wide.FinOn
import HandS.ForMost
import HandS.Defaults
import HandS.Flow
import HandS.Wide
import KE.DataEq
import HandS.Words
import HandS.IsInst
import HandS.TupAny
import HandS.Walk
import HandS.More
import KE.SortData
import HandS.Zip
import HandS.StrMore
import HandS.DictTup
import HandS.OwnEq
import OpenK.KOps
import KE.KExcInit
import KE.KExcIs
import KE.KIsAll
import HandS.Exc
import HandS.ExcInit
import HandS.ExcValue
import HandS.SetKeys
import HandS.ExcOwn
import KE.SortLaws
import HandS.RevRange
import HandS.Conv
import HandS.Set
import HandS.Strs
import HandS.SetIn
import HandS.TupSets
import HandS.SortInts
import PyProof.Rows.SortShellAny
import KE.KStateDown
import HandS.Head0
import HandS.Head1
import HandS.Head2
import HandS.HeadEnd
import HandS.HeadHook1
import HandS.HeadHook2
import HandS.HeadHook3
import HandS.HeadHook4
import PySem.Challenge.RW_middlesay_k17_chains_trimmed
set_option Elab.async false
set_option linter.all false
set_option maxRecDepth 100000
set_option maxHeartbeats 4000000
namespace L2
open PySem PySem.Spec PyProof.Rows
/-! ### ==, !=, in, not in of data without dicts, whatever the texts -/
section
variable {X : Cx}
def rEqP (K : PySem.W.Frag) : R2 := fun x y H Q => ∃ d e, Dp K H x d ∧ Dp K H y e ∧ d.plain = true ∧ e.plain = true ∧ min d.depth e.depth ≤ 60 ∧ Q (.bl (PyData.eqv d e)) H
def rNeP (K : PySem.W.Frag) : R2 := fun x y H Q => ∃ d e, Dp K H x d ∧ Dp K H y e ∧ d.plain = true ∧ e.plain = true ∧ min d.depth e.depth ≤ 60 ∧ Q (.bl (!PyData.eqv d e)) H
theorem op_eqP (hu : X.A.units + 64 < cLine) : OpR X (compareOp .Eq) (rEqP X.K) := by
  intro pins s σ H x y v u Q I rx ry h
  obtain ⟨d, e, hd, he, sd, se, hm, q⟩ := h
  obtain ⟨as, r1⟩ := Dp.reads I d x v hd rx
  obtain ⟨bs, r2⟩ := Dp.reads I e y u he ry
  exact SeqAt.eq_plain r1 r2 sd se (by omega) ⟨.bl _, H, I, rfl, q⟩
theorem op_neP (hu : X.A.units + 64 < cLine) : OpR X (compareOp .NotEq) (rNeP X.K) := by
  intro pins s σ H x y v u Q I rx ry h
  obtain ⟨d, e, hd, he, sd, se, hm, q⟩ := h
  obtain ⟨as, r1⟩ := Dp.reads I d x v hd rx
  obtain ⟨bs, r2⟩ := Dp.reads I e y u he ry
  exact SeqAt.ne_plain r1 r2 sd se (by omega) ⟨.bl _, H, I, rfl, q⟩
def rInP (K : PySem.W.Frag) (neg : Bool) : R2 := fun x y H Q => ∃ (xs : List PyData) (d : PyData), (Dp K H y (.list xs) ∨ Dp K H y (.tuple xs)) ∧ Dp K H x d ∧ PyData.plainAll xs = true ∧ d.plain = true ∧ min (PyData.depthAll xs) d.depth ≤ 60 ∧
  Q (.bl (if neg then !(xs.any fun y => PyData.eqv y d) else xs.any fun y => PyData.eqv y d)) H
theorem op_inP (hu : X.A.units + 64 < cLine) : OpR X (compareOp .In) (rInP X.K false) := by
  intro pins s σ H x y v u Q I rx ry h
  obtain ⟨xs, d, hy, hd, sx, sd, hm, q⟩ := h
  obtain ⟨as, r1⟩ := Dp.reads I d x v hd rx
  rcases hy with hy | hy
  · obtain ⟨bs, r2⟩ := Dp.reads I _ y u hy ry
    exact SeqAt.in_list_data r2 r1 sx sd (by omega) ⟨.bl _, H, I, rfl, q⟩
  · obtain ⟨bs, r2⟩ := Dp.reads I _ y u hy ry
    exact SeqAt.in_tuple_data r2 r1 sx sd (by omega) ⟨.bl _, H, I, rfl, q⟩
theorem op_notInP (hu : X.A.units + 64 < cLine) : OpR X (compareOp .NotIn) (rInP X.K true) := by
  intro pins s σ H x y v u Q I rx ry h
  obtain ⟨xs, d, hy, hd, sx, sd, hm, q⟩ := h
  obtain ⟨as, r1⟩ := Dp.reads I d x v hd rx
  rcases hy with hy | hy
  · obtain ⟨bs, r2⟩ := Dp.reads I _ y u hy ry
    exact SeqAt.notIn_list_data r2 r1 sx sd (by omega) ⟨.bl _, H, I, rfl, q⟩
  · obtain ⟨bs, r2⟩ := Dp.reads I _ y u hy ry
    exact SeqAt.notIn_tuple_data r2 r1 sx sd (by omega) ⟨.bl _, H, I, rfl, q⟩
end
end L2
namespace My
open PySem PySem.Spec PyProof.Rows L2
/-! ### lists of texts as data -/
theorem dp_strs {K : PySem.W.Frag} {H : Hp} : ∀ ys : List Str, DpAll K H (ys.map V.str) (ys.map PyData.str)
  | [] => .nil
  | _ :: r => .cons (.str _) (dp_strs r)
theorem plain_strs : ∀ ys : List Str, PyData.plainAll (ys.map PyData.str) = true
  | [] => by simp [PyData.plainAll]
  | y :: r => by
    have := plain_strs r
    simp [PyData.plainAll, PyData.plain, this]
theorem depth_strs : ∀ ys : List Str, PyData.depthAll (ys.map PyData.str) = 0
  | [] => by simp [PyData.depthAll]
  | y :: r => by
    have := depth_strs r
    simp [PyData.depthAll, PyData.depth, this]
theorem plain_strsL (ys : List Str) : PyData.plain (.list (ys.map PyData.str)) = true := by
  simp only [PyData.plain]
  exact plain_strs ys
theorem depth_strsL (ys : List Str) : PyData.depth (.list (ys.map PyData.str)) = 1 := by
  simp only [PyData.depth, depth_strs]
theorem eqvAll_strs : ∀ xs ys : List Str, PyData.eqvAll (xs.map PyData.str) (ys.map PyData.str) = decide (xs = ys)
  | [], [] => by simp [PyData.eqvAll]
  | [], _ :: _ => by simp [PyData.eqvAll]
  | _ :: _, [] => by simp [PyData.eqvAll]
  | x :: xs, y :: ys => by
    have ih := eqvAll_strs xs ys
    rw [List.map_cons, List.map_cons, PyData.eqvAll, ih, PyData.eqv]
    by_cases h : x = y
    · subst h
      simp
    · have h2 : ¬ x :: xs = y :: ys := fun e => h (List.cons.inj e).1
      rw [decide_eq_false h2]
      simp [h]
theorem eqv_strs (xs ys : List Str) : PyData.eqv (.list (xs.map PyData.str)) (.list (ys.map PyData.str)) = decide (xs = ys) := by
  rw [PyData.eqv]
  exact eqvAll_strs xs ys
theorem eqv_nil (ys : List Str) : PyData.eqv (.list (ys.map PyData.str)) (.list []) = ys.isEmpty := by
  cases ys <;> simp [PyData.eqv, PyData.eqvAll]
theorem eqV_str (x y : Str) : eqV (.str x) (.str y) = decide (x = y) := by
  show (x == y) = _
  by_cases h : x = y
  · subst h
    simp
  · simp [h]
theorem inV_strs (z : Str) (ys : List Str) : inV (.str z) (ys.map V.str) = decide (z ∈ ys) := by
  unfold inV
  induction ys with
  | nil => rfl
  | cons y r ih =>
    rw [List.map_cons, List.any_cons, ih, eqV_str]
    by_cases h : y = z
    · subst h
      simp
    · have h1 : ¬ (z = y) := fun e => h e.symm
      simp [h, h1]
end My

set_option maxRecDepth 100000
set_option maxHeartbeats 4000000
namespace Dl
open PySem PySem.Spec PyProof.Rows L2 My
/-! ### what a step keeps -/
abbrev PD := PyData
class Edg (R : Hp → Hp → Prop) : Prop where
  refl : ∀ H, R H H
  trans : ∀ {H H1 H2 : Hp}, R H H1 → R H1 H2 → R H H2
  same : ∀ {H H1 : Hp}, Same H H1 → R H H1
  k : ∀ {H H1 : Hp} {a : Addr} {o : HO}, R H H1 → H a = some o → (∀ kv, o ≠ .dK kv) → H1 a = some o
instance : Edg Same := ⟨Same.refl, Same.trans, fun h => h, fun r h _ => r _ _ h⟩
/-- all but the dict at T -/
def Kd (T : Addr) (H H' : Hp) : Prop := ∀ b o, H b = some o → (b = T → ∀ kv, o ≠ .dK kv) → H' b = some o
instance (T : Addr) : Edg (Kd T) := ⟨fun _ _ _ h _ => h, fun a b c o h n => b c o (a c o h n) n, fun a b o h _ => a b o h, fun r h n => r _ _ h fun _ => n⟩
section
variable {R : Hp → Hp → Prop} [Edg R] {K : PySem.W.Frag} {H H1 H2 : Hp} {a p : Addr} {o : HO} {xs vs : List V} {ds es : List PD} {v : V} {d : PD}
theorem Edg.l (r : R H H1) (h : SqL K H a xs) : SqL K H1 a xs := by
  rcases h with (h | ⟨o, h⟩) | h
  · exact .inl (.inl (Edg.k r h fun _ e => nomatch e))
  · exact .inl (.inr ⟨o, Edg.k r h fun _ e => nomatch e⟩)
  · exact .inr h
theorem Edg.t (r : R H H1) (h : SqT K H a xs) : SqT K H1 a xs := by
  rcases h with (h | ⟨o, h⟩) | h
  · exact .inl (.inl (Edg.k r h fun _ e => nomatch e))
  · exact .inl (.inr ⟨o, Edg.k r h fun _ e => nomatch e⟩)
  · exact .inr h
mutual
theorem dp_go (el : ∀ a xs, SqL K H a xs → SqL K H1 a xs) (et : ∀ a xs, SqT K H a xs → SqT K H1 a xs) : ∀ (d : PD) (v : V), Dp K H v d → Dp K H1 v d
  | .none, _, h => by cases h; exact .non
  | .bool b, _, h => by cases h; exact .bl b
  | .int b, _, h => by cases h; exact .int b
  | .str b, _, h => by cases h; exact .str b
  | .list ds, _, h => by
    cases h with
    | lst s q => exact .lst (el _ _ s) (dpa_go el et ds _ q)
  | .tuple ds, _, h => by
    cases h with
    | tup s q => exact .tup (et _ _ s) (dpa_go el et ds _ q)
  | .dict _, _, h => by cases h
theorem dpa_go (el : ∀ a xs, SqL K H a xs → SqL K H1 a xs) (et : ∀ a xs, SqT K H a xs → SqT K H1 a xs) : ∀ (ds : List PD) (vs : List V), DpAll K H vs ds → DpAll K H1 vs ds
  | [], _, h => by cases h; exact .nil
  | d :: ds, _, h => by
    cases h with
    | cons h1 h2 => exact .cons (dp_go el et d _ h1) (dpa_go el et ds _ h2)
end
theorem dpk (r : R H H1) (h : Dp K H v d) : Dp K H1 v d := dp_go (fun _ _ => Edg.l r) (fun _ _ => Edg.t r) d v h
theorem dpak (r : R H H1) (h : DpAll K H vs ds) : DpAll K H1 vs ds := dpa_go (fun _ _ => Edg.l r) (fun _ _ => Edg.t r) ds vs h
/-! ### data without lists: kept by whatever keeps tuples -/
mutual
def nl : PD → Bool
  | .list _ => false
  | .dict _ => false
  | .tuple xs => nlA xs
  | _ => true
def nlA : List PD → Bool
  | [] => true
  | d :: ds => nl d && nlA ds
end
/-- all tuples are kept -/
def Tk (H H' : Hp) : Prop := ∀ b xs, H b = some (.tup xs) ∨ (∃ o, H b = some (.frz o (.tup xs))) → H' b = some (.tup xs) ∨ (∃ o, H' b = some (.frz o (.tup xs)))
theorem Tk.refl (H : Hp) : Tk H H := fun _ _ h => h
theorem Tk.trans (a : Tk H H1) (b : Tk H1 H2) : Tk H H2 := fun c xs h => b c xs (a c xs h)
theorem Tk.of (r : R H H1) : Tk H H1 := fun b xs h => h.elim (fun h => .inl (Edg.k r h fun _ e => nomatch e)) fun ⟨o, h⟩ => .inr ⟨o, Edg.k r h fun _ e => nomatch e⟩
theorem Tk.t (r : Tk H H1) (h : SqT K H a xs) : SqT K H1 a xs := by
  rcases h with h | h
  · exact .inl (r _ _ h)
  · exact .inr h
/-- a list, a dict is changed -/
theorem Tk.putL (h : H p = some (.lst xs)) : Tk H (upd H p o) := fun b ys e => by
  have n : b ≠ p := fun z => by
    subst z
    rcases e with e | ⟨_, e⟩ <;> (rw [h] at e; cases e)
  rw [upd_ne n]
  exact e
theorem Tk.putD {kv : List (Key × V)} (h : H p = some (.dK kv)) : Tk H (upd H p o) := fun b ys e => by
  have n : b ≠ p := fun z => by
    subst z
    rcases e with e | ⟨_, e⟩ <;> (rw [h] at e; cases e)
  rw [upd_ne n]
  exact e
mutual
theorem dp_tk (e : Tk H H1) : ∀ (d : PD) (v : V), nl d = true → Dp K H v d → Dp K H1 v d
  | .none, _, _, h => by cases h; exact .non
  | .bool b, _, _, h => by cases h; exact .bl b
  | .int b, _, _, h => by cases h; exact .int b
  | .str b, _, _, h => by cases h; exact .str b
  | .list ds, _, n, h => by unfold nl at n; cases n
  | .tuple ds, _, n, h => by
    unfold nl at n
    cases h with
    | tup s q => exact .tup (e.t s) (dpa_tk e ds _ n q)
  | .dict _, _, _, h => by cases h
theorem dpa_tk (e : Tk H H1) : ∀ (ds : List PD) (vs : List V), nlA ds = true → DpAll K H vs ds → DpAll K H1 vs ds
  | [], _, _, h => by cases h; exact .nil
  | d :: ds, _, n, h => by
    unfold nlA at n
    cases h with
    | cons h1 h2 => exact .cons (dp_tk e d _ (Bool.and_eq_true_iff.mp n).1 h1) (dpa_tk e ds _ (Bool.and_eq_true_iff.mp n).2 h2)
end
theorem nlA_iff : ∀ {ds : List PD}, nlA ds = true ↔ ∀ d ∈ ds, nl d = true
  | [] => by simp [nlA]
  | d :: ds => by
    have ih := nlA_iff (ds := ds)
    simp [nlA, ih]
theorem nlA_map {α : Type} {enc : α → PD} {xs : List α} (h : ∀ x, nl (enc x) = true) : nlA (xs.map enc) = true := nlA_iff.mpr fun d hd => by
  obtain ⟨x, _, rfl⟩ := List.mem_map.mp hd
  exact h x
/-! ### lists of data -/
theorem dpa_len (h : DpAll K H vs ds) : vs.length = ds.length := by
  induction ds generalizing vs with
  | nil => cases h; rfl
  | cons d ds ih =>
    cases h with
    | cons _ h2 => exact congrArg Nat.succ (ih h2)
theorem dpa_get {i : Nat} (h : DpAll K H vs ds) (e : ds[i]? = some d) : ∃ v, vs[i]? = some v ∧ Dp K H v d := by
  induction ds generalizing vs i with
  | nil => cases e
  | cons x ds ih =>
    cases h with
    | cons h1 h2 =>
      cases i with
      | zero =>
        cases e
        exact ⟨_, rfl, h1⟩
      | succ i =>
        obtain ⟨w, q1, q2⟩ := ih h2 e
        exact ⟨w, q1, q2⟩
theorem dpa_get' {i : Nat} (h : DpAll K H vs ds) (e : vs[i]? = some v) : ∃ d, ds[i]? = some d ∧ Dp K H v d := by
  have hi : i < ds.length := by
    rw [← dpa_len h]
    exact (List.getElem?_eq_some_iff.mp e).1
  obtain ⟨w, e1, h1⟩ := dpa_get h (List.getElem?_eq_getElem hi)
  rw [e] at e1
  cases e1
  exact ⟨_, List.getElem?_eq_getElem hi, h1⟩
theorem dpa_app {ws : List V} (h : DpAll K H vs ds) (h2 : DpAll K H ws es) : DpAll K H (vs ++ ws) (ds ++ es) := by
  induction ds generalizing vs with
  | nil => cases h; exact h2
  | cons d ds ih =>
    cases h with
    | cons h1 h3 => exact .cons h1 (ih h3)
theorem dpa_take (n : Nat) (h : DpAll K H vs ds) : DpAll K H (vs.take n) (ds.take n) := by
  induction ds generalizing vs n with
  | nil => cases h; rw [List.take_nil, List.take_nil]; exact .nil
  | cons d ds ih =>
    cases h with
    | cons h1 h3 =>
      cases n with
      | zero => exact .nil
      | succ n => exact .cons h1 (ih n h3)
theorem dpa_drop (n : Nat) (h : DpAll K H vs ds) : DpAll K H (vs.drop n) (ds.drop n) := by
  induction ds generalizing vs n with
  | nil => cases h; rw [List.drop_nil, List.drop_nil]; exact .nil
  | cons d ds ih =>
    cases h with
    | cons h1 h3 =>
      cases n with
      | zero => exact .cons h1 h3
      | succ n => exact ih n h3
theorem dpa_set {i : Nat} (h : DpAll K H vs ds) (hv : Dp K H v d) : DpAll K H (vs.set i v) (ds.set i d) := by
  induction ds generalizing vs i with
  | nil => cases h; exact .nil
  | cons x ds ih =>
    cases h with
    | cons h1 h3 =>
      cases i with
      | zero => exact .cons hv h3
      | succ i => exact .cons h1 (ih h3)
theorem dpa_rev (h : DpAll K H vs ds) : DpAll K H vs.reverse ds.reverse := by
  induction ds generalizing vs with
  | nil => cases h; exact .nil
  | cons d ds ih =>
    cases h with
    | cons h1 h3 =>
      rw [List.reverse_cons, List.reverse_cons]
      exact dpa_app (ih h3) (.cons h1 .nil)
theorem dpa_mem (h : DpAll K H vs ds) (m : v ∈ vs) : ∃ d ∈ ds, Dp K H v d := by
  obtain ⟨i, hi, rfl⟩ := List.mem_iff_getElem.mp m
  obtain ⟨d, e, q⟩ := dpa_get' h (List.getElem?_eq_getElem hi)
  exact ⟨d, List.mem_of_getElem? e, q⟩
theorem dpa_bools {bs : List Bool} (h : DpAll K H vs (bs.map .bool)) : vs = bs.map V.bl := by
  induction bs generalizing vs with
  | nil => cases h; rfl
  | cons d ds ih =>
    cases h with
    | cons h1 h3 =>
      cases h1
      rw [ih h3]
      rfl
theorem dpa_ints {bs : List Int} (h : DpAll K H vs (bs.map .int)) : vs = bs.map V.int := by
  induction bs generalizing vs with
  | nil => cases h; rfl
  | cons d ds ih =>
    cases h with
    | cons h1 h3 =>
      cases h1
      rw [ih h3]
      rfl
theorem dpa_strs {bs : List Str} (h : DpAll K H vs (bs.map .str)) : vs = bs.map V.str := by
  induction bs generalizing vs with
  | nil => cases h; rfl
  | cons d ds ih =>
    cases h with
    | cons h1 h3 =>
      cases h1
      rw [ih h3]
      rfl
theorem dp_strL {ys : List Str} (h : SqL K H a (ys.map V.str)) : Dp K H (.ref a) (.list (ys.map .str)) := .lst h (dp_strs ys)
theorem dp_tupI (h : Dp K H v (.tuple ds)) : ∃ a xs, v = .ref a ∧ SqT K H a xs ∧ DpAll K H xs ds := by
  cases h with
  | tup s q => exact ⟨_, _, rfl, s, q⟩
theorem dp_lstI (h : Dp K H v (.list ds)) : ∃ a xs, v = .ref a ∧ SqL K H a xs ∧ DpAll K H xs ds := by
  cases h with
  | lst s q => exact ⟨_, _, rfl, s, q⟩
/-- a list of one's own: at a, of vs that stand for ds -/
def Lt (K : PySem.W.Frag) (H : Hp) (a : Addr) (ds : List PD) : Prop := ∃ vs, H a = some (.lst vs) ∧ DpAll K H vs ds
theorem Lt.dp (h : Lt K H a ds) : Dp K H (.ref a) (.list ds) := by
  obtain ⟨vs, e, q⟩ := h
  exact .lst (SqL.of e) q
theorem ltk (r : R H H1) (h : Lt K H a ds) : Lt K H1 a ds := by
  obtain ⟨vs, e, q⟩ := h
  exact ⟨vs, Edg.k r e (fun _ z => nomatch z), dpak r q⟩
/-- an object that H doesn't know may change -/
theorem same_mut (e : Same H H1) (h : H p = none) : Same H (upd H1 p o) := fun b u q => by
  rw [upd_ne (ne_of_none q h)]
  exact e _ _ q
theorem edg_mut {T : Addr} (e : Kd T H H1) (h : H p = none) : Kd T H (upd H1 p o) := fun b u q n => by
  rw [upd_ne (ne_of_none q h)]
  exact e _ _ q n
theorem same_newD (h : H p = none) (o : HO) : Same H (upd H p o) := same_mut (Same.refl H) h
theorem szl {n : Nat} (h : n ≤ 100000) : n ≤ sizeLine := Nat.le_trans h (by decide)
theorem szs {n : Nat} (h : n < 100000) : n < sizeLine := Nat.lt_of_lt_of_le h (by decide)
theorem iteE {c : Prop} [Decidable c] {α : Type} {a b : α} (h : c) : (if c then a else b) = a := if_pos h
end
/-! ### what evaluates to what data -/
def DE (R : Hp → Hp → Prop) (K : PySem.W.Frag) (te : TE) (σ : L2.St) (H : Hp) (d : PD) : Prop := ∀ H1, R H H1 → ∀ Q : VK, (∀ v H2, Same H1 H2 → Dp K H2 v d → Q v H2) → te σ H1 Q
/-- a new list -/
def LE (R : Hp → Hp → Prop) (K : PySem.W.Frag) (te : TE) (σ : L2.St) (H : Hp) (ds : List PD) : Prop := ∀ H1, R H H1 → ∀ Q : VK, (∀ a H2, H1 a = none → Same H1 H2 → Lt K H2 a ds → Q (.ref a) H2) → te σ H1 Q
def DA (R : Hp → Hp → Prop) (K : PySem.W.Frag) (ta : TA) (σ : L2.St) (H : Hp) (ds : List PD) : Prop := ∀ H1, R H H1 → ∀ Q : List V → Hp → Prop, (∀ vs H2, Same H1 H2 → DpAll K H2 vs ds → Q vs H2) → ta σ H1 Q
def BT (R : Hp → Hp → Prop) (K : PySem.W.Frag) (tt : TT) (σ : L2.St) (H : Hp) (b : Bool) : Prop := ∀ H1, R H H1 → ∀ Q : Bool → Hp → Prop, (∀ H2, Same H1 H2 → Q b H2) → tt σ H1 Q
def DO (R : Hp → Hp → Prop) (K : PySem.W.Frag) (to : TO) (σ : L2.St) (H : Hp) (o : Option Int) : Prop := ∀ H1, R H H1 → ∀ Q : Option Int → Hp → Prop, (∀ H2, Same H1 H2 → Q o H2) → to σ H1 Q
/-- an operation on values, on data -/
def RD (K : PySem.W.Frag) (r : R2) (d e f : PD) : Prop := ∀ H x y, Dp K H x d → Dp K H y e → ∀ Q : VK, (∀ z H2, Same H H2 → Dp K H2 z f → Q z H2) → r x y H Q
def RL (K : PySem.W.Frag) (r : R2) (d e : PD) (fs : List PD) : Prop := ∀ H x y, Dp K H x d → Dp K H y e → ∀ Q : VK, (∀ a H2, H a = none → Same H H2 → Lt K H2 a fs → Q (.ref a) H2) → r x y H Q
/-- a call on values, on data -/
def RC (K : PySem.W.Frag) (r : List V → Hp → VK → Prop) (ds : List PD) (f : PD) : Prop := ∀ H vs, DpAll K H vs ds → ∀ Q : VK, (∀ z H2, Same H H2 → Dp K H2 z f → Q z H2) → r vs H Q
def RCL (K : PySem.W.Frag) (r : List V → Hp → VK → Prop) (ds fs : List PD) : Prop := ∀ H vs, DpAll K H vs ds → ∀ Q : VK, (∀ a H2, H a = none → Same H H2 → Lt K H2 a fs → Q (.ref a) H2) → r vs H Q
section
variable {R : Hp → Hp → Prop} [Edg R] {K : PySem.W.Frag} {σ : L2.St} {H H' : Hp} {ta tb te tx : TE} {t u : TT} {x y z v : V} {r : R2} {d e f : PD} {ds es fs : List PD} {b c : Bool} {a : Addr}
theorem DE.mono (g : R H H') (h : DE R K te σ H d) : DE R K te σ H' d := fun H1 q => h H1 (Edg.trans g q)
theorem BT.mono (g : R H H') (h : BT R K t σ H b) : BT R K t σ H' b := fun H1 q => h H1 (Edg.trans g q)
theorem de_var {i : Nat} (h : σ[i]? = some (some v)) (hd : Dp K H v d) : DE R K (tVar i) σ H d := fun H1 g _ q => ⟨v, h, q v H1 (Same.refl _) (dpk g hd)⟩
theorem de_int {i : Int} : DE R K (tC (.int i)) σ H (.int i) := fun H1 _ _ q => q _ H1 (Same.refl _) (.int i)
theorem de_str {i : Str} : DE R K (tC (.str i)) σ H (.str i) := fun H1 _ _ q => q _ H1 (Same.refl _) (.str i)
theorem de_bl {i : Bool} : DE R K (tC (.bl i)) σ H (.bool i) := fun H1 _ _ q => q _ H1 (Same.refl _) (.bl i)
theorem de_non : DE R K (tC .non) σ H .none := fun H1 _ _ q => q _ H1 (Same.refl _) .non
theorem de_con (h : ∀ H, Dp K H v d) : DE R K (tC v) σ H d := fun H1 _ _ q => q _ H1 (Same.refl _) (h _)
theorem de_le (h : LE R K te σ H ds) : DE R K te σ H (.list ds) := fun H1 g _ q => h H1 g _ fun a H2 _ s l => q _ H2 s l.dp
theorem de_is (h : DE R K te σ H d) (q : d = e) : DE R K te σ H e := q ▸ h
theorem le_is (h : LE R K te σ H ds) (q : ds = es) : LE R K te σ H es := q ▸ h
theorem bt_is (h : BT R K t σ H b) (q : b = c) : BT R K t σ H c := q ▸ h
theorem da_nil : DA R K tNil σ H [] := fun H1 _ _ q => q [] H1 (Same.refl _) .nil
theorem da_cons {tr : TA} (h : DE R K te σ H d) (hr : DA R K tr σ H ds) : DA R K (tCons te tr) σ H (d :: ds) := fun H1 g _ q =>
  h H1 g _ fun v H2 s2 h2 => hr H2 (Edg.trans g (Edg.same s2)) _ fun vs H3 s3 h3 => q _ H3 (s2.trans s3) (.cons (dpk s3 h2) h3)
theorem de_tup {ta : TA} (h : DA R K ta σ H ds) (hl : ds.length ≤ 100000) : DE R K (tTup ta) σ H (.tuple ds) := fun H1 g _ q =>
  h H1 g _ fun vs H2 s2 h2 => ⟨szl (by rw [dpa_len h2]; exact hl), fun p hp => q _ _ (s2.trans (same_newD hp _)) (.tup (SqT.of upd_same) (dpak (same_newD hp _) h2))⟩
theorem le_lst {ta : TA} (h : DA R K ta σ H ds) (hl : ds.length ≤ 100000) : LE R K (tLst ta) σ H ds := fun H1 g _ q =>
  h H1 g _ fun vs H2 s2 h2 => ⟨szl (by rw [dpa_len h2]; exact hl), fun p hp => q _ _ (s2.free hp) (s2.trans (same_newD hp _)) ⟨_, upd_same, dpak (same_newD hp _) h2⟩⟩
theorem de_op (ha : DE R K ta σ H d) (hb : DE R K tb σ H e) (hr : RD K r d e f) : DE R K (tOp r ta tb) σ H f := fun H1 g _ q =>
  ha H1 g _ fun x H2 s2 h2 => hb H2 (Edg.trans g (Edg.same s2)) _ fun y H3 s3 h3 => hr H3 x y (dpk s3 h2) h3 _ fun z H4 s4 h4 => q z H4 ((s2.trans s3).trans s4) h4
theorem le_op (ha : DE R K ta σ H d) (hb : DE R K tb σ H e) (hr : RL K r d e fs) : LE R K (tOp r ta tb) σ H fs := fun H1 g _ q =>
  ha H1 g _ fun x H2 s2 h2 => hb H2 (Edg.trans g (Edg.same s2)) _ fun y H3 s3 h3 => hr H3 x y (dpk s3 h2) h3 _ fun a H4 n s4 h4 => q a H4 ((s2.trans s3).free n) ((s2.trans s3).trans s4) h4
/-! operations -/
theorem rd_i {g : Int → Int → Int} {i j : Int} : RD K (rI0 fun i j => .int (g i j)) (.int i) (.int j) (.int (g i j)) := fun H x y h1 h2 Q q => by
  cases h1; cases h2
  exact ⟨i, j, rfl, rfl, q _ H (Same.refl _) (.int _)⟩
theorem rd_ic {g : Int → Int → Int} {C : Int → Int → Prop} {i j : Int} (hc : C i j) : RD K (rI C fun i j => .int (g i j)) (.int i) (.int j) (.int (g i j)) := fun H x y h1 h2 Q q => by
  cases h1; cases h2
  exact ⟨i, j, rfl, rfl, hc, q _ H (Same.refl _) (.int _)⟩
theorem rd_b {g : Int → Int → Bool} {i j : Int} : RD K (rI0 fun i j => .bl (g i j)) (.int i) (.int j) (.bool (g i j)) := fun H x y h1 h2 Q q => by
  cases h1; cases h2
  exact ⟨i, j, rfl, rfl, q _ H (Same.refl _) (.bl _)⟩
theorem rd_ixL {i : Int} (h : atI ds i = some f) : RD K (rIxL K) (.list ds) (.int i) f := fun H x y h1 h2 Q q => by
  obtain ⟨a, xs, rfl, hs, ha⟩ := dp_lstI h1
  cases h2
  unfold atI at h
  cases e : ixN ds.length i with
  | none => rw [e] at h; cases h
  | some j =>
    rw [e] at h
    obtain ⟨v, ev, hv⟩ := dpa_get ha h
    exact ⟨a, xs, i, v, rfl, rfl, hs, by unfold atI; rw [dpa_len ha, e]; exact ev, q _ H (Same.refl _) hv⟩
theorem rd_ixT {i : Int} (h : atI ds i = some f) : RD K (rIxT K) (.tuple ds) (.int i) f := fun H x y h1 h2 Q q => by
  obtain ⟨a, xs, rfl, hs, ha⟩ := dp_tupI h1
  cases h2
  unfold atI at h
  cases e : ixN ds.length i with
  | none => rw [e] at h; cases h
  | some j =>
    rw [e] at h
    obtain ⟨v, ev, hv⟩ := dpa_get ha h
    exact ⟨a, xs, i, v, rfl, rfl, hs, by unfold atI; rw [dpa_len ha, e]; exact ev, q _ H (Same.refl _) hv⟩
theorem rd_ixS {w : Str} {i : Int} {c : Nat} (h : w.length ≤ 100000) (ha : atI w.cps.toList i = some c) : RD K rIxS (.str w) (.int i) (.str ⟨#[c]⟩) := fun H x y h1 h2 Q q => by
  cases h1; cases h2
  exact ⟨w, i, c, rfl, rfl, szl h, ha, q _ H (Same.refl _) (.str _)⟩
theorem rd_eqP (p1 : d.plain = true) (p2 : e.plain = true) (p3 : min d.depth e.depth ≤ 60) : RD K (rEqP K) d e (.bool (PyData.eqv d e)) := fun H x y h1 h2 Q q =>
  ⟨d, e, h1, h2, p1, p2, p3, q _ H (Same.refl _) (.bl _)⟩
theorem rd_neP (p1 : d.plain = true) (p2 : e.plain = true) (p3 : min d.depth e.depth ≤ 60) : RD K (rNeP K) d e (.bool (!PyData.eqv d e)) := fun H x y h1 h2 Q q =>
  ⟨d, e, h1, h2, p1, p2, p3, q _ H (Same.refl _) (.bl _)⟩
theorem rd_eqS {i j : Str} : RD K rEq (.str i) (.str j) (.bool (decide (i = j))) := fun H x y h1 h2 Q q => by
  cases h1; cases h2
  refine ⟨rfl, ?_⟩
  have e : decide (V.str i = V.str j) = decide (i = j) := by
    by_cases h : i = j
    · rw [decide_eq_true h, decide_eq_true (by rw [h])]
    · rw [decide_eq_false h, decide_eq_false fun z => h (V.str.inj z)]
  rw [e]
  exact q _ H (Same.refl _) (.bl _)
theorem rd_neS {i j : Str} : RD K rNe (.str i) (.str j) (.bool (!decide (i = j))) := fun H x y h1 h2 Q q => by
  cases h1; cases h2
  refine ⟨rfl, ?_⟩
  have e : decide (V.str i = V.str j) = decide (i = j) := by
    by_cases h : i = j
    · rw [decide_eq_true h, decide_eq_true (by rw [h])]
    · rw [decide_eq_false h, decide_eq_false fun z => h (V.str.inj z)]
  rw [e]
  exact q _ H (Same.refl _) (.bl _)
theorem rd_eqI {i j : Int} : RD K rEq (.int i) (.int j) (.bool (decide (i = j))) := fun H x y h1 h2 Q q => by
  cases h1; cases h2
  refine ⟨rfl, ?_⟩
  have e : decide (V.int i = V.int j) = decide (i = j) := by
    by_cases h : i = j
    · rw [decide_eq_true h, decide_eq_true (by rw [h])]
    · rw [decide_eq_false h, decide_eq_false fun z => h (V.int.inj z)]
  rw [e]
  exact q _ H (Same.refl _) (.bl _)
theorem rd_neI {i j : Int} : RD K rNe (.int i) (.int j) (.bool (!decide (i = j))) := fun H x y h1 h2 Q q => by
  cases h1; cases h2
  refine ⟨rfl, ?_⟩
  have e : decide (V.int i = V.int j) = decide (i = j) := by
    by_cases h : i = j
    · rw [decide_eq_true h, decide_eq_true (by rw [h])]
    · rw [decide_eq_false h, decide_eq_false fun z => h (V.int.inj z)]
  rw [e]
  exact q _ H (Same.refl _) (.bl _)
theorem rd_eqB {i j : Bool} : RD K rEq (.bool i) (.bool j) (.bool (i == j)) := fun H x y h1 h2 Q q => by
  cases h1; cases h2
  refine ⟨rfl, ?_⟩
  have e : decide (V.bl i = V.bl j) = (i == j) := by cases i <;> cases j <;> rfl
  rw [e]
  exact q _ H (Same.refl _) (.bl _)
theorem rd_neB {i j : Bool} : RD K rNe (.bool i) (.bool j) (.bool (i != j)) := fun H x y h1 h2 Q q => by
  cases h1; cases h2
  refine ⟨rfl, ?_⟩
  have e : (!decide (V.bl i = V.bl j)) = (i != j) := by cases i <;> cases j <;> rfl
  rw [e]
  exact q _ H (Same.refl _) (.bl _)
theorem rd_inL {neg : Bool} {xs : List PD} (p1 : PyData.plainAll xs = true) (p2 : d.plain = true) (p3 : min (PyData.depthAll xs) d.depth ≤ 60) : RD K (rInP K neg) d (.list xs) (.bool (if neg then !(xs.any fun y => PyData.eqv y d) else xs.any fun y => PyData.eqv y d)) := fun H x y h1 h2 Q q =>
  ⟨xs, d, .inl h2, h1, p1, p2, p3, q _ H (Same.refl _) (.bl _)⟩
theorem rd_inT {neg : Bool} {xs : List PD} (p1 : PyData.plainAll xs = true) (p2 : d.plain = true) (p3 : min (PyData.depthAll xs) d.depth ≤ 60) : RD K (rInP K neg) d (.tuple xs) (.bool (if neg then !(xs.any fun y => PyData.eqv y d) else xs.any fun y => PyData.eqv y d)) := fun H x y h1 h2 Q q =>
  ⟨xs, d, .inr h2, h1, p1, p2, p3, q _ H (Same.refl _) (.bl _)⟩
theorem rd_catT (hl : ds.length + es.length ≤ 100000) : RD K (rCatA K) (.tuple ds) (.tuple es) (.tuple (ds ++ es)) := fun H x y h1 h2 Q q => by
  obtain ⟨a, xs, rfl, hs, ha⟩ := dp_tupI h1
  obtain ⟨a2, xs2, rfl, hs2, ha2⟩ := dp_tupI h2
  have hz : xs.length + xs2.length ≤ sizeLine := szl (by rw [dpa_len ha, dpa_len ha2]; exact hl)
  refine ⟨a, a2, xs, xs2, rfl, rfl, hs, hs2, hz, fun z => ?_, fun _ z => ?_, fun _ _ p hp => ?_⟩
  · subst z
    cases ha
    exact q _ H (Same.refl _) h2
  · subst z
    cases ha2
    rw [List.append_nil] at q
    exact q _ H (Same.refl _) h1
  · exact q _ _ (same_newD hp _) (.tup (SqT.of upd_same) (dpak (same_newD hp _) (dpa_app ha ha2)))
theorem rd_catS {i j : Str} (hl : i.length + j.length ≤ 100000) : RD K (fun x y H Q => ∃ i j, x = V.str i ∧ y = V.str j ∧ i.length + j.length ≤ sizeLine ∧ Q (V.str (i ++ j)) H) (.str i) (.str j) (.str (i ++ j)) := fun H x y h1 h2 Q q => by
  cases h1; cases h2
  exact ⟨i, j, rfl, rfl, szl hl, q _ H (Same.refl _) (.str _)⟩
/-! tests -/
theorem bt_test (h : DE R K te σ H (.bool b)) : BT R K (tTest te) σ H b := fun H1 g _ q => h H1 g _ fun v H2 s h2 => by
  cases h2
  exact ⟨b, rfl, q H2 s⟩
theorem bt_B (h : DE R K te σ H (.bool b)) : BT R K (tB te) σ H b := fun H1 g _ q => h H1 g _ fun v H2 s h2 => by
  cases h2
  exact ⟨b, rfl, q H2 s⟩
theorem bt_and (h1 : BT R K t σ H b) (h2 : b = true → BT R K u σ H c) : BT R K (tAnd t u) σ H (b && c) := fun H1 g Q q => h1 H1 g _ fun H2 s2 => by
  cases b with
  | true => exact iteT (h2 rfl H2 (Edg.trans g (Edg.same s2)) Q fun H3 s3 => q H3 (s2.trans s3))
  | false => exact iteF (q H2 s2)
theorem bt_or (h1 : BT R K t σ H b) (h2 : b = false → BT R K u σ H c) : BT R K (tOr t u) σ H (b || c) := fun H1 g Q q => h1 H1 g _ fun H2 s2 => by
  cases b with
  | false => exact iteF (h2 rfl H2 (Edg.trans g (Edg.same s2)) Q fun H3 s3 => q H3 (s2.trans s3))
  | true => exact iteT (q H2 s2)
theorem bt_not (h1 : BT R K t σ H b) : BT R K (tNot t) σ H (!b) := fun H1 g _ q => h1 H1 g _ fun H2 s2 => q H2 s2
theorem bt_tru (h : DE R K te σ H d) (ht : ∀ H v, Dp K H v d → TruV K v H b) : BT R K (fun σ H Q => te σ H fun x H' => ∃ k, TruV K x H' k ∧ Q k H') σ H b := fun H1 g _ q => h H1 g _ fun v H2 s h2 => ⟨b, ht H2 v h2, q H2 s⟩
theorem tru_lst (H : Hp) (v : V) (h : Dp K H v (.list ds)) : TruV K v H (!ds.isEmpty) := by
  obtain ⟨a, xs, rfl, hs, ha⟩ := dp_lstI h
  refine .inl ⟨xs, hs, ?_⟩
  cases ha <;> rfl
theorem tru_tup (H : Hp) (v : V) (h : Dp K H v (.tuple ds)) : TruV K v H (!ds.isEmpty) := by
  obtain ⟨a, xs, rfl, hs, ha⟩ := dp_tupI h
  refine .inr (.inl ⟨xs, hs, ?_⟩)
  cases ha <;> rfl
theorem de_andV (h1 : DE R K ta σ H (.bool b)) (h2 : b = true → DE R K tb σ H (.bool c)) : DE R K (tAndV ta tb) σ H (.bool (b && c)) := fun H1 g Q q => h1 H1 g _ fun v H2 s2 hv => by
  cases hv
  refine ⟨b, rfl, ?_⟩
  cases b with
  | true => exact iteT (h2 rfl H2 (Edg.trans g (Edg.same s2)) Q fun v H3 s3 => q v H3 (s2.trans s3))
  | false => exact iteF (q _ H2 s2 (.bl _))
theorem de_orV (h1 : DE R K ta σ H (.bool b)) (h2 : b = false → DE R K tb σ H (.bool c)) : DE R K (tOrV ta tb) σ H (.bool (b || c)) := fun H1 g Q q => h1 H1 g _ fun v H2 s2 hv => by
  cases hv
  refine ⟨b, rfl, ?_⟩
  cases b with
  | false => exact iteF (h2 rfl H2 (Edg.trans g (Edg.same s2)) Q fun v H3 s3 => q v H3 (s2.trans s3))
  | true => exact iteT (q _ H2 s2 (.bl _))
theorem de_notV (h1 : DE R K ta σ H (.bool b)) : DE R K (tNotV ta) σ H (.bool (!b)) := fun H1 g Q q => h1 H1 g _ fun v H2 s2 hv => by
  cases hv
  exact ⟨b, rfl, q _ H2 s2 (.bl _)⟩
theorem de_if (h : BT R K t σ H b) (h1 : b = true → DE R K ta σ H d) (h2 : b = false → DE R K tb σ H e) : DE R K (tIf t ta tb) σ H (if b then d else e) := fun H1 g Q q => h H1 g _ fun H2 s2 => by
  cases b with
  | true => exact iteT (h1 rfl H2 (Edg.trans g (Edg.same s2)) Q fun v H3 s3 => q v H3 (s2.trans s3))
  | false => exact iteF (h2 rfl H2 (Edg.trans g (Edg.same s2)) Q fun v H3 s3 => q v H3 (s2.trans s3))
/-- a < b < c: c is asked only where the first holds -/
theorem bt_chain {r' : R2} {tc : TE} {g : PD} (ha : DE R K ta σ H d) (hb : DE R K tb σ H e) (hr : RD K r d e (.bool b)) (hc : b = true → DE R K tc σ H f) (hr' : b = true → RD K r' e f (.bool c)) : BT R K (tTest (tChain r r' ta tb tc)) σ H (b && c) := fun H1 g _ q =>
  ha H1 g _ fun x H2 s2 h2 => hb H2 (Edg.trans g (Edg.same s2)) _ fun y H3 s3 h3 => hr H3 x y (dpk s3 h2) h3 _ fun z H4 s4 h4 => by
    cases h4
    have s24 := (s2.trans s3).trans s4
    refine ⟨b, rfl, ?_⟩
    cases b with
    | false => exact iteF ⟨false, rfl, q H4 s24⟩
    | true =>
      refine iteT (hc rfl H4 (Edg.trans g (Edg.same s24)) _ fun w H5 s5 h5 => ?_)
      refine hr' rfl H5 y w (dpk (s4.trans s5) h3) h5 _ fun z H6 s6 h6 => ?_
      cases h6
      exact ⟨c, rfl, q H6 ((s24.trans s5).trans s6)⟩
/-! slices -/
theorem do_none : DO R K tNoPart σ H none := fun H1 _ _ q => q H1 (Same.refl _)
theorem do_some {i : Int} (h : DE R K te σ H (.int i)) : DO R K (tPart te) σ H (some i) := fun H1 g _ q => h H1 g _ fun v H2 s h2 => by
  cases h2
  exact ⟨i, rfl, q H2 s⟩
def cutD {α : Type} (xs : List α) (lo hi : Option Int) : List α := (xs.drop (HT.sIx xs.length 0 lo)).take (HT.sIx xs.length xs.length hi - HT.sIx xs.length 0 lo)
theorem dpa_cut {vs : List V} {lo hi : Option Int} (h : DpAll K H vs ds) : DpAll K H (cutV vs lo hi) (cutD ds lo hi) := by
  unfold cutV cutD
  rw [dpa_len h]
  exact dpa_take _ (dpa_drop _ h)
theorem le_slL {tl th : TO} {lo hi : Option Int} (h : DE R K te σ H (.list ds)) (h1 : DO R K tl σ H lo) (h2 : DO R K th σ H hi) : LE R K (tSl (rSlL K) te tl th) σ H (cutD ds lo hi) := fun H1 g _ q =>
  h H1 g _ fun v H2 s2 hv => h1 H2 (Edg.trans g (Edg.same s2)) _ fun H3 s3 => h2 H3 (Edg.trans g (Edg.same (s2.trans s3))) _ fun H4 s4 => by
    obtain ⟨a, xs, rfl, hs, ha⟩ := dp_lstI (dpk (s3.trans s4) hv)
    have s := (s2.trans s3).trans s4
    exact ⟨a, xs, rfl, hs, fun p hp => q _ _ (s.free hp) (s.trans (same_newD hp _)) ⟨_, upd_same, dpak (same_newD hp _) (dpa_cut ha)⟩⟩
theorem de_slT {tl th : TO} {lo hi : Option Int} (h : DE R K te σ H (.tuple ds)) (h1 : DO R K tl σ H lo) (h2 : DO R K th σ H hi) : DE R K (tSl (rSlA K) te tl th) σ H (.tuple (cutD ds lo hi)) := fun H1 g _ q =>
  h H1 g _ fun v H2 s2 hv => h1 H2 (Edg.trans g (Edg.same s2)) _ fun H3 s3 => h2 H3 (Edg.trans g (Edg.same (s2.trans s3))) _ fun H4 s4 => by
    obtain ⟨a, xs, rfl, hs, ha⟩ := dp_tupI (dpk (s3.trans s4) hv)
    have s := (s2.trans s3).trans s4
    refine ⟨a, xs, rfl, hs, fun z => ?_, fun _ p hp => q _ _ (s.trans (same_newD hp _)) (.tup (SqT.of upd_same) (dpak (same_newD hp _) (dpa_cut ha)))⟩
    refine q _ H4 s ?_
    rw [dpa_len ha] at z
    have e : cutD ds lo hi = ds := by
      unfold cutD
      rw [z.1, z.2]
      simp
    rw [e]
    exact .tup hs ha
theorem de_slS {tl th : TO} {w : Str} {lo hi : Option Int} (h : DE R K te σ H (.str w)) (h1 : DO R K tl σ H lo) (h2 : DO R K th σ H hi) (hw : w.length ≤ 100000) : DE R K (tSl rSlS te tl th) σ H (.str (cutS w lo hi)) := fun H1 g _ q =>
  h H1 g _ fun v H2 s2 hv => h1 H2 (Edg.trans g (Edg.same s2)) _ fun H3 s3 => h2 H3 (Edg.trans g (Edg.same (s2.trans s3))) _ fun H4 s4 => by
    cases hv
    exact ⟨w, rfl, szl hw, q _ H4 ((s2.trans s3).trans s4) (.str _)⟩
/-! calls -/
theorem de_cb {r : List V → Hp → VK → Prop} {ta : TA} (h : DA R K ta σ H ds) (hr : RC K r ds f) : DE R K (tCB r ta) σ H f := fun H1 g _ q =>
  h H1 g _ fun vs H2 s2 h2 => hr H2 vs h2 _ fun z H3 s3 h3 => q z H3 (s2.trans s3) h3
theorem le_cb {r : List V → Hp → VK → Prop} {ta : TA} (h : DA R K ta σ H ds) (hr : RCL K r ds fs) : LE R K (tCB r ta) σ H fs := fun H1 g _ q =>
  h H1 g _ fun vs H2 s2 h2 => hr H2 vs h2 _ fun a H3 n s3 h3 => q a H3 (s2.free n) (s2.trans s3) h3
/-- a def on data that tells data -/
def spD (K : PySem.W.Frag) (G : List PD → PD → Prop) : Sp := fun vs H Q _ => ∃ ds d, DpAll K H vs ds ∧ G ds d ∧ ∀ v H', Same H H' → Dp K H' v d → Q v H'
theorem de_call {G : List PD → PD → Prop} {E : XK} {ta : TA} (h : DA R K ta σ H ds) (hg : G ds f) : DE R K (tCall (spD K G) [] E ta) σ H f := fun H1 g _ q =>
  h H1 g _ fun vs H2 s2 h2 => ⟨ds, f, by rw [List.append_nil]; exact h2, hg, fun v H3 s3 h3 => q v H3 (s2.trans s3) h3⟩
/-- .. a new list -/
def spDL (K : PySem.W.Frag) (G : List PD → List PD → Prop) : Sp := fun vs H Q _ => ∃ ds d, DpAll K H vs ds ∧ G ds d ∧ ∀ a H', H a = none → Same H H' → Lt K H' a d → Q (.ref a) H'
theorem le_call {G : List PD → List PD → Prop} {E : XK} {ta : TA} (h : DA R K ta σ H ds) (hg : G ds fs) : LE R K (tCall (spDL K G) [] E ta) σ H fs := fun H1 g _ q =>
  h H1 g _ fun vs H2 s2 h2 => ⟨ds, fs, by rw [List.append_nil]; exact h2, hg, fun v H3 n s3 h3 => q v H3 (s2.free n) (s2.trans s3) h3⟩
theorem rc_lenS {w : Str} (h : w.length ≤ 100000) : RC K (fun vs H Q => ∃ z, vs = [V.str z] ∧ z.length ≤ sizeLine ∧ Q (.int z.length) H) [.str w] (.int w.length) := fun H vs hv Q q => by
  cases hv with
  | cons h1 h2 =>
    cases h1; cases h2
    exact ⟨w, rfl, szl h, q _ H (Same.refl _) (.int _)⟩
end
end Dl

set_option maxRecDepth 100000
set_option maxHeartbeats 4000000
namespace Dl
open PySem PySem.Spec PyProof.Rows L2 My
/-! ### what is walked -/
def SrcY (K : PySem.W.Frag) (H2 : Hp) (ds : List PD) : Nat → Hp → V → Hp → Prop := fun i H x H' => Same H H' ∧ ∀ (R' : Hp → Hp → Prop) [Edg R'], R' H2 H → ∃ d, ds[i]? = some d ∧ Dp K H' x d
def Src (R : Hp → Hp → Prop) (K : PySem.W.Frag) (wi : TI) (σ : L2.St) (H : Hp) (ds : List PD) : Prop := ∀ H1, R H H1 → ∀ Q : It → Hp → Prop,
  (∀ J H2 (G : Hp → Prop), Same H1 H2 → (∀ (R' : Hp → Hp → Prop) [Edg R'] H', R' H2 H' → G H') → Walk J ds.length G (SrcY K H2 ds) → Q J H2) → wi σ H1 Q
section
variable {R : Hp → Hp → Prop} [Edg R] {K : PySem.W.Frag} {σ : L2.St} {H H' : Hp} {ta tb te tx : TE} {tt : TT} {x y z v : V} {d e f : PD} {ds es fs : List PD} {b c : Bool} {a : Addr}
theorem src_list (h : DE R K te σ H (.list ds)) : Src R K (iList K te) σ H ds := fun H1 g Q q => h H1 g _ fun v H2 s2 hv => by
  obtain ⟨a, ys, rfl, hs, ha⟩ := dp_lstI hv
  refine ⟨a, rfl, ⟨ys, hs⟩, q _ H2 (fun H => SqL K H a ys) s2 (fun R' _ H' r => Edg.l r hs) ?_⟩
  rw [← dpa_len ha]
  refine walk_list.mono (fun _ h => h) fun i H x H' _ _ ⟨e, hx⟩ => ?_
  subst e
  refine ⟨Same.refl _, fun R' _ r => ?_⟩
  obtain ⟨d, e, hd⟩ := dpa_get' ha hx
  exact ⟨d, e, dpk r hd⟩
theorem src_tup (h : DE R K te σ H (.tuple ds)) : Src R K (iTup K te) σ H ds := fun H1 g Q q => h H1 g _ fun v H2 s2 hv => by
  obtain ⟨a, ys, rfl, hs, ha⟩ := dp_tupI hv
  refine ⟨a, rfl, ⟨ys, hs⟩, q _ H2 (fun H => SqT K H a ys) s2 (fun R' _ H' r => Edg.t r hs) ?_⟩
  rw [← dpa_len ha]
  refine walk_tup.mono (fun _ h => h) fun i H x H' _ _ ⟨e, hx⟩ => ?_
  subst e
  refine ⟨Same.refl _, fun R' _ r => ?_⟩
  obtain ⟨d, e, hd⟩ := dpa_get' ha hx
  exact ⟨d, e, dpk r hd⟩
def signs (w : Str) : List PD := w.cps.toList.map fun c => .str ⟨#[c]⟩
theorem src_str {w : Str} (h : DE R K te σ H (.str w)) : Src R K (iStr te) σ H (signs w) := fun H1 g Q q => h H1 g _ fun v H2 s2 hv => by
  cases hv
  refine ⟨w, rfl, q _ H2 (fun _ => True) s2 (fun _ _ _ _ => trivial) ?_⟩
  have e : (signs w).length = w.cps.size := by unfold signs; rw [List.length_map, Array.length_toList]
  rw [e]
  refine walk_str.mono (fun _ h => h) fun i H x H' _ _ ⟨e, c, hc, ex⟩ => ?_
  subst e ex
  refine ⟨Same.refl _, fun R' _ r => ⟨_, ?_, .str _⟩⟩
  unfold signs
  rw [List.getElem?_map, Array.getElem?_toList, hc]
  rfl
def upto (n : Nat) : List PD := (List.range n).map fun (i : Nat) => .int (i : Int)
theorem src_r1 {n : Nat} (h : DA R K (tCons te tNil) σ H [.int (n : Int)]) (hn : n ≤ 100000) : Src R K (iRng1 (tCons te tNil)) σ H (upto n) := fun H1 g Q q => h H1 g _ fun vs H2 s2 hv => by
  cases hv with
  | cons h1 h2 =>
    cases h1; cases h2
    refine ⟨(n : Int), rfl, by omega, by omega, ?_⟩
    have e : ((n : Int)).toNat = n := Int.toNat_natCast n
    rw [e]
    refine q _ H2 (fun _ => True) s2 (fun _ _ _ _ => trivial) ?_
    have e : (upto n).length = n := by unfold upto; rw [List.length_map, List.length_range]
    rw [e]
    refine walk_range.mono (fun _ h => h) fun i H x H' hi _ ⟨e, ex⟩ => ?_
    subst e ex
    refine ⟨Same.refl _, fun R' _ r => ⟨_, ?_, .int _⟩⟩
    unfold upto
    rw [List.getElem?_map, List.getElem?_range hi]
    show some (PyData.int (i : Int)) = _
    rw [Int.zero_add]
theorem src_enum (h : DA R K (tCons te tNil) σ H [.list ds]) : Src R K (iEnum K (tCons te tNil)) σ H (ds.zipIdx.map fun p => .tuple [.int (p.2 : Int), p.1]) := fun H1 g Q q => h H1 g _ fun vs H2 s2 hv => by
  cases hv with
  | cons h1 h2 =>
    cases h2
    obtain ⟨a, ys, rfl, hs, ha⟩ := dp_lstI h1
    refine ⟨a, ys, rfl, hs, q _ H2 (fun H => SqL K H a ys) s2 (fun R' _ H' r => Edg.l r hs) ?_⟩
    have e : (ds.zipIdx.map fun p => PyData.tuple [.int (p.2 : Int), p.1]).length = ys.length := by rw [List.length_map, List.length_zipIdx, dpa_len ha]
    rw [e]
    refine walk_enum.mono (fun _ h => h) fun i H x H' hi _ ⟨T, u, w, e1, e2, e3, e4, e5⟩ => ?_
    subst e1 e3
    refine ⟨same_newD e2 _, fun R' _ r => ?_⟩
    obtain ⟨d, e, hd⟩ := dpa_get' ha e5
    cases e4
    refine ⟨_, by rw [List.getElem?_map, List.getElem?_zipIdx, e]; rfl, .tup (SqT.of upd_same) (.cons ?_ (.cons ?_ .nil))⟩
    · rw [Nat.zero_add]
      exact .int _
    · exact dpk (same_newD e2 _) (dpk r hd)
/-! ### comprehensions -/
theorem filt_take {α : Type} {xs : List α} {c : α → Bool} {j : Nat} {x : α} (h : xs[j]? = some x) : (xs.take (j + 1)).filter c = (xs.take j).filter c ++ (if c x then [x] else []) := by
  rw [List.take_add_one, h, List.filter_append]
  congr 1
  show List.filter c [x] = _
  rw [List.filter_cons, List.filter_nil]
theorem lc_turn {α : Type} {xs : List α} {enc f : α → PD} {cnd : α → Bool} {j : Nat} {x : α} {σ2 : L2.St} {H2 H4 : Hp} {D : Addr} (hD : H2 D = none) (hx : xs[j]? = some x) (hn : xs.length ≤ 50000) (p : Same H2 H4 ∧ Lt K H4 D (((xs.take j).filter cnd).map f))
    (hc : BT R K tt σ2 H4 (cnd x)) (he : cnd x = true → DE R K te σ2 H4 (f x)) (hf : ∀ x ∈ xs, cnd x = true → nl (f x) = true) :
    tt σ2 H4 fun b H3 => if b = true then te σ2 H3 fun y H5 => ∃ acc, H5 D = some (.lst acc) ∧ acc.length < sizeLine ∧ (Same H2 (upd H5 D (.lst (acc ++ [y]))) ∧ Lt K (upd H5 D (.lst (acc ++ [y]))) D (((xs.take (j + 1)).filter cnd).map f))
      else (Same H2 H3 ∧ Lt K H3 D (((xs.take (j + 1)).filter cnd).map f)) := by
  obtain ⟨sm, acc, eD, ha⟩ := p
  rw [filt_take hx]
  refine hc H4 (Edg.refl _) _ fun H5 s5 => ?_
  cases e : cnd x with
  | false =>
    refine iteF ⟨sm.trans s5, ?_⟩
    show Lt K H5 D ((List.filter cnd (List.take j xs) ++ []).map f)
    rw [List.append_nil]
    exact ⟨acc, s5 _ _ eD, dpak s5 ha⟩
  | true =>
    refine iteT (he e H5 (Edg.same s5) _ fun z H6 s6 hz => ⟨acc, s6 _ _ (s5 _ _ eD), ?_, same_mut ((sm.trans s5).trans s6) hD, _, upd_same, ?_⟩)
    · have h1 := dpa_len ha
      rw [List.length_map] at h1
      have h2 := List.length_filter_le cnd (xs.take j)
      rw [List.length_take] at h2
      exact szs (by omega)
    · have tk : Tk H6 (upd H6 D (.lst (acc ++ [z]))) := Tk.putL (s6 _ _ (s5 _ _ eD))
      rw [List.map_append]
      refine dpa_app (dpa_tk tk _ _ (nlA_iff.mpr fun d hd => ?_) (dpak (s5.trans s6) ha)) (.cons (dp_tk tk _ _ (hf x (List.mem_of_getElem? hx) e) hz) .nil)
      obtain ⟨y, hy, rfl⟩ := List.mem_map.mp hd
      obtain ⟨h1, h2⟩ := List.mem_filter.mp hy
      exact hf y (List.mem_of_mem_take h1) h2
theorem le_lc {α : Type} {xs : List α} {enc f : α → PD} {cnd : α → Bool} {i : Nat} {vs : List Nat} {wi : TI} (hs : Src R K wi σ H (xs.map enc)) (hn : xs.length ≤ 50000) (hw : ∀ w : V, wipe ((wipe σ vs).set i (some w)) vs = wipe σ vs)
    (hb : ∀ x ∈ xs, ∀ w H', R H H' → Dp K H' w (enc x) → BT R K tt ((wipe σ vs).set i (some w)) H' (cnd x) ∧ (cnd x = true → DE R K te ((wipe σ vs).set i (some w)) H' (f x))) (hf : ∀ x ∈ xs, cnd x = true → nl (f x) = true) :
    LE R K (tLc wi (gName i) tt te vs) σ H ((xs.filter cnd).map f) := fun H1 g Q q => hs H1 g _ fun J H2 G s2 hG W D hD => by
  have hl : (xs.map enc).length = xs.length := List.length_map ..
  refine lc_it W (fun j H' => Same H2 H' ∧ Lt K H' D (((xs.take j).filter cnd).map f)) ⟨same_newD hD _, [], upd_same, .nil⟩ (fun j H' _ p => hG Same H' p.1) ?_ ?_
  · rintro j v H3 H4 hj ⟨sm, acc, eD, ha⟩ ⟨s34, hY⟩
    obtain ⟨d, ed, hd⟩ := hY Same sm
    rw [List.getElem?_map] at ed
    cases ex : xs[j]? with
    | none => rw [ex] at ed; cases ed
    | some x =>
      rw [ex] at ed
      cases ed
      obtain ⟨hc, he⟩ := hb x (List.mem_of_getElem? ex) v H4 (Edg.trans g (Edg.same ((s2.trans sm).trans s34))) hd
      exact ⟨hw v, lc_turn (enc := enc) hD ex hn ⟨sm.trans s34, acc, s34 _ _ eD, dpak s34 ha⟩ hc he hf⟩
  · intro H' p
    rw [hl, List.take_length] at p
    exact q D H' (s2.free hD) (s2.trans p.1) p.2
theorem le_lc2 {α : Type} {xs : List α} {e1 e2 f : α → PD} {cnd : α → Bool} {i i' : Nat} {vs : List Nat} {wi : TI} (hs : Src R K wi σ H (xs.map fun x => .tuple [e1 x, e2 x])) (hn : xs.length ≤ 50000) (hw : ∀ w w' : V, wipe (((wipe σ vs).set i (some w)).set i' (some w')) vs = wipe σ vs)
    (hb : ∀ x ∈ xs, ∀ w w' H', R H H' → Dp K H' w (e1 x) → Dp K H' w' (e2 x) → BT R K tt (((wipe σ vs).set i (some w)).set i' (some w')) H' (cnd x) ∧ (cnd x = true → DE R K te (((wipe σ vs).set i (some w)).set i' (some w')) H' (f x))) (hf : ∀ x ∈ xs, cnd x = true → nl (f x) = true) :
    LE R K (tLc wi (gTup K 2 (gCons (gName i) (gCons (gName i') gNil))) tt te vs) σ H ((xs.filter cnd).map f) := fun H1 g Q q => hs H1 g _ fun J H2 G s2 hG W D hD => by
  have hl : (xs.map fun x => PyData.tuple [e1 x, e2 x]).length = xs.length := List.length_map ..
  refine lc_it W (fun j H' => Same H2 H' ∧ Lt K H' D (((xs.take j).filter cnd).map f)) ⟨same_newD hD _, [], upd_same, .nil⟩ (fun j H' _ p => hG Same H' p.1) ?_ ?_
  · rintro j v H3 H4 hj ⟨sm, acc, eD, ha⟩ ⟨s34, hY⟩
    obtain ⟨d, ed, hd⟩ := hY Same sm
    rw [List.getElem?_map] at ed
    cases ex : xs[j]? with
    | none => rw [ex] at ed; cases ed
    | some x =>
      rw [ex] at ed
      cases ed
      obtain ⟨a, ys, rfl, ht, hy⟩ := dp_tupI hd
      cases hy with
      | @cons w _ _ _ h1 hy =>
        cases hy with
        | @cons w' _ _ _ h2 hy =>
          cases hy
          obtain ⟨hc, he⟩ := hb x (List.mem_of_getElem? ex) w w' H4 (Edg.trans g (Edg.same ((s2.trans sm).trans s34))) h1 h2
          exact ⟨a, _, rfl, ht, rfl, w, [w'], rfl, w', [], rfl, rfl, hw w w', lc_turn (enc := fun x => PyData.tuple [e1 x, e2 x]) hD ex hn ⟨sm.trans s34, acc, s34 _ _ eD, dpak s34 ha⟩ hc he hf⟩
  · intro H' p
    rw [hl, List.take_length] at p
    exact q D H' (s2.free hD) (s2.trans p.1) p.2
theorem bt_yes : BT R K tYes σ H true := fun H1 _ _ q => q H1 (Same.refl _)
/-! ### statements -/
variable {D : Ends} {tu tw : TS}
theorem s_set (R : Hp → Hp → Prop) [Edg R] {i : Nat} (h : DE R K te σ H d) (k : ∀ v H1, Same H H1 → Dp K H1 v d → D.nx (σ.set i (some v)) H1) : tAsg te (gName i) D σ H := h H (Edg.refl H) _ fun v H1 s hv => k v H1 s hv
theorem s_setL (R : Hp → Hp → Prop) [Edg R] {i : Nat} (h : LE R K te σ H ds) (k : ∀ a H1, H a = none → Same H H1 → Lt K H1 a ds → D.nx (σ.set i (some (.ref a))) H1) : tAsg te (gName i) D σ H := h H (Edg.refl H) _ k
theorem s_ret (R : Hp → Hp → Prop) [Edg R] (h : DE R K te σ H d) (k : ∀ v H1, Same H H1 → Dp K H1 v d → D.rt v H1) : tRet te D σ H := h H (Edg.refl H) _ k
theorem s_retL (R : Hp → Hp → Prop) [Edg R] (h : LE R K te σ H ds) (k : ∀ a H1, H a = none → Same H H1 → Lt K H1 a ds → D.rt (.ref a) H1) : tRet te D σ H := h H (Edg.refl H) _ k
theorem s_if (R : Hp → Hp → Prop) [Edg R] (h : BT R K tt σ H b) (h1 : b = true → ∀ H1, Same H H1 → tu D σ H1) (h2 : b = false → ∀ H1, Same H H1 → tw D σ H1) : tIfS tt tu tw D σ H := h H (Edg.refl H) _ fun H1 s => by
  cases b with
  | true => exact iteT (h1 rfl H1 s)
  | false => exact iteF (h2 rfl H1 s)
theorem s_drop (R : Hp → Hp → Prop) [Edg R] (h : DE R K te σ H d) (k : ∀ H1, Same H H1 → D.nx σ H1) : tDrop te D σ H := h H (Edg.refl H) _ fun _ H1 s _ => k H1 s
/-- xs.append(e), xs one's own -/
theorem s_app (R : Hp → Hp → Prop) [Edg R] {l : Addr} (hl : Lt K H l ds) (ha : σ[i]? = some (some (.ref l))) (h : DE R K te σ H d) (hz : ds.length < 100000) (n1 : nlA ds = true) (n2 : nl d = true) (k : ∀ H1, Same H H1 → ∀ o, Lt K (upd H1 l o) l (ds ++ [d]) → Tk H1 (upd H1 l o) → D.nx σ (upd H1 l o)) :
    tDrop (tBM K "list" rAppend (tVar i) (tCons te tNil)) D σ H := by
  obtain ⟨vs, e, hv⟩ := hl
  refine ⟨_, ha, .inl ⟨rfl, _, SqL.of e⟩, ?_⟩
  refine h H (Edg.refl H) _ fun v H1 s h1 => ⟨l, vs, v, rfl, rfl, s _ _ e, szs (by rw [dpa_len hv]; exact hz), ?_⟩
  have tk : Tk H1 (upd H1 l (.lst (vs ++ [v]))) := Tk.putL (s _ _ e)
  exact k H1 s _ ⟨_, upd_same, dpa_app (dpa_tk tk _ _ n1 (dpak s hv)) (.cons (dp_tk tk _ _ n2 h1) .nil)⟩ tk
/-! loops -/
/-- R': what the loop keeps; Pv by the turn, the slots and the heap -/
theorem s_for (R : Hp → Hp → Prop) [Edg R] (R' : Hp → Hp → Prop) [Edg R'] {α : Type} {xs : List α} {enc : α → PD} {j : Nat} {wi : TI} (hs : Src R K wi σ H (xs.map enc))
    (k : ∀ H1, Same H H1 → ∃ Pv : Nat → L2.St → Hp → Prop, Pv 0 σ H1 ∧ (∀ i σ' H', Pv i σ' H' → R' H1 H') ∧
      (∀ i x w σ' H' H2, xs[i]? = some x → Pv i σ' H' → Same H' H2 → Dp K H2 w (enc x) → tu { D with nx := Pv (i + 1), ct := Pv (i + 1), bk := D.nx } (σ'.set j (some w)) H2) ∧ (∀ σ' H', Pv xs.length σ' H' → D.nx σ' H')) : tFor wi (gName j) tu D σ H :=
  hs H (Edg.refl H) _ fun J H2 G s2 hG W => by
    obtain ⟨Pv, h0, hR, ht, hd⟩ := k H2 s2
    have hl : (xs.map enc).length = xs.length := List.length_map ..
    refine for_it W Pv h0 (fun i σ' H' _ p => hG R' H' (hR i σ' H' p)) ?_ (by rw [hl]; exact hd)
    rintro i v σ' H3 H4 hi p ⟨s34, hY⟩
    obtain ⟨d, ed, hd⟩ := hY R' (hR i σ' H3 p)
    rw [List.getElem?_map] at ed
    cases ex : xs[i]? with
    | none => rw [ex] at ed; cases ed
    | some x =>
      rw [ex] at ed
      cases ed
      exact ht i x v σ' H3 H4 ex p s34 hd
theorem s_for2 (R : Hp → Hp → Prop) [Edg R] (R' : Hp → Hp → Prop) [Edg R'] {α : Type} {xs : List α} {e1 e2 : α → PD} {j j' : Nat} {wi : TI} (hs : Src R K wi σ H (xs.map fun x => .tuple [e1 x, e2 x]))
    (k : ∀ H1, Same H H1 → ∃ Pv : Nat → L2.St → Hp → Prop, Pv 0 σ H1 ∧ (∀ i σ' H', Pv i σ' H' → R' H1 H') ∧
      (∀ i x w w' σ' H' H2, xs[i]? = some x → Pv i σ' H' → Same H' H2 → Dp K H2 w (e1 x) → Dp K H2 w' (e2 x) → tu { D with nx := Pv (i + 1), ct := Pv (i + 1), bk := D.nx } ((σ'.set j (some w)).set j' (some w')) H2) ∧ (∀ σ' H', Pv xs.length σ' H' → D.nx σ' H')) :
    tFor wi (gTup K 2 (gCons (gName j) (gCons (gName j') gNil))) tu D σ H :=
  hs H (Edg.refl H) _ fun J H2 G s2 hG W => by
    obtain ⟨Pv, h0, hR, ht, hd⟩ := k H2 s2
    have hl : (xs.map fun x => PyData.tuple [e1 x, e2 x]).length = xs.length := List.length_map ..
    refine for_it W Pv h0 (fun i σ' H' _ p => hG R' H' (hR i σ' H' p)) ?_ (by rw [hl]; exact hd)
    rintro i v σ' H3 H4 hi p ⟨s34, hY⟩
    obtain ⟨d, ed, hd⟩ := hY R' (hR i σ' H3 p)
    rw [List.getElem?_map] at ed
    cases ex : xs[i]? with
    | none => rw [ex] at ed; cases ed
    | some x =>
      rw [ex] at ed
      cases ed
      obtain ⟨a, ys, rfl, hT, hy⟩ := dp_tupI hd
      cases hy with
      | @cons w _ _ _ h1 hy =>
        cases hy with
        | @cons w' _ _ _ h2 hy =>
          cases hy
          exact ⟨a, _, rfl, hT, rfl, w, [w'], rfl, w', [], rfl, rfl, ht i x w w' σ' H3 H4 ex p s34 h1 h2⟩
end
theorem cutD_map {α β : Type} (f : α → β) (xs : List α) (lo hi : Option Int) : cutD (xs.map f) lo hi = (cutD xs lo hi).map f := by
  unfold cutD
  rw [List.length_map, ← List.map_drop, ← List.map_take]
theorem cutD_to {α : Type} (xs : List α) (n : Nat) : cutD xs none (some (n : Int)) = xs.take n := by
  unfold cutD
  rw [show HT.sIx xs.length xs.length (some (n : Int)) = min n xs.length from HT.sIx_nat _ _ n, HT.sIx_none, List.drop_zero, Nat.sub_zero]
  by_cases h : n ≤ xs.length
  · rw [Nat.min_eq_left h]
  · rw [Nat.min_eq_right (by omega), List.take_of_length_le (Nat.le_refl _), List.take_of_length_le (by omega)]
theorem cutD_from {α : Type} (xs : List α) (n : Nat) : cutD xs (some (n : Int)) none = xs.drop n := by
  unfold cutD
  rw [show HT.sIx xs.length 0 (some (n : Int)) = min n xs.length from HT.sIx_nat _ _ n, HT.sIx_none]
  by_cases h : n ≤ xs.length
  · rw [Nat.min_eq_left h, List.take_of_length_le (by rw [List.length_drop]; exact Nat.le_refl _)]
  · rw [Nat.min_eq_right (by omega), List.drop_of_length_le (Nat.le_refl _), List.drop_of_length_le (by omega), List.take_nil]
section
variable {R : Hp → Hp → Prop} [Edg R] {K : PySem.W.Frag} {σ : L2.St} {H H' : Hp} {ta tb : TE} {ds es : List PD} {a : Addr}
theorem le_cat (ha : LE R K ta σ H ds) (hb : LE R K tb σ H es) (hl : ds.length + es.length ≤ 100000) : LE R K (tOp rCat ta tb) σ H (ds ++ es) := fun H1 g _ q =>
  ha H1 g _ fun a H2 n2 s2 ⟨xs, e1, h1⟩ => hb H2 (Edg.trans g (Edg.same s2)) _ fun b H3 n3 s3 ⟨ys, e2, h2⟩ =>
    ⟨a, b, xs, ys, rfl, rfl, s3 _ _ e1, e2, szl (by rw [dpa_len h1, dpa_len h2]; exact hl), fun p hp => q p _ ((s2.trans s3).free hp) ((s2.trans s3).trans (same_newD hp _)) ⟨_, upd_same, dpak (same_newD hp _) (dpa_app (dpak s3 h1) h2)⟩⟩
theorem lt_strs {xs : List Str} (h : Lt K H a (xs.map .str)) : H a = some (.lst (xs.map V.str)) := by
  obtain ⟨vs, e, q⟩ := h
  rw [e, dpa_strs q]
end
theorem s_next {D : Ends} {σ : L2.St} {H : Hp} (q : D.nx σ H) : tNext D σ H := q
end Dl

set_option maxRecDepth 100000
set_option maxHeartbeats 4000000
namespace My
open PySem PySem.Spec PyProof.Rows L2 Dl
/-! ### the tape -/
abbrev kC : Key := Sum.inr ("cells" : Str)
abbrev kS : Key := Sum.inr ("spot" : Str)
abbrev kL : Key := Sum.inr ("left" : Str)
def tkv (L : Addr) (s l : Int) : List (Key × V) := [(kC, .ref L), (kS, .int s), (kL, .int l)]
theorem tkv_C (L : Addr) (s l : Int) : valV (tkv L s l) kC = some (.ref L) := rfl
theorem tkv_S (L : Addr) (s l : Int) : valV (tkv L s l) kS = some (.int s) := rfl
theorem tkv_L (L : Addr) (s l : Int) : valV (tkv L s l) kL = some (.int l) := rfl
theorem tkv_putS (L : Addr) (s l v : Int) : putK (tkv L s l) kS (.int v) = tkv L v l := rfl
theorem tkv_putL (L : Addr) (s l v : Int) : putK (tkv L s l) kL (.int v) = tkv L s v := rfl
theorem tkv_len (L : Addr) (s l : Int) : (tkv L s l).length < sizeLine := by
  show 3 < sizeLine
  decide
/-- at T a tape: cells at L, at most B drawn -/
structure TapeAt (H : Hp) (T L : Addr) (ns : List Int) (s l : Int) : Prop where
  d : H T = some (.dK (tkv L s l))
  c : H L = some (.lst (ns.map V.int))
def Tape (H : Hp) (T L : Addr) (B : Int) : Prop := ∃ (ns : List Int) (s l : Int), TapeAt H T L ns s l ∧ 0 ≤ s ∧ s ≤ B ∧ ns.length ≤ 63
/-- all but what stands at T is as it was -/
def Keep (T : Addr) (H H' : Hp) : Prop := ∀ b o, H b = some o → b ≠ T → H' b = some o
theorem Keep.trans {T : Addr} {H H1 H2 : Hp} (a : Keep T H H1) (b : Keep T H1 H2) : Keep T H H2 := fun c o h n => b c o (a c o h n) n
theorem Keep.of {T : Addr} {H H' : Hp} (a : Same H H') : Keep T H H' := fun b o h _ => a b o h
theorem Keep.refl {T : Addr} {H : Hp} : Keep T H H := fun _ _ h _ => h
theorem keep_put {T : Addr} {H : Hp} {o : HO} : Keep T H (upd H T o) := fun b u h n => by
  rw [upd_ne n]
  exact h
theorem same_new {H : Hp} {p : Addr} (h : H p = none) (o : HO) : Same H (upd H p o) := fun b u q => by
  rw [upd_ne (ne_of_none q h)]
  exact q
theorem TapeAt.same {H H' : Hp} {T L : Addr} {ns : List Int} {s l : Int} (t : TapeAt H T L ns s l) (a : Same H H') : TapeAt H' T L ns s l := ⟨a _ _ t.d, a _ _ t.c⟩
theorem Tape.same {H H' : Hp} {T L : Addr} {B : Int} (t : Tape H T L B) (a : Same H H') : Tape H' T L B := by
  obtain ⟨ns, s, l, h, r⟩ := t
  exact ⟨ns, s, l, h.same a, r⟩
theorem Tape.put {H : Hp} {T L p : Addr} {o : HO} {B : Int} (t : Tape H T L B) (h1 : p ≠ T) (h2 : p ≠ L) : Tape (upd H p o) T L B := by
  obtain ⟨ns, s, l, h, r⟩ := t
  exact ⟨ns, s, l, ⟨by rw [upd_ne h1.symm]; exact h.d, by rw [upd_ne h2.symm]; exact h.c⟩, r⟩
theorem Tape.nT {H : Hp} {T L p : Addr} {B : Int} (t : Tape H T L B) (h : H p = none) : p ≠ T := fun z => by
  obtain ⟨ns, s, l, a, _⟩ := t
  rw [z, a.d] at h
  cases h
theorem Tape.nL {H : Hp} {T L p : Addr} {B : Int} (t : Tape H T L B) (h : H p = none) : p ≠ L := fun z => by
  obtain ⟨ns, s, l, a, _⟩ := t
  rw [z, a.c] at h
  cases h
theorem Tape.more {H : Hp} {T L : Addr} {B C : Int} (t : Tape H T L B) (h : B ≤ C) : Tape H T L C := by
  obtain ⟨ns, s, l, a, h0, h1, h2⟩ := t
  exact ⟨ns, s, l, a, h0, by omega, h2⟩
theorem Keep.free {T : Addr} {H H' : Hp} (k : Keep T H H') {p : Addr} (h : H' p = none) (n : p ≠ T) : H p = none := by
  cases e : H p with
  | none => rfl
  | some o =>
    rw [k p o e n] at h
    cases h
theorem TapeAt.ne {H : Hp} {T L : Addr} {ns : List Int} {s l : Int} (t : TapeAt H T L ns s l) : L ≠ T := fun z => by
  have e := t.c
  rw [z, t.d] at e
  cases e
theorem TapeAt.put {H : Hp} {T L : Addr} {ns : List Int} {s l s' l' : Int} (t : TapeAt H T L ns s l) : TapeAt (upd H T (.dK (tkv L s' l'))) T L ns s' l' := ⟨upd_same, by rw [upd_ne t.ne]; exact t.c⟩
theorem TapeAt.gS {H : Hp} {T L : Addr} {ns : List Int} {s l : Int} (t : TapeAt H T L ns s l) : DGet H T (.str ("spot" : Str)) (some (.int s)) := DGet.k (k := kS) t.d
theorem TapeAt.gL {H : Hp} {T L : Addr} {ns : List Int} {s l : Int} (t : TapeAt H T L ns s l) : DGet H T (.str ("left" : Str)) (some (.int l)) := DGet.k (k := kL) t.d
theorem TapeAt.gC {H : Hp} {T L : Addr} {ns : List Int} {s l : Int} (t : TapeAt H T L ns s l) : DGet H T (.str ("cells" : Str)) (some (.ref L)) := DGet.k (k := kC) t.d
theorem TapeAt.pS {H : Hp} {T L : Addr} {ns : List Int} {s l v : Int} (t : TapeAt H T L ns s l) : DPut H T (.str ("spot" : Str)) (.int v) (upd H T (.dK (tkv L v l))) := DPut.k (k := kS) (v := .int v) t.d (tkv_len L s l)
theorem TapeAt.pL {H : Hp} {T L : Addr} {ns : List Int} {s l v : Int} (t : TapeAt H T L ns s l) : DPut H T (.str ("left" : Str)) (.int v) (upd H T (.dK (tkv L s v))) := DPut.k (k := kL) (v := .int v) t.d (tkv_len L s l)
/-! ### numbers -/
theorem fm {i j : Int} (h : 0 < j) : 0 ≤ i.fmod j ∧ i.fmod j < j := by
  rw [Int.fmod_eq_emod_of_nonneg _ (by omega)]
  exact ⟨Int.emod_nonneg _ (by omega), Int.emod_lt_of_pos _ h⟩
theorem mul64 {i j : Int} (h1 : 0 ≤ i) (h2 : i < 18446744073709551616) (h3 : 0 ≤ j) (h4 : j < 18446744073709551616) : CMulW i j :=
  wide_mul (a := 64) (b := 64) (by omega) (by omega) (by decide) (by decide) (by decide)
abbrev sevenP : List V := [.int 2147483647, .int 2147483629, .int 2147483587, .int 2147483579, .int 2147483563, .int 2147483549, .int 2147483543]
theorem prime_at {i : Int} (h0 : 0 ≤ i) (h7 : i < 7) : ∃ p : Int, atI sevenP i = some (.int p) ∧ 2147483543 ≤ p ∧ p ≤ 2147483647 := by
  have c : i = 0 ∨ i = 1 ∨ i = 2 ∨ i = 3 ∨ i = 4 ∨ i = 5 ∨ i = 6 := by omega
  rcases c with rfl | rfl | rfl | rfl | rfl | rfl | rfl <;> exact ⟨_, rfl, by decide, by decide⟩
theorem at_in {α : Type} {xs : List α} {i : Int} (h0 : 0 ≤ i) (h : i < (xs.length : Int)) : ∃ v, v ∈ xs ∧ atI xs i = some v := by
  have hk : i.toNat < xs.length := by omega
  have e : i = ((i.toNat : Nat) : Int) := by omega
  refine ⟨xs[i.toNat], List.getElem_mem hk, ?_⟩
  have z := atI_nat (List.getElem?_eq_getElem hk)
  rw [← e] at z
  exact z
theorem at_mod {cs : List Int} (h : 0 < cs.length) (s : Int) : ∃ v : Int, atI (cs.map V.int) (s.fmod ((cs.map V.int).length : Int)) = some (.int v) := by
  have hl : 0 < (((cs.map V.int).length : Nat) : Int) := by
    rw [List.length_map]
    omega
  obtain ⟨v, hv, e⟩ := at_in (xs := cs.map V.int) (fm hl (i := s)).1 (fm hl (i := s)).2
  obtain ⟨z, _, rfl⟩ := List.mem_map.mp hv
  exact ⟨z, e⟩
theorem both_ways {p : Prop} {i : Decidable p} {R : Bool → Prop} (a : R true) (b : R false) : R (@decide p i) := by
  cases @decide p i
  · exact b
  · exact a
theorem less_draw {m : Int} {n : Nat} (hm : 1000000 < m) (h : m.natAbs < 2 ^ (19 * (n + 1))) : 1 ≤ m / 1000000 + 1 ∧ (m / 1000000 + 1).natAbs < 2 ^ (19 * n) := by
  rw [Nat.mul_succ, Nat.pow_add] at h
  have e : (2 : Nat) ^ 19 = 524288 := by decide
  rw [e] at h
  cases n with
  | zero =>
    rw [Nat.mul_zero, Nat.pow_zero] at h
    omega
  | succ j =>
    have g : 2 ^ 19 ≤ 2 ^ (19 * (j + 1)) := Nat.pow_le_pow_right (by decide) (by omega)
    rw [e] at g
    generalize 2 ^ (19 * (j + 1)) = X at g h
    omega
theorem cutR {R G : Prop} (k : R → G) (r : R) : G := k r
/-! ### the two defs -/
def spTape (K : PySem.W.Frag) : Sp := fun vs H Q _ => ∃ (a : Addr) (ns : List Int), vs = [.ref a] ∧ SqL K H a (ns.map V.int) ∧ ∀ (H' : Hp) (T L : Addr), Tape H' T L 0 → Same H H' → H T = none → H L = none → Q (.ref T) H'
def spDraw (n : Nat) : Sp := fun vs H Q _ => ∃ (T L : Addr) (m B : Int), vs = [.ref T, .int m] ∧ 1 ≤ m ∧ m.natAbs < 2 ^ (19 * n) ∧ B + n ≤ 1000000 ∧ Tape H T L B ∧
  ∀ (H' : Hp) (r : Int), 0 ≤ r → r < m → Tape H' T L (B + n) → Keep T H H' → Q (.int r) H'
section
variable {P : Program} {w : World} {K : PySem.W.Frag}
theorem cut63 (ns : List Int) : ∃ ms : List Int, cutV (ns.map V.int) none (some 63) = ms.map V.int ∧ ms.length ≤ 63 := by
  refine ⟨ns.take (min 63 ns.length), ?_, by rw [List.length_take]; omega⟩
  unfold cutV
  rw [show HT.sIx (ns.map V.int).length (ns.map V.int).length (some 63) = min 63 (ns.map V.int).length from HT.sIx_nat _ _ 63, HT.sIx_none]
  rw [List.length_map, List.drop_zero, List.map_take]
  rfl
theorem or_cells {σ : L2.St} {H : Hp} {T L : Addr} {ns : List Int} {s l : Int} (e0 : σ[0]? = some (some (.ref T))) (t : TapeAt H T L ns s l) (hn : ns.length ≤ 63) :
    ∀ Q : VK, (∀ (C : Addr) (cs : List Int) (H2 : Hp), SqL K H2 C (cs.map V.int) → 0 < cs.length → cs.length ≤ 63 → Same H H2 → Q (.ref C) H2) →
      tOrT K (tDGet (tVar 0) (tC (.str ("cells" : Str)))) (tLst (tCons (tC (.int 0)) tNil)) σ H Q := fun Q q => by
  refine ⟨_, e0, T, _, rfl, t.gC, !(ns.map V.int).isEmpty, .inl ⟨_, SqL.of t.c, rfl⟩, ?_⟩
  cases ns with
  | nil =>
    refine iteF ?_
    exact ⟨(by show 1 ≤ sizeLine; decide), fun p np => q p [0] _ (SqL.of upd_same) (by decide) (by decide) (same_new np _)⟩
  | cons x r =>
    refine iteT ?_
    exact q L (x :: r) _ (SqL.of t.c) (by simp) hn (Same.refl _)
end
end My

set_option maxRecDepth 100000
set_option maxHeartbeats 4000000
namespace My
open PySem PySem.Spec PyProof.Rows L2 Dl
/-! ### what draws: T the tape, n at most how many draws -/
theorem kd_of {T L : Addr} {B : Int} {H H' : Hp} (t : Tape H T L B) (k : Keep T H H') : Kd T H H' := fun b o h n => k b o h fun e => by
  obtain ⟨ns, s, l, a, _⟩ := t
  subst e
  rw [a.d] at h
  exact n rfl _ (Option.some.inj h).symm
theorem kd_keep {T : Addr} {H H' : Hp} (k : Kd T H H') : Keep T H H' := fun b o h n => k b o h fun e => absurd e n
theorem kd_same {T : Addr} {H H' : Hp} (k : Same H H') : Kd T H H' := Edg.same k
def lim : Int := 1000000
def TD (T L : Addr) (n : Nat) (K : PySem.W.Frag) (te : TE) (σ : L2.St) (H : Hp) (φ : PD → Prop) : Prop := ∀ (B : Int) H1, Kd T H H1 → Tape H1 T L B → B + n ≤ 1000000 → ∀ Q : VK,
  (∀ v d H2, Kd T H1 H2 → Tape H2 T L (B + n) → Dp K H2 v d → φ d → Q v H2) → te σ H1 Q
/-- a new list -/
def TL (T L : Addr) (n : Nat) (K : PySem.W.Frag) (te : TE) (σ : L2.St) (H : Hp) (φ : List PD → Prop) : Prop := ∀ (B : Int) H1, Kd T H H1 → Tape H1 T L B → B + n ≤ 1000000 → ∀ Q : VK,
  (∀ a ds H2, H1 a = none → Kd T H1 H2 → Tape H2 T L (B + n) → Lt K H2 a ds → φ ds → Q (.ref a) H2) → te σ H1 Q
def TA (T L : Addr) (n : Nat) (K : PySem.W.Frag) (ta : L2.TA) (σ : L2.St) (H : Hp) (φ : List PD → Prop) : Prop := ∀ (B : Int) H1, Kd T H H1 → Tape H1 T L B → B + n ≤ 1000000 → ∀ Q : List V → Hp → Prop,
  (∀ vs ds H2, Kd T H1 H2 → Tape H2 T L (B + n) → DpAll K H2 vs ds → φ ds → Q vs H2) → ta σ H1 Q
/-- a test -/
def TB (T L : Addr) (n : Nat) (K : PySem.W.Frag) (tt : TT) (σ : L2.St) (H : Hp) (φ : Bool → Prop) : Prop := ∀ (B : Int) H1, Kd T H H1 → Tape H1 T L B → B + n ≤ 1000000 → ∀ Q : Bool → Hp → Prop,
  (∀ b H2, Kd T H1 H2 → Tape H2 T L (B + n) → φ b → Q b H2) → tt σ H1 Q
section
variable {T L : Addr} {n m k : Nat} {K : PySem.W.Frag} {σ : L2.St} {H H' : Hp} {ta tb te tx : TE} {tt tu : TT} {x y z v : V} {r : R2} {d e f : PD} {ds es fs : List PD} {b c : Bool} {a : Addr} {φ ψ χ : PD → Prop} {Φ Ψ : List PD → Prop} {B : Int}
theorem TD.mono (g : Kd T H H') (h : TD T L n K te σ H φ) : TD T L n K te σ H' φ := fun B H1 q => h B H1 (Edg.trans g q)
theorem TD.imp (h : TD T L n K te σ H φ) (i : ∀ d, φ d → ψ d) : TD T L n K te σ H ψ := fun B H1 g t hB Q q => h B H1 g t hB Q fun v d H2 k t2 hd p => q v d H2 k t2 hd (i d p)
theorem TD.more (h : TD T L n K te σ H φ) (i : n ≤ m) : TD T L m K te σ H φ := fun B H1 g t hB Q q => h B H1 g t (by omega) Q fun v d H2 k t2 hd p => q v d H2 k (t2.more (by omega)) hd p
theorem TL.imp (h : TL T L n K te σ H Φ) (i : ∀ d, Φ d → Ψ d) : TL T L n K te σ H Ψ := fun B H1 g t hB Q q => h B H1 g t hB Q fun v d H2 nn k t2 hd p => q v d H2 nn k t2 hd (i d p)
theorem td_pure (h : DE (Kd T) K te σ H d) : TD T L 0 K te σ H (fun x => x = d) := fun B H1 g t _ Q q => h H1 g Q fun v H2 s hd => q v d H2 (kd_same s) ((t.same s).more (by omega)) hd rfl
theorem tl_pure (h : LE (Kd T) K te σ H ds) : TL T L 0 K te σ H (fun x => x = ds) := fun B H1 g t _ Q q => h H1 g Q fun v H2 nn s hd => q v ds H2 nn (kd_same s) ((t.same s).more (by omega)) hd rfl
theorem tb_pure (h : BT (Kd T) K tt σ H b) : TB T L 0 K tt σ H (fun x => x = b) := fun B H1 g t _ Q q => h H1 g Q fun H2 s => q b H2 (kd_same s) ((t.same s).more (by omega)) rfl
theorem td_tl (h : TL T L n K te σ H Φ) : TD T L n K te σ H (fun x => ∃ ds, x = .list ds ∧ Φ ds) := fun B H1 g t hB Q q => h B H1 g t hB Q fun a ds H2 _ k t2 l p => q _ _ H2 k t2 l.dp ⟨ds, rfl, p⟩
theorem kd_seq {X : Type} {H1 H2 H3 : Hp} (a : Kd T H1 H2) (b : Kd T H2 H3) : Kd T H1 H3 := Edg.trans a b
theorem ta_nil : TA T L 0 K tNil σ H (fun ds => ds = []) := fun B H1 g t _ Q q => q [] [] H1 (Edg.refl _) (t.more (by omega)) .nil rfl
theorem ta_cons {tr : L2.TA} (h : TD T L n K te σ H φ) (hr : TA T L m K tr σ H Φ) : TA T L (n + m) K (tCons te tr) σ H (fun ds => ∃ d r, ds = d :: r ∧ φ d ∧ Φ r) := fun B H1 g t hB Q q =>
  h B H1 g t (by omega) _ fun v d H2 k2 t2 hd pd => hr (B + n) H2 (Edg.trans g k2) t2 (by omega) _ fun vs ds H3 k3 t3 hds pds => q _ _ H3 (Edg.trans k2 k3) (t3.more (by omega)) (.cons (dpk k3 hd) hds) ⟨d, ds, rfl, pd, pds⟩
theorem td_op (ha : TD T L n K ta σ H φ) (hb : TD T L m K tb σ H ψ) (hr : ∀ d e, φ d → ψ e → ∃ f, RD K r d e f ∧ χ f) : TD T L (n + m) K (tOp r ta tb) σ H χ := fun B H1 g t hB Q q =>
  ha B H1 g t (by omega) _ fun x d H2 k2 t2 hd pd => hb (B + n) H2 (Edg.trans g k2) t2 (by omega) _ fun y e H3 k3 t3 he pe => by
    obtain ⟨f, hf, pf⟩ := hr d e pd pe
    exact hf H3 x y (dpk k3 hd) he _ fun z H4 s4 h4 => q z f H4 (Edg.trans (Edg.trans k2 k3) (kd_same s4)) ((t3.same s4).more (by omega)) h4 pf
theorem td_tup {ta : L2.TA} (h : TA T L n K ta σ H Φ) (hl : ∀ ds, Φ ds → ds.length ≤ 100000) : TD T L n K (tTup ta) σ H (fun d => ∃ ds, d = .tuple ds ∧ Φ ds) := fun B H1 g t hB Q q =>
  h B H1 g t hB _ fun vs ds H2 k2 t2 h2 p2 => ⟨szl (by rw [dpa_len h2]; exact hl ds p2), fun p hp => q _ _ _ (Edg.trans k2 (kd_same (same_newD hp _))) (t2.same (same_newD hp _)) (.tup (SqT.of upd_same) (dpak (same_newD hp _) h2)) ⟨ds, rfl, p2⟩⟩
theorem kd_free {H1 H2 : Hp} {p : Addr} (k : Kd T H1 H2) (t : Tape H1 T L B) (h : H2 p = none) (t2 : Tape H2 T L B') : H1 p = none := (kd_keep k).free h (t2.nT h)
theorem tl_lst {ta : L2.TA} (h : TA T L n K ta σ H Φ) (hl : ∀ ds, Φ ds → ds.length ≤ 100000) : TL T L n K (tLst ta) σ H Φ := fun B H1 g t hB Q q =>
  h B H1 g t hB _ fun vs ds H2 k2 t2 h2 p2 => ⟨szl (by rw [dpa_len h2]; exact hl ds p2), fun p hp => q _ _ _ (kd_free k2 t hp t2) (Edg.trans k2 (kd_same (same_newD hp _))) (t2.same (same_newD hp _)) ⟨_, upd_same, dpak (same_newD hp _) h2⟩ p2⟩
theorem tb_test (h : TD T L n K te σ H φ) (hb : ∀ d, φ d → ∃ b, d = .bool b ∧ P b) : TB T L n K (tTest te) σ H P := fun B H1 g t hB Q q => h B H1 g t hB _ fun v d H2 k t2 hd p => by
  obtain ⟨b, rfl, pb⟩ := hb d p
  cases hd
  exact ⟨b, rfl, q b H2 k t2 pb⟩
theorem tb_B (h : TD T L n K te σ H φ) (hb : ∀ d, φ d → ∃ b, d = .bool b ∧ P b) : TB T L n K (tB te) σ H P := fun B H1 g t hB Q q => h B H1 g t hB _ fun v d H2 k t2 hd p => by
  obtain ⟨b, rfl, pb⟩ := hb d p
  cases hd
  exact ⟨b, rfl, q b H2 k t2 pb⟩
theorem tb_not {P : Bool → Prop} (h : TB T L n K tt σ H P) : TB T L n K (tNot tt) σ H (fun b => P (!b)) := fun B H1 g t hB Q q => h B H1 g t hB _ fun b H2 k t2 p => q _ H2 k t2 (by show P (!!b); rw [Bool.not_not]; exact p)
theorem tb_and {P R : Bool → Prop} (h : TB T L n K tt σ H P) (h2 : P true → TB T L m K tu σ H R) : TB T L (n + m) K (tAnd tt tu) σ H (fun b => (b = false ∧ P false) ∨ (P true ∧ R b)) := fun B H1 g t hB Q q =>
  h B H1 g t (by omega) _ fun b H2 k t2 p => by
    cases b with
    | false => exact iteF (q false H2 k (t2.more (by omega)) (.inl ⟨rfl, p⟩))
    | true => exact iteT (h2 p (B + n) H2 (Edg.trans g k) t2 (by omega) _ fun b H3 k3 t3 p3 => q b H3 (Edg.trans k k3) (t3.more (by omega)) (.inr ⟨p, p3⟩))
theorem tb_or {P R : Bool → Prop} (h : TB T L n K tt σ H P) (h2 : P false → TB T L m K tu σ H R) : TB T L (n + m) K (tOr tt tu) σ H (fun b => (b = true ∧ P true) ∨ (P false ∧ R b)) := fun B H1 g t hB Q q =>
  h B H1 g t (by omega) _ fun b H2 k t2 p => by
    cases b with
    | true => exact iteT (q true H2 k (t2.more (by omega)) (.inl ⟨rfl, p⟩))
    | false => exact iteF (h2 p (B + n) H2 (Edg.trans g k) t2 (by omega) _ fun b H3 k3 t3 p3 => q b H3 (Edg.trans k k3) (t3.more (by omega)) (.inr ⟨p, p3⟩))
theorem td_if {P : Bool → Prop} (h : TB T L k K tt σ H P) (h1 : P true → TD T L n K ta σ H φ) (h2 : P false → TD T L n K tb σ H φ) : TD T L (k + n) K (tIf tt ta tb) σ H φ := fun B H1 g t hB Q q =>
  h B H1 g t (by omega) _ fun b H2 k2 t2 p => by
    cases b with
    | true => exact iteT (h1 p (B + k) H2 (Edg.trans g k2) t2 (by omega) _ fun v d H3 k3 t3 hd pd => q v d H3 (Edg.trans k2 k3) (t3.more (by omega)) hd pd)
    | false => exact iteF (h2 p (B + k) H2 (Edg.trans g k2) t2 (by omega) _ fun v d H3 k3 t3 hd pd => q v d H3 (Edg.trans k2 k3) (t3.more (by omega)) hd pd)
/-- a draw below j -/
theorem td_draw {i : Nat} {j : Int} {E : XK} (h : σ[i]? = some (some (.ref T))) (hm : DE (Kd T) K te σ H (.int j)) (h1 : 1 ≤ j) (h2 : j.natAbs < 2 ^ 209) : TD T L 11 K (tCall (spDraw 11) [] E (tCons (tVar i) (tCons te tNil))) σ H (fun d => ∃ r : Int, d = .int r ∧ 0 ≤ r ∧ r < j) := fun B H1 g t hB Q q => by
  refine ⟨_, h, hm H1 g _ fun v H2 s hv => ?_⟩
  cases hv
  exact ⟨T, L, j, B, rfl, h1, h2, hB, t.same s, fun H3 r r0 r1 t3 k3 => q _ _ H3 (Edg.trans (kd_same s) (kd_of (t.same s) k3)) t3 (.int r) ⟨r, rfl, r0, r1⟩⟩
/-- a def that is told the tape first -/
def spT (K : PySem.W.Frag) (n : Nat) (G : List PD → (PD → Prop) → Prop) : Sp := fun vs H Q _ => ∃ (T L : Addr) (B : Int) (us : List V) (ds : List PD) (φ : PD → Prop), vs = .ref T :: us ∧ Tape H T L B ∧ B + n ≤ 1000000 ∧ DpAll K H us ds ∧ G ds φ ∧
  ∀ v d H', Kd T H H' → Tape H' T L (B + n) → Dp K H' v d → φ d → Q v H'
def spTL (K : PySem.W.Frag) (n : Nat) (G : List PD → (List PD → Prop) → Prop) : Sp := fun vs H Q _ => ∃ (T L : Addr) (B : Int) (us : List V) (ds : List PD) (φ : List PD → Prop), vs = .ref T :: us ∧ Tape H T L B ∧ B + n ≤ 1000000 ∧ DpAll K H us ds ∧ G ds φ ∧
  ∀ a d H', H a = none → Kd T H H' → Tape H' T L (B + n) → Lt K H' a d → φ d → Q (.ref a) H'
theorem td_call {i : Nat} {G : List PD → (PD → Prop) → Prop} {E : XK} {ta : L2.TA} (h : σ[i]? = some (some (.ref T))) (ha : TA T L m K ta σ H Φ) (hg : ∀ ds, Φ ds → G ds φ) : TD T L (m + n) K (tCall (spT K n G) [] E (tCons (tVar i) ta)) σ H φ := fun B H1 g t hB Q q =>
  ⟨_, h, ha B H1 g t (by omega) _ fun vs ds H2 k2 t2 h2 p2 => ⟨T, L, B + m, vs, ds, φ, by rw [List.append_nil], t2, by omega, h2, hg ds p2, fun v d H3 k3 t3 hd pd => q v d H3 (Edg.trans k2 k3) (t3.more (by omega)) hd pd⟩⟩
theorem tl_call {i : Nat} {G : List PD → (List PD → Prop) → Prop} {E : XK} {ta : L2.TA} (h : σ[i]? = some (some (.ref T))) (ha : TA T L m K ta σ H Φ) (hg : ∀ ds, Φ ds → G ds Ψ) : TL T L (m + n) K (tCall (spTL K n G) [] E (tCons (tVar i) ta)) σ H Ψ := fun B H1 g t hB Q q =>
  ⟨_, h, ha B H1 g t (by omega) _ fun vs ds H2 k2 t2 h2 p2 => ⟨T, L, B + m, vs, ds, Ψ, by rw [List.append_nil], t2, by omega, h2, hg ds p2, fun v d H3 nn k3 t3 hd pd => q v d H3 (kd_free k2 t nn t2) (Edg.trans k2 k3) (t3.more (by omega)) hd pd⟩⟩
/-- a def of data alone, its arguments drawn -/
theorem td_callD {G : List PD → PD → Prop} {E : XK} {ta : L2.TA} (ha : TA T L m K ta σ H Φ) (hg : ∀ ds, Φ ds → ∃ d, G ds d ∧ φ d) : TD T L m K (tCall (spD K G) [] E ta) σ H φ := fun B H1 g t hB Q q =>
  ha B H1 g t hB _ fun vs ds H2 k2 t2 h2 p2 => by
    obtain ⟨d, hd, pd⟩ := hg ds p2
    exact ⟨ds, d, by rw [List.append_nil]; exact h2, hd, fun v H3 s3 h3 => q v d H3 (Edg.trans k2 (kd_same s3)) (t2.same s3) h3 pd⟩
theorem td_cb {rr : List V → Hp → VK → Prop} {ta : L2.TA} (ha : TA T L m K ta σ H Φ) (hg : ∀ ds, Φ ds → ∃ d, RC K rr ds d ∧ φ d) : TD T L m K (tCB rr ta) σ H φ := fun B H1 g t hB Q q =>
  ha B H1 g t hB _ fun vs ds H2 k2 t2 h2 p2 => by
    obtain ⟨d, hd, pd⟩ := hg ds p2
    exact hd H2 vs h2 _ fun v H3 s3 h3 => q v d H3 (Edg.trans k2 (kd_same s3)) (t2.same s3) h3 pd
theorem tl_cb {rr : List V → Hp → VK → Prop} {ta : L2.TA} (ha : TA T L m K ta σ H Φ) (hg : ∀ ds, Φ ds → ∃ d, RCL K rr ds d ∧ Ψ d) : TL T L m K (tCB rr ta) σ H Ψ := fun B H1 g t hB Q q =>
  ha B H1 g t hB _ fun vs ds H2 k2 t2 h2 p2 => by
    obtain ⟨d, hd, pd⟩ := hg ds p2
    exact hd H2 vs h2 _ fun v H3 nn s3 h3 => q v d H3 (kd_free k2 t nn t2) (Edg.trans k2 (kd_same s3)) (t2.same s3) h3 pd
/-! statements -/
variable {D : Ends} {tu' tw : TS}
theorem t_set {i : Nat} (t : Tape H T L B) (h : TD T L n K te σ H φ) (hB : B + n ≤ 1000000) (k : ∀ v d H1, Kd T H H1 → Tape H1 T L (B + n) → Dp K H1 v d → φ d → D.nx (σ.set i (some v)) H1) : tAsg te (gName i) D σ H := h B H (Edg.refl H) t hB _ k
theorem t_setL {i : Nat} (t : Tape H T L B) (h : TL T L n K te σ H Φ) (hB : B + n ≤ 1000000) (k : ∀ a ds H1, H a = none → Kd T H H1 → Tape H1 T L (B + n) → Lt K H1 a ds → Φ ds → D.nx (σ.set i (some (.ref a))) H1) : tAsg te (gName i) D σ H := h B H (Edg.refl H) t hB _ k
theorem t_ret (t : Tape H T L B) (h : TD T L n K te σ H φ) (hB : B + n ≤ 1000000) (k : ∀ v d H1, Kd T H H1 → Tape H1 T L (B + n) → Dp K H1 v d → φ d → D.rt v H1) : tRet te D σ H := h B H (Edg.refl H) t hB _ k
theorem t_retL (t : Tape H T L B) (h : TL T L n K te σ H Φ) (hB : B + n ≤ 1000000) (k : ∀ a ds H1, H a = none → Kd T H H1 → Tape H1 T L (B + n) → Lt K H1 a ds → Φ ds → D.rt (.ref a) H1) : tRet te D σ H := h B H (Edg.refl H) t hB _ k
theorem t_if {P : Bool → Prop} (t : Tape H T L B) (h : TB T L n K tt σ H P) (hB : B + n ≤ 1000000) (h1 : P true → ∀ H1, Kd T H H1 → Tape H1 T L (B + n) → tu' D σ H1) (h2 : P false → ∀ H1, Kd T H H1 → Tape H1 T L (B + n) → tw D σ H1) : tIfS tt tu' tw D σ H := h B H (Edg.refl H) t hB _ fun b H1 k1 t1 p => by
  cases b with
  | true => exact iteT (h1 p H1 k1 t1)
  | false => exact iteF (h2 p H1 k1 t1)
end
end My

set_option maxRecDepth 100000
set_option maxHeartbeats 4000000
namespace Dl
open PySem PySem.Spec PyProof.Rows L2 My
/-! ### isinstance -/
def tyD : PD → String
  | .none => "NoneType"
  | .bool _ => "bool"
  | .int _ => "int"
  | .str _ => "str"
  | .list _ => "list"
  | .tuple _ => "tuple"
  | .dict _ => "dict"
def isStr : PD → Bool
  | .str _ => true
  | _ => false
def isTup : PD → Bool
  | .tuple _ => true
  | _ => false
def isLst : PD → Bool
  | .list _ => true
  | _ => false
def isBool : PD → Bool
  | .bool _ => true
  | _ => false
def isInt : PD → Bool
  | .int _ => true
  | .bool _ => true
  | _ => false
section
variable {R : Hp → Hp → Prop} [Edg R] {K : PySem.W.Frag} {σ : L2.St} {H H' : Hp} {ta tb te tx : TE} {tt : TT} {x y z v : V} {d e f : PD} {ds es fs : List PD} {b c : Bool} {a : Addr}
theorem ty_list {xs : List V} (h : SqL K H a xs) : TyX K H (.ref a) (.type "list") := by
  rcases h with (h | ⟨o, h⟩) | ⟨o, its, n, h1, h2, _⟩
  · exact .base (.lst h)
  · exact .base (.frz h)
  · exact .kList h1 h2
theorem ty_tup {xs : List V} (h : SqT K H a xs) : TyX K H (.ref a) (.type "tuple") := by
  rcases h with (h | ⟨o, h⟩) | ⟨o, its, n, h1, h2, _⟩
  · exact .base (.tup h)
  · exact .fTuple h
  · exact .kTuple h1 h2
theorem dp_ty (h : Dp K H v d) : TyX K H v (.type (tyD d)) := by
  cases h with
  | non => exact .base .non
  | bl b => exact .base (.bl b)
  | int i => exact .base (.int i)
  | str x => exact .base (.str x)
  | lst h _ => exact ty_list h
  | tup h _ => exact ty_tup h
theorem kit_str (d : PD) : kitB (tyD d) "str" = some (isStr d) := by
  cases d with
  | none => exact (by decide +kernel : kitB "NoneType" "str" = some false)
  | bool _ => exact (by decide +kernel : kitB "bool" "str" = some false)
  | int _ => exact (by decide +kernel : kitB "int" "str" = some false)
  | str _ => exact (by decide +kernel : kitB "str" "str" = some true)
  | list _ => exact (by decide +kernel : kitB "list" "str" = some false)
  | tuple _ => exact (by decide +kernel : kitB "tuple" "str" = some false)
  | dict _ => exact (by decide +kernel : kitB "dict" "str" = some false)
theorem kit_tup (d : PD) : kitB (tyD d) "tuple" = some (isTup d) := by
  cases d with
  | none => exact (by decide +kernel : kitB "NoneType" "tuple" = some false)
  | bool _ => exact (by decide +kernel : kitB "bool" "tuple" = some false)
  | int _ => exact (by decide +kernel : kitB "int" "tuple" = some false)
  | str _ => exact (by decide +kernel : kitB "str" "tuple" = some false)
  | list _ => exact (by decide +kernel : kitB "list" "tuple" = some false)
  | tuple _ => exact (by decide +kernel : kitB "tuple" "tuple" = some true)
  | dict _ => exact (by decide +kernel : kitB "dict" "tuple" = some false)
theorem kit_bool (d : PD) : kitB (tyD d) "bool" = some (isBool d) := by
  cases d with
  | none => exact (by decide +kernel : kitB "NoneType" "bool" = some false)
  | bool _ => exact (by decide +kernel : kitB "bool" "bool" = some true)
  | int _ => exact (by decide +kernel : kitB "int" "bool" = some false)
  | str _ => exact (by decide +kernel : kitB "str" "bool" = some false)
  | list _ => exact (by decide +kernel : kitB "list" "bool" = some false)
  | tuple _ => exact (by decide +kernel : kitB "tuple" "bool" = some false)
  | dict _ => exact (by decide +kernel : kitB "dict" "bool" = some false)
theorem kit_int (d : PD) : kitB (tyD d) "int" = some (isInt d) := by
  cases d with
  | none => exact (by decide +kernel : kitB "NoneType" "int" = some false)
  | bool _ => exact (by decide +kernel : kitB "bool" "int" = some true)
  | int _ => exact (by decide +kernel : kitB "int" "int" = some true)
  | str _ => exact (by decide +kernel : kitB "str" "int" = some false)
  | list _ => exact (by decide +kernel : kitB "list" "int" = some false)
  | tuple _ => exact (by decide +kernel : kitB "tuple" "int" = some false)
  | dict _ => exact (by decide +kernel : kitB "dict" "int" = some false)
theorem kit_list (d : PD) : kitB (tyD d) "list" = some (isLst d) := by
  cases d with
  | none => exact (by decide +kernel : kitB "NoneType" "list" = some false)
  | bool _ => exact (by decide +kernel : kitB "bool" "list" = some false)
  | int _ => exact (by decide +kernel : kitB "int" "list" = some false)
  | str _ => exact (by decide +kernel : kitB "str" "list" = some false)
  | list _ => exact (by decide +kernel : kitB "list" "list" = some true)
  | tuple _ => exact (by decide +kernel : kitB "tuple" "list" = some false)
  | dict _ => exact (by decide +kernel : kitB "dict" "list" = some false)
/-- isinstance(e, T) -/
theorem de_isi {n : String} (h : DE R K te σ H d) (hk : kitB (tyD d) n = some b) : DE R K (tCB (rIsi K) (tCons te (tCons (tC (.ty n)) tNil))) σ H (.bool b) := fun H1 g Q q => h H1 g _ fun v H2 s hv =>
  ⟨v, .ty n, _, _, _, rfl, .ty _, dp_ty hv, kit_ty hk, q _ H2 s (.bl _)⟩
/-! ### lengths, all, any, methods -/
theorem rc_lenL : RC K (fun xs H Q => ∃ p ys, xs = [V.ref p] ∧ (SqL K H p ys ∨ SqT K H p ys) ∧ Q (.int ys.length) H) [.list ds] (.int ds.length) := fun H vs hv Q q => by
  cases hv with
  | cons h1 h2 =>
    cases h2
    obtain ⟨a, xs, rfl, hs, ha⟩ := dp_lstI h1
    refine ⟨a, xs, rfl, .inl hs, ?_⟩
    rw [dpa_len ha]
    exact q _ H (Same.refl _) (.int _)
theorem rc_lenT : RC K (fun xs H Q => ∃ p ys, xs = [V.ref p] ∧ (SqL K H p ys ∨ SqT K H p ys) ∧ Q (.int ys.length) H) [.tuple ds] (.int ds.length) := fun H vs hv Q q => by
  cases hv with
  | cons h1 h2 =>
    cases h2
    obtain ⟨a, xs, rfl, hs, ha⟩ := dp_tupI h1
    refine ⟨a, xs, rfl, .inr hs, ?_⟩
    rw [dpa_len ha]
    exact q _ H (Same.refl _) (.int _)
theorem rc_all {bs : List Bool} : RC K (rAll K) [.list (bs.map .bool)] (.bool (bs.all id)) := fun H vs hv Q q => by
  cases hv with
  | cons h1 h2 =>
    cases h2
    obtain ⟨a, xs, rfl, hs, ha⟩ := dp_lstI h1
    rw [dpa_bools ha] at hs
    exact ⟨a, bs, rfl, hs, q _ H (Same.refl _) (.bl _)⟩
theorem rc_any {bs : List Bool} : RC K (rAny K) [.list (bs.map .bool)] (.bool (bs.any id)) := fun H vs hv Q q => by
  cases hv with
  | cons h1 h2 =>
    cases h2
    obtain ⟨a, xs, rfl, hs, ha⟩ := dp_lstI h1
    rw [dpa_bools ha] at hs
    exact ⟨a, bs, rfl, hs, q _ H (Same.refl _) (.bl _)⟩
/-- a method of a built-in type on data -/
def RM (K : PySem.W.Frag) (T : String) (r : V → List V → Hp → VK → Prop) (d : PD) (ds : List PD) (f : PD) : Prop := ∀ H x vs, Dp K H x d → DpAll K H vs ds → tyV K T x H ∧ ∀ Q : VK, (∀ z H2, Same H H2 → Dp K H2 z f → Q z H2) → r x vs H Q
theorem de_bm {T : String} {r : V → List V → Hp → VK → Prop} {ta : TA} (h : DE R K te σ H d) (ha : DA R K ta σ H ds) (ht : ∀ H x, Dp K H x d → tyV K T x H) (hr : RM K T r d ds f) : DE R K (tBM K T r te ta) σ H f := fun H1 g Q q =>
  h H1 g _ fun x H2 s2 hx => ⟨ht H2 x hx, ha H2 (Edg.trans g (Edg.same s2)) _ fun vs H3 s3 h3 => (hr H3 x vs (dpk s3 hx) h3).2 Q fun z H4 s4 h4 => q z H4 ((s2.trans s3).trans s4) h4⟩
theorem ty_str {w : Str} (H : Hp) (x : V) (h : Dp K H x (.str w)) : tyV K "str" x H := by
  cases h
  rfl
theorem rm_rstrip {w u : Str} (h : w.length ≤ 100000) : RM K "str" (fun x xs H Q => ∃ a b, x = .str a ∧ xs = [.str b] ∧ a.length ≤ sizeLine ∧ Q (.str (Txt.rstripChars a b)) H) (.str w) [.str u] (.str (Txt.rstripChars w u)) := fun H x vs hx hv => by
  refine ⟨ty_str H x hx, fun Q q => ?_⟩
  cases hx
  cases hv with
  | cons h1 h2 =>
    cases h1; cases h2
    exact ⟨w, u, rfl, rfl, szl h, q _ H (Same.refl _) (.str _)⟩
/-! ### zip of two tuples -/
theorem walk_zipT {a b : Addr} {xs ys : List V} {n : Nat} (hn : n = min xs.length ys.length) : Walk (RZ.ItzT K a b) n (fun H => SqT K H a xs ∧ SqT K H b ys) (YPair (fun i => xs[i]?) (fun i => ys[i]?)) := by
  subst hn
  refine ⟨fun i _ hi q => ?_, fun _ q => ⟨xs, ys, q.1, q.2, by omega⟩, fun i H v H' _ q y => ?_⟩
  · have h1 : i < xs.length := by omega
    have h2 : i < ys.length := by omega
    exact ⟨xs, ys, xs[i], ys[i], q.1, q.2, by simp [h1], by simp [h2]⟩
  · obtain ⟨T, x, z, h1, h2, h3, h4, h5⟩ := y
    exact ⟨T, x, z, h1, h2, h3, h4 xs q.1, h5 ys q.2⟩
theorem src_zipT {ta : TA} (h : DA R K ta σ H [.tuple ds, .tuple es]) : Src R K (RZ.iZipA K ta) σ H ((ds.zip es).map fun p => .tuple [p.1, p.2]) := fun H1 g Q q => h H1 g _ fun vs H2 s2 hv => by
  cases hv with
  | cons h1 h2 =>
    cases h2 with
    | cons h2 h3 =>
      cases h3
      obtain ⟨a, xs, rfl, hs, ha⟩ := dp_tupI h1
      obtain ⟨b, ys, rfl, hs2, hb⟩ := dp_tupI h2
      refine ⟨a, b, xs, ys, rfl, .inr ⟨hs, hs2, q _ H2 (fun H => SqT K H a xs ∧ SqT K H b ys) s2 (fun R' _ H' r => ⟨Edg.t r hs, Edg.t r hs2⟩) ?_⟩⟩
      have e : ((ds.zip es).map fun p => PyData.tuple [p.1, p.2]).length = min xs.length ys.length := by rw [List.length_map, List.length_zip, dpa_len ha, dpa_len hb]
      refine (walk_zipT e).mono (fun _ h => h) fun i H x H' hi _ ⟨T, u, w, e1, e2, e3, e4, e5⟩ => ?_
      subst e1 e3
      refine ⟨same_newD e2 _, fun R' _ r => ?_⟩
      obtain ⟨d, q1, hd⟩ := dpa_get' ha e4
      obtain ⟨d', q2, hd'⟩ := dpa_get' hb e5
      refine ⟨.tuple [d, d'], ?_, .tup (SqT.of upd_same) (.cons (dpk (same_newD e2 _) (dpk r hd)) (.cons (dpk (same_newD e2 _) (dpk r hd')) .nil))⟩
      rw [List.getElem?_map, (List.getElem?_zip_eq_some (z := (d, d'))).mpr ⟨q1, q2⟩]
      rfl
/-! ### tuple(list), list(tuple), list(list) -/
theorem rcl_listL : RCL K (fun xs H Q => ∃ p ys, xs = [V.ref p] ∧ (SqL K H p ys ∨ SqT K H p ys) ∧ ∀ l, H l = none → Q (.ref l) (upd H l (.lst ys))) [.list ds] ds := fun H vs hv Q q => by
  cases hv with
  | cons h1 h2 =>
    cases h2
    obtain ⟨a, xs, rfl, hs, ha⟩ := dp_lstI h1
    exact ⟨a, xs, rfl, .inl hs, fun l hl => q l _ hl (same_newD hl _) ⟨_, upd_same, dpak (same_newD hl _) ha⟩⟩
theorem rcl_listT : RCL K (fun xs H Q => ∃ p ys, xs = [V.ref p] ∧ (SqL K H p ys ∨ SqT K H p ys) ∧ ∀ l, H l = none → Q (.ref l) (upd H l (.lst ys))) [.tuple ds] ds := fun H vs hv Q q => by
  cases hv with
  | cons h1 h2 =>
    cases h2
    obtain ⟨a, xs, rfl, hs, ha⟩ := dp_tupI h1
    exact ⟨a, xs, rfl, .inr hs, fun l hl => q l _ hl (same_newD hl _) ⟨_, upd_same, dpak (same_newD hl _) ha⟩⟩
theorem rc_tupL : RC K (fun xs H Q => ∃ p ys, xs = [V.ref p] ∧ ((SqL K H p ys ∧ ∀ l, H l = none → Q (.ref l) (upd H l (.tup ys))) ∨ (SqT K H p ys ∧ Q (.ref p) H))) [.list ds] (.tuple ds) := fun H vs hv Q q => by
  cases hv with
  | cons h1 h2 =>
    cases h2
    obtain ⟨a, xs, rfl, hs, ha⟩ := dp_lstI h1
    exact ⟨a, xs, rfl, .inl ⟨hs, fun l hl => q _ _ (same_newD hl _) (.tup (SqT.of upd_same) (dpak (same_newD hl _) ha))⟩⟩
theorem rc_tupT : RC K (fun xs H Q => ∃ p ys, xs = [V.ref p] ∧ ((SqL K H p ys ∧ ∀ l, H l = none → Q (.ref l) (upd H l (.tup ys))) ∨ (SqT K H p ys ∧ Q (.ref p) H))) [.tuple ds] (.tuple ds) := fun H vs hv Q q => by
  cases hv with
  | cons h1 h2 =>
    cases h2
    obtain ⟨a, xs, rfl, hs, ha⟩ := dp_tupI h1
    exact ⟨a, xs, rfl, .inr ⟨hs, q _ H (Same.refl _) (.tup hs ha)⟩⟩
/-! ### sorted(xs), xs a list of alike data -/
/-- what stands for data: by the abstract heap -/
def Stands (K : PySem.W.Frag) (H : Hp) (v : Value) (d : PD) : Prop := ∃ x, RelV x v ∧ Dp K H x d
theorem stands_each : ∀ {ds : List PD} {xs : List V} {us : List Value}, DpAll K H xs ds → Vals xs us → PySem.W.EachIs (Stands K H) us ds
  | [], _, _, h, r => by
    cases h
    cases r
    exact .nil
  | d :: ds, _, _, h, r => by
    cases h with
    | cons h1 h2 =>
      cases r with
      | cons r1 r2 => exact .cons ⟨_, r1, h1⟩ (stands_each h2 r2)
theorem each_stands : ∀ {ds : List PD} {us : List Value}, PySem.W.EachIs (Stands K H) us ds → ∃ xs, Vals xs us ∧ DpAll K H xs ds
  | _, _, .nil => ⟨[], .nil, .nil⟩
  | _, _, .cons ⟨x, r1, h1⟩ t => by
    obtain ⟨xs, r2, h2⟩ := each_stands t
    exact ⟨x :: xs, .cons r1 r2, .cons h1 h2⟩
theorem each_imp {α β : Type} {P Q : α → β → Prop} (i : ∀ a b, P a b → Q a b) : ∀ {l : List α} {m : List β}, PySem.W.EachIs P l m → PySem.W.EachIs Q l m
  | _, _, .nil => .nil
  | _, _, .cons h t => .cons (i _ _ h) (each_imp i t)
def srtD (ds : List PD) : List PD := ds.mergeSort (PySem.W.dataLe false id)
def rSrtD (K : PySem.W.Frag) : List V → Hp → VK → Prop := fun vs H Q => ∃ (a : Addr) (xs : List V) (ds : List PD), vs = [.ref a] ∧ SqL K H a xs ∧ DpAll K H xs ds ∧ PySem.W.AllAlike ds ∧ PySem.W.Sortable ds ∧ (∀ d ∈ ds, d.depth ≤ 60) ∧
  ∀ p ys, H p = none → DpAll K H ys (srtD ds) → Q (.ref p) (upd H p (.lst ys))
theorem cr_srtD {X : Cx} (hu : X.A.units + 64 < cLine) : CallR X (.builtin "sorted") (rSrtD X.K) := by
  intro pins s σ H vs us Q I r h
  obtain ⟨a, xs, ds, rfl, hs, ha, hal, hk, hd, q⟩ := h
  obtain ⟨its, rv, hl, hz⟩ := I.list hs
  rw [Vals.ref1 r]
  have e := stands_each ha rv
  have er : PySem.W.EachIs (fun v (b : PD) => ∃ as, Reads s.heap v (id b) as) its ds := each_imp (fun v d ⟨x, r1, h1⟩ => Dp.reads I d x v h1 r1) e
  refine PySem.W.sorted_data (enc := id) hl.isList e er (by rw [List.map_id]; exact hal) (by rw [List.map_id]; exact hk) (by rw [← dpa_len ha]; exact hz) (fun b hb => ?_) fun out ho eo => ?_
  · have := hd b hb
    show X.A.units + 2 + b.depth < cLine
    omega
  obtain ⟨ys, rv2, h2⟩ := each_stands eo
  obtain ⟨ep, he'⟩ := PyProof.Rows.sortedAll_at s.heap its out.toArray
  have hlen : ys.length ≤ sizeLine := by
    rw [rv2.length, ho, ← dpa_len ha]
    exact hz
  exact ⟨.ref _, upd H (s.heap.objs.size + 1) (.lst ys), I.laid (t' := s.toks) (fun _ _ => PyProof.Rows.sortedAll_old) (Nat.le_succ _) ⟨hlen, out, ep, rv2, he'⟩, rfl, q _ _ (I.hok.fresh (Nat.le_succ _)) h2⟩
theorem rcl_srtD (hal : PySem.W.AllAlike ds) (hk : PySem.W.Sortable ds) (hd : ∀ d ∈ ds, d.depth ≤ 60) : RCL K (rSrtD K) [.list ds] (srtD ds) := fun H vs hv Q q => by
  cases hv with
  | cons h1 h2 =>
    cases h2
    obtain ⟨a, xs, rfl, hs, ha⟩ := dp_lstI h1
    exact ⟨a, xs, ds, rfl, hs, ha, hal, hk, hd, fun p ys np hy => q p _ np (same_newD np _) ⟨_, upd_same, dpak (same_newD np _) hy⟩⟩
end
/-! ### more for tests over lists -/
section
variable {R : Hp → Hp → Prop} [Edg R] {K : PySem.W.Frag} {σ : L2.St} {H H' : Hp} {ta tb te tx : TE} {tt : TT} {ds es fs : List PD} {a : Addr}
/-- [e for x in xs] -/
theorem le_map {α : Type} {xs : List α} {enc f : α → PD} {i : Nat} {vs : List Nat} {wi : TI} (hs : Src R K wi σ H (xs.map enc)) (hn : xs.length ≤ 50000) (hw : ∀ w : V, wipe ((wipe σ vs).set i (some w)) vs = wipe σ vs)
    (hb : ∀ x ∈ xs, ∀ w H', R H H' → Dp K H' w (enc x) → DE R K te ((wipe σ vs).set i (some w)) H' (f x)) (hf : ∀ x ∈ xs, nl (f x) = true) : LE R K (tLc wi (gName i) tYes te vs) σ H (xs.map f) := by
  have h := le_lc (cnd := fun _ => true) (tt := tYes) hs hn hw (fun x hx w H' r hd => ⟨bt_yes, fun _ => hb x hx w H' r hd⟩) (fun x hx _ => hf x hx)
  rw [List.filter_eq_self.mpr (fun _ _ => rfl)] at h
  exact h
theorem le_map2 {α : Type} {xs : List α} {e1 e2 f : α → PD} {i i' : Nat} {vs : List Nat} {wi : TI} (hs : Src R K wi σ H (xs.map fun x => .tuple [e1 x, e2 x])) (hn : xs.length ≤ 50000) (hw : ∀ w w' : V, wipe (((wipe σ vs).set i (some w)).set i' (some w')) vs = wipe σ vs)
    (hb : ∀ x ∈ xs, ∀ w w' H', R H H' → Dp K H' w (e1 x) → Dp K H' w' (e2 x) → DE R K te (((wipe σ vs).set i (some w)).set i' (some w')) H' (f x)) (hf : ∀ x ∈ xs, nl (f x) = true) :
    LE R K (tLc wi (gTup K 2 (gCons (gName i) (gCons (gName i') gNil))) tYes te vs) σ H (xs.map f) := by
  have h := le_lc2 (cnd := fun _ => true) (tt := tYes) hs hn hw (fun x hx w w' H' r hd hd' => ⟨bt_yes, fun _ => hb x hx w w' H' r hd hd'⟩) (fun x hx _ => hf x hx)
  rw [List.filter_eq_self.mpr (fun _ _ => rfl)] at h
  exact h
theorem de_all {α : Type} {xs : List α} {p : α → Bool} (h : LE R K te σ H (xs.map fun x => .bool (p x))) : DE R K (tCB (rAll K) (tCons te tNil)) σ H (.bool (xs.all p)) := by
  have e : (xs.map fun x => PyData.bool (p x)) = (xs.map p).map .bool := by rw [List.map_map]; rfl
  rw [e] at h
  have e2 : xs.all p = (xs.map p).all id := by rw [List.all_map]; rfl
  rw [e2]
  exact de_cb (da_cons (de_le h) da_nil) rc_all
theorem de_any {α : Type} {xs : List α} {p : α → Bool} (h : LE R K te σ H (xs.map fun x => .bool (p x))) : DE R K (tCB (rAny K) (tCons te tNil)) σ H (.bool (xs.any p)) := by
  have e : (xs.map fun x => PyData.bool (p x)) = (xs.map p).map .bool := by rw [List.map_map]; rfl
  rw [e] at h
  have e2 : xs.any p = (xs.map p).any id := by rw [List.any_map]; rfl
  rw [e2]
  exact de_cb (da_cons (de_le h) da_nil) rc_any
theorem rd_inSign {c : Nat} {z : Str} : RD K (fun x y H Q => ∃ c z, x = V.str ⟨#[c]⟩ ∧ y = V.str z ∧ Q (.bl (decide (c ∈ z.cps.toList))) H) (.str ⟨#[c]⟩) (.str z) (.bool (decide (c ∈ z.cps.toList))) := fun H x y h1 h2 Q q => by
  cases h1; cases h2
  exact ⟨c, z, rfl, rfl, q _ H (Same.refl _) (.bl _)⟩
theorem rd_ltS {i j : Str} : RD K (fun x y H Q => ∃ i j, x = V.str i ∧ y = V.str j ∧ Q (.bl (decide (i.cps.toList < j.cps.toList))) H) (.str i) (.str j) (.bool (decide (i.cps.toList < j.cps.toList))) := fun H x y h1 h2 Q q => by
  cases h1; cases h2
  exact ⟨i, j, rfl, rfl, q _ H (Same.refl _) (.bl _)⟩
end
end Dl

set_option maxRecDepth 100000
set_option maxHeartbeats 4000000
namespace Dl
open PySem PySem.Spec PyProof.Rows L2 My L2.DX
/-! ### sorted(d.items()), d from texts to truths -/
abbrev Lit := Str × Bool
def litD (l : Lit) : PD := .tuple [.str l.1, .bool l.2]
def kvL (l : Lit) : Key × V := (Sum.inr l.1, .bl l.2)
def srtL (ls : List Lit) : List Lit := ls.mergeSort (PySem.W.dataLe false litD)
section
variable {X : Cx}
def rItemsK : V → List V → Hp → VK → Prop := fun x xs H Q => ∃ (a : Addr) (kvs : List (Key × V)), x = .ref a ∧ xs = [] ∧ H a = some (.dK kvs) ∧ ∀ p, H p = none → Q (.ref p) (upd H p (itemsO p a))
theorem mt_itemsK : MtR X "dict.items" rItemsK := by
  intro pins s σ H x xs v us Q I rx rxs h
  obtain ⟨a, kvs, rfl, rfl, ha, q⟩ := h
  cases rx
  cases rxs
  obtain ⟨z, hd, vs, rel, o, es, ep, ho, hx, hdat, _⟩ := dk_of I.hok ha
  refine DT.callItems (es := es) (ep := ep) hd ⟨o, ho, hx, hdat⟩ ?_
  have hf : H s.heap.objs.size = none := I.hok.fresh (Nat.le_refl _)
  exact ⟨.ref s.heap.objs.size, upd H s.heap.objs.size (itemsO s.heap.objs.size a), I.laid (t' := s.toks) (fun b u e => Heap.get?_push_of_some _ e) (Nat.le_refl _) (itemsO_ok (Heap.get?_push_size _ rfl)), rfl, q _ hf⟩
def rSrtItems : List V → Hp → VK → Prop := fun vs H Q => ∃ (p a : Addr) (ls : List Lit), vs = [.ref p] ∧ H p = some (itemsO p a) ∧ H a = some (.dK (ls.map kvL)) ∧
  ∀ (H' : Hp) (l : Addr) (ys : List Addr), Same H H' → H l = none → H' l = some (.lst (ys.map V.ref)) → Paired (fun y (t : Lit) => H' y = some (.tup [.str t.1, .bl t.2])) ys (srtL ls) → Q (.ref l) H'
theorem ent_of {P : Program} {w : World} : ∀ {ls : List Lit} {vs : List (Key × Value)} {es : List DictEntry}, KV (ls.map kvL) vs → Pairs (mixKind P w) es vs → es.length = ls.length ∧ ∀ (j : Nat) (e : DictEntry), es[j]? = some e → ∃ (l : Lit) (t : Tok), ls[j]? = some l ∧ e.key = .str l.1 t ∧ e.val = .bool l.2 := by
  intro ls
  induction ls with
  | nil =>
    intro vs es r p
    cases r
    cases p
    exact ⟨rfl, fun j e h => by simp at h⟩
  | cons l ls ih =>
    intro vs es r p
    cases r with
    | cons r1 r2 =>
      cases p with
      | @cons e kv es' vs' p1 p2 p3 =>
        obtain ⟨q1, q2⟩ := ih r2 p3
        refine ⟨congrArg Nat.succ q1, fun j e' h => ?_⟩
        cases j with
        | zero =>
          cases h
          obtain ⟨e1, e2⟩ := r1
          rw [← e1] at p1
          obtain ⟨t, et⟩ := Value.isStrOf_shape (x := l.1) (show Value.isStrOf l.1 e.key = true from p1)
          refine ⟨l, t, rfl, et, ?_⟩
          rw [p2]
          exact e2
        | succ j => exact q2 j e' h
theorem cr_srtItems (hc : X.calm = true) (hu : X.A.units + 64 < cLine) : CallR X (.builtin "sorted") rSrtItems := by
  intro pins s σ H xs us Q I r h
  obtain ⟨p, a, ls, rfl, hp, ha, q⟩ := h
  obtain rfl := Vals.ref1 r
  have view : s.heap.IsItemsView p a := (show ObjOk X.prog X.w H s.heap p (itemsO p a) from I.hok p _ hp).1
  obtain ⟨z, hd, vs, rel, o, es, ep, ho, hx, hdat, hko, hpr, hnd⟩ := dk_of I.hok ha
  obtain ⟨l1, ent⟩ := ent_of rel hpr
  rw [Array.length_toList] at l1
  rw [List.length_map] at z
  have hh : X.A.handled = none := I.ok.hd hc
  refine DT.sortedI (es := es) (ep := ep) hh view ⟨o, ho, hx, hdat⟩ (by omega) fun h' tk as hk hlt hl hG => ?_
  have lak : as.length = ls.length := by omega
  have nd : as.Nodup := List.Pairwise.imp (fun h => Nat.ne_of_lt h) hG.rise
  have pr : ∀ (j : Nat) (b : Addr), as[j]? = some b → ∃ (l : Lit) (t : Tok), ls[j]? = some l ∧ h'.get? b = some { cls := .type "tuple", data := .seq #[Value.str l.1 t, Value.bool l.2] } := by
    intro j b hj
    obtain ⟨en, he, hg⟩ := hG.pairs j b hj
    obtain ⟨l, t, q1, q2, q3⟩ := ent j en (by rw [Array.getElem?_toList]; exact he)
    rw [q2, q3] at hg
    exact ⟨l, t, q1, hg⟩
  have hob : (h'.push { cls := .type "list", data := .seq (as.map Value.ref).toArray }).get? h'.objs.size = some (seqObj "list" (as.map Value.ref).toArray 0) := Heap.get?_push_size _ rfl
  have kb : ∀ b o, s.heap.get? b = some o → (h'.push { cls := .type "list", data := .seq (as.map Value.ref).toArray }).get? b = some o := fun b o e => Heap.get?_push_of_some _ (hk b o e)
  have ne0 : ∀ b o, h'.get? b = some o → b ≠ h'.objs.size := fun b o e => Nat.ne_of_lt (Heap.lt_size e)
  generalize hh2 : h'.push { cls := .type "list", data := .seq (as.map Value.ref).toArray } = h2 at hob kb ⊢
  have ka : ∀ b o, h'.get? b = some o → h2.get? b = some o := fun b o e => by rw [← hh2]; exact Heap.get?_push_of_some _ e
  have at_ : ∀ v ∈ as.map Value.ref, ∃ (j : Nat) (b : Addr) (l : Lit) (t : Tok), v = .ref b ∧ as[j]? = some b ∧ ls[j]? = some l ∧ h'.get? b = some { cls := .type "tuple", data := .seq #[Value.str l.1 t, Value.bool l.2] } := by
    intro v hv'
    obtain ⟨b, hb, rfl⟩ := List.mem_map.mp hv'
    obtain ⟨j, hj⟩ := List.mem_iff_getElem?.mp hb
    obtain ⟨l, t, q1, q2⟩ := pr j b hj
    exact ⟨j, b, l, t, rfl, hj, q1, q2⟩
  have eR : ∀ (bs : List Addr) (ms : List Lit) (k : Nat), bs.length = ms.length → (∀ j b, bs[j]? = some b → as[k + j]? = some b) → (∀ j l, ms[j]? = some l → ls[k + j]? = some l) → PySem.W.EachIs (fun v (l : Lit) => ∃ (j : Nat) (b : Addr), v = .ref b ∧ as[j]? = some b ∧ ls[j]? = some l) (bs.map Value.ref) ms := by
    intro bs
    induction bs with
    | nil =>
      intro ms k e _ _
      cases ms with
      | nil => exact .nil
      | cons m ms => cases e
    | cons b bs ih =>
      intro ms k e h1 h2
      cases ms with
      | nil => cases e
      | cons m ms =>
        refine .cons ⟨k, b, rfl, h1 0 b rfl, h2 0 m rfl⟩ (ih ms (k + 1) (Nat.succ.inj e) (fun j c hc => ?_) fun j c hc => ?_)
        · have := h1 (j + 1) c hc
          rw [← this]
          congr 1
          omega
        · have := h2 (j + 1) c hc
          rw [← this]
          congr 1
          omega
  have e0 := eR as ls 0 lak (fun j b h => by rw [Nat.zero_add]; exact h) (fun j l h => by rw [Nat.zero_add]; exact h)
  have er : PySem.W.EachIs (fun v (l : Lit) => ∃ bs, Reads h2 v (litD l) bs ∧ h'.objs.size ∉ bs) (as.map Value.ref) ls := each_imp (fun v l x => by
    obtain ⟨j, b, ev, hj, hl⟩ := x
    obtain ⟨l', t, q1, q2⟩ := pr j b hj
    rw [hl] at q1
    cases q1
    subst ev
    exact ⟨_, Reads.tuple (ka _ _ q2) rfl rfl (.cons (.str _ _) (.cons (.bool _) .nil)), fun h => by cases h⟩) e0
  have hal : PySem.W.AllAlike (ls.map litD) := PySem.W.AllAlike.of fun b b' => by simp [litD, PySem.W.alike, PySem.W.alikeAll]
  have hso : PySem.W.Sortable (ls.map litD) := PySem.W.Sortable.tuples fun b => ⟨_, _, rfl⟩
  have hun : ∀ b, b ∈ ls → X.A.in1.units + 1 + (litD b).depth < cLine := fun b _ => by
    have : (litD b).depth = 1 := by simp [litD, PyData.depth, PyData.depthAll]
    rw [this]
    show X.A.units + 1 + 1 + 1 < cLine
    omega
  refine PySem.W.list_sort_data (s := { s with heap := h2, toks := tk }) (enc := litD) (bs := ls) hob e0 er hal hso z hun ?_
  intro out ho' eo
  · have zs_of : ∀ {us : List Value} {ms : List Lit}, PySem.W.EachIs (fun v (l : Lit) => ∃ (j : Nat) (b : Addr), v = .ref b ∧ as[j]? = some b ∧ ls[j]? = some l) us ms → ∃ zs : List Addr, us = zs.map Value.ref ∧ Paired (fun y (t : Lit) => ∃ j : Nat, as[j]? = some y ∧ ls[j]? = some t) zs ms := by
      intro us ms h
      induction h with
      | nil => exact ⟨[], rfl, .nil⟩
      | cons h1 _ ih =>
        obtain ⟨j, b, rfl, q1, q2⟩ := h1
        obtain ⟨zs, rfl, qs⟩ := ih
        exact ⟨b :: zs, rfl, .cons ⟨j, q1, q2⟩ qs⟩
    obtain ⟨zs, hout, hzs⟩ := zs_of eo
    have kF : ∀ b o, b ≠ h'.objs.size → h2.get? b = some o → (sortedHeap h2 h'.objs.size (as.map Value.ref) out.toArray).get? b = some o := fun b o hb e => (PyProof.Rows.sortedHeap_old hb (Heap.lt_size e)).trans e
    have kS : ∀ b o, s.heap.get? b = some o → (sortedHeap h2 h'.objs.size (as.map Value.ref) out.toArray).get? b = some o := fun b o e => kF b o (ne0 _ _ (hk b o e)) (kb b o e)
    obtain ⟨eF, heF⟩ := PyProof.Rows.sortedHeap_at (vs := as.map Value.ref) (out := out.toArray) hob
    have I1 : Inv X pins σ H { s with heap := sortedHeap h2 h'.objs.size (as.map Value.ref) out.toArray, toks := tk } := I.kept (t' := tk) kS
    have hn0 : H h'.objs.size = none := I.hok.fresh (Nat.le_of_lt hlt)
    have rv : Vals (zs.map V.ref) out := by
      rw [hout]
      exact vals_maps V.ref Value.ref zs fun _ _ => rfl
    have hlen : (zs.map V.ref).length ≤ sizeLine := by
      rw [rv.length, ho']
      exact z
    have I2 : Inv X pins σ (upd H h'.objs.size (.lst (zs.map V.ref))) { s with heap := sortedHeap h2 h'.objs.size (as.map Value.ref) out.toArray, toks := tk } :=
      I1.take (h' := sortedHeap h2 h'.objs.size (as.map Value.ref) out.toArray) (t' := tk) (fun b ob _ e => e) (I.fpOk (Nat.le_of_lt hlt) hn0) ⟨hlen, out, eF, rv, heF⟩
    obtain ⟨H2, I3, g, qt⟩ := takeT (P := fun b vs => ∃ (j : Nat) (l : Lit), as[j]? = some b ∧ ls[j]? = some l ∧ vs = [.str l.1, .bl l.2]) I as _ I2 nd fun b hb => by
      obtain ⟨j, hj⟩ := List.mem_iff_getElem?.mp hb
      obtain ⟨l, t, hl', hg⟩ := pr j b hj
      have hbl : s.heap.objs.size ≤ b := Nat.le_of_lt (hG.above b hb)
      refine ⟨hbl, ?_, [.str l.1, .bl l.2], ⟨j, l, hj, hl', rfl⟩, fun H3 => ⟨(by rw [sizeLine_eq]; show 2 ≤ 16777216; omega), [Value.str l.1 t, Value.bool l.2], .cons ⟨t, rfl⟩ (.cons rfl .nil), ⟨_, kF _ _ (ne0 _ _ hg) (ka _ _ hg), rfl, 0, rfl⟩⟩⟩
      rw [upd_ne (ne0 _ _ hg)]
      exact I.hok.fresh hbl
    have gr : ∀ b o, H b = some o → H2 b = some o := fun b o e => g b o (by rw [upd_ne (ne_of_none e hn0)]; exact e)
    refine ⟨.ref h'.objs.size, H2, I3, rfl, q H2 h'.objs.size zs gr hn0 (g _ _ upd_same) (Paired.mapP hzs fun y t ⟨i, i1, i2⟩ => ?_)⟩
    obtain ⟨vs, ⟨j, l, j1, j2, ev⟩, hH⟩ := qt y (List.mem_of_getElem? i1)
    have eij : i = j := (List.getElem?_inj (List.getElem?_eq_some_iff.mp i1).1 nd).mp (i1.trans j1.symm)
    subst eij
    rw [i2] at j2
    cases j2
    rw [ev] at hH
    exact hH
end
end Dl

set_option maxRecDepth 100000
set_option maxHeartbeats 4000000
namespace My
open PySem PySem.Spec PyProof.Rows L2 Dl
def top (i : Nat) : Stmt := PySem.Challenge.pw_middlesay_k17_chains_trimmed.main.body.getD i (.Pass ⟨0, 0, 0, 0⟩)
abbrev FnP (K : PySem.W.Frag) (x : Str) (st : Stmt) (f : Addr) (fd : FuncData) : Prop := FunD K x x (defArgs st) (defBody st) (defScope st) [] [] f fd
abbrev sWo : Stmt := top 7
abbrev sNa : Stmt := top 11
abbrev sLi : Stmt := top 12
abbrev sCl : Stmt := top 13
theorem scWo : FnScope ["thing", "sign"] ["thing"] (defScope sWo) := ⟨rfl, rfl, rfl, by decide +kernel, rfl, by decide +kernel, by decide +kernel⟩
theorem scNa : FnScope ["thing"] ["thing"] (defScope sNa) := ⟨rfl, rfl, rfl, by decide +kernel, rfl, by decide +kernel, by decide +kernel⟩
theorem scLi : FnScope ["thing"] ["thing"] (defScope sLi) := ⟨rfl, rfl, rfl, by decide +kernel, rfl, by decide +kernel, by decide +kernel⟩
theorem scCl : FnScope ["thing", "literal", "behind"] ["thing"] (defScope sCl) := ⟨rfl, rfl, rfl, by decide +kernel, rfl, by decide +kernel, by decide +kernel⟩
abbrev abc : Str := "abcdefghijklmnopqrstuvwxyz"
abbrev figs : Str := "0123456789"
def barred : List Str := ["not", "and", "or", "gives", "is", "yes", "no"]
/-! ### words, names, clauses, of anything -/
def wordB (x : Str) : Bool := decide ((1 : Int) ≤ (x.length : Int)) && decide ((x.length : Int) ≤ 8) && (!decide (x ∈ barred) && x.cps.toList.all fun c => decide (c ∈ abc.cps.toList))
def wordD : PD → Bool
  | .str x => wordB x
  | _ => false
def nameB (x : Str) : Bool := !decide ((12 : Int) < (x.length : Int)) && wordB (Txt.rstripChars x figs)
def nameD : PD → Bool
  | .str x => nameB x
  | _ => false
def litB : PD → Bool
  | .tuple [n, b] => nameD n && isBool b
  | _ => false
def nameOf : PD → Str
  | .tuple (.str x :: _) => x
  | _ => Str.empty
def risesD : List PD → Bool
  | x :: y :: r => decide ((nameOf x).cps.toList < (nameOf y).cps.toList) && risesD (y :: r)
  | _ => true
def clauseB : PD → Bool
  | .tuple ds => ds.all litB && risesD ds
  | _ => false
/-! texts are not too long -/
mutual
def fewD : PD → Bool
  | .str x => decide (x.length ≤ 1000)
  | .tuple xs => decide (xs.length ≤ 20000) && fewA xs
  | .list xs => decide (xs.length ≤ 20000) && fewA xs
  | _ => true
def fewA : List PD → Bool
  | [] => true
  | x :: xs => fewD x && fewA xs
end
theorem fewA_iff : ∀ {xs : List PD}, fewA xs = true ↔ ∀ x ∈ xs, fewD x = true
  | [] => by simp [fewA]
  | x :: xs => by
    have ih := fewA_iff (xs := xs)
    simp [fewA, ih]
def GWord (ds : List PD) (d : PD) : Prop := ∃ x, ds = [x] ∧ fewD x = true ∧ d = .bool (wordD x)
def GName (ds : List PD) (d : PD) : Prop := ∃ x, ds = [x] ∧ fewD x = true ∧ d = .bool (nameD x)
def GLit (ds : List PD) (d : PD) : Prop := ∃ x, ds = [x] ∧ fewD x = true ∧ d = .bool (litB x)
def GClause (ds : List PD) (d : PD) : Prop := ∃ x, ds = [x] ∧ fewD x = true ∧ d = .bool (clauseB x)
structure Wd (K : PySem.W.Frag) (mg : Str → Option Value) (aB fW fN fL : Addr) (dW dN dL : FuncData) : Prop where
  gML : ∃ t, mg "MOST_LETTERS" = some (.int 8 t)
  gSL : ∃ t, mg "SMALL_LETTERS" = some (.str abc t)
  gMS : ∃ t, mg "MOST_SIGNS" = some (.int 12 t)
  gFI : ∃ t, mg "FIGURES" = some (.str figs t)
  gB : mg "BARRED" = some (.ref aB)
  bB : ∀ H, SqT K H aB (barred.map V.str)
  gW : mg "is_word" = some (.ref fW)
  kW : PySem.W.keepIn K (.ref fW) = true
  bW : Binds K dW ["thing"] []
  gN : mg "is_name" = some (.ref fN)
  kN : PySem.W.keepIn K (.ref fN) = true
  bN : Binds K dN ["thing"] []
  gL : mg "_is_literal" = some (.ref fL)
  kL : PySem.W.keepIn K (.ref fL) = true
  bL : Binds K dL ["thing"] []
  mstr : mg "str" = none
  mtuple : mg "tuple" = none
  mbool : mg "bool" = none
  misinstance : mg "isinstance" = none
  mall : mg "all" = none
  mlen : mg "len" = none
  mzip : mg "zip" = none
theorem flat_strs (ws : List Str) : (ws.map V.str).all flatV = true := by
  rw [List.all_map]
  exact List.all_eq_true.mpr fun _ _ => rfl
theorem inv_strs (z : Str) (ys : List Str) : inV (.str z) (ys.map V.str) = decide (z ∈ ys) := inV_strs z ys
section
variable {P : Program} {w : World} {K : PySem.W.Frag} {mg : Str → Option Value} {base : Heap} {f aB fW fN fL : Addr} {fd dW dN dL : FuncData}
/-- not in a written tuple of texts -/
theorem rd_notInStrs {R : Hp → Hp → Prop} [Edg R] {σ : L2.St} {H : Hp} {ta tb : TE} {x : Str} {ws : List Str} {a : Addr} (ha : DE R K ta σ H (.str x)) (hb : ∀ H (Q : VK), Q (.ref a) H → tb σ H Q) (hs : ∀ H, SqT K H a (ws.map V.str)) : DE R K (tOp (rIn K true) ta tb) σ H (.bool (!decide (x ∈ ws))) := fun H1 g Q q =>
  ha H1 g _ fun v H2 s2 hv => hb H2 _ (by
    cases hv
    refine ⟨a, _, rfl, .inr (hs H2), rfl, flat_strs ws, ?_⟩
    rw [inV_strs]
    exact q _ H2 s2 (.bl _))
theorem not_t {b : Bool} (h : (!b) = true) : b = false := by cases b <;> simp_all
theorem not_f {b : Bool} (h : (!b) = false) : b = true := by cases b <;> simp_all
theorem ok_word {k : Nat} (F : FnP K "is_word" sWo f fd) (T0 : Wd K mg aB fW fN fL dW dN dL) : FnOk P w K mg base CX0 (k + 1) f fd ["thing"] (spD K GWord) := by
  refine F.ok scWo (fun vs H Q E h => ?_) (fun cdv A outer s H vs Q E hr h => ?_)
  · obtain ⟨ds, d, hv, ⟨x, rfl, _⟩, _⟩ := h
    rw [dpa_len hv]
    rfl
  obtain ⟨ds, d, hv, ⟨x, rfl, hf, rfl⟩, q⟩ := h
  cases hv with
  | @cons v _ _ _ hd hv =>
  cases hv
  obtain ⟨tML, gML⟩ := T0.gML
  obtain ⟨tSL, gSL⟩ := T0.gSL
  refine ⟨_, PSs.nox (pss_cons (ps_if (PW.pt (pw_or (pt_not (pt_val (pe_callB call_isi (by rfl) T0.misinstance (by decide +kernel) (pa_cons (pv 0) (pa_cons (pe_bltn (v := V.ty "str") (by rfl) T0.mstr (by decide +kernel) rfl) pa_nil))))) (pw_or1 (pt_not (pt_chain op_le op_le pe_int (pe_callB call_len_str (by rfl) T0.mlen PySem.boot_len (pa_cons (pv 0) pa_nil)) (pe_glob (v := V.int 8) (by rfl) gML ⟨_, rfl⟩))))))
 (pss_one (ps_ret pe_bl)) pss_nil)
 (pss_one (ps_ret (pe_and (pe_cmpR op_notIn_seq (pv 0) (pe_glob (v := V.ref aB) (by rfl) T0.gB rfl) rfl) (pe_one (pe_callB (cr_all rfl) (by rfl) T0.mall (by decide +kernel) (pa_cons (pe_lc (own := [("sign", 1)]) (g := gName 1) (tt := tYes) (by rfl) scWo.nd (pi_str (pv 0)) (blkOk_by (own := [("sign", 1)]) (N := ["thing", "sign"]) (sc := defScope sWo) (by decide +kernel)) (fun _ _ _ _ _ => pg_name (i := 1) scWo.nd rfl (Or.inl rfl)) (fun _ _ _ _ _ => pts_nil) (fun _ _ _ _ _ => (pe_cmpR op_in_sign (pv 1) (pe_glob (v := V.str abc) (by rfl) gSL ⟨_, rfl⟩) rfl))) pa_nil))))))), ?_⟩
  cases e : isStr x with
  | false =>
    refine s_if Same (K := K) (b := true) (bt_is (bt_or (c := true) (bt_not (bt_B (de_isi (de_var rfl hd) (kit_str x)))) fun h => by rw [e] at h; cases h) (by rw [e]; rfl)) (fun _ H1 s1 => ?_) (fun h => by cases h)
    have ew : wordD x = false := by cases x <;> first | rfl | cases e
    rw [ew] at q
    exact s_ret Same de_bl fun v H2 s2 h2 => q v H2 (s1.trans s2) h2
  | true =>
    obtain ⟨z, rfl⟩ : ∃ z, x = .str z := by cases x <;> first | exact ⟨_, rfl⟩ | cases e
    have hz : z.length ≤ 1000 := of_decide_eq_true hf
    refine s_if Same (K := K) (bt_or (bt_not (bt_B (de_isi (de_var rfl hd) (kit_str _)))) fun _ => bt_not (bt_chain (g := .none) de_int (de_cb (da_cons (de_var rfl hd) da_nil) (rc_lenS (by omega))) rd_b (fun _ => de_con fun _ => .int 8) fun _ => rd_b)) (fun h H1 s1 => ?_) (fun h H1 s1 => ?_)
    · have ew : wordD (.str z) = false := by
        show (decide _ && decide _ && _) = false
        have h' : (decide ((1 : Int) ≤ (z.length : Int)) && decide ((z.length : Int) ≤ 8)) = false := not_t h
        rw [h', Bool.false_and]
      rw [ew] at q
      exact s_ret Same de_bl fun v H2 s2 h2 => q v H2 (s1.trans s2) h2
    · have h' : (decide ((1 : Int) ≤ (z.length : Int)) && decide ((z.length : Int) ≤ 8)) = true := not_f h
      have ew : wordD (.str z) = (!decide (z ∈ barred) && z.cps.toList.all fun c => decide (c ∈ abc.cps.toList)) := by
        show (decide _ && decide _ && _) = _
        rw [h', Bool.true_and]
      rw [ew] at q
      have hd1 := dpk s1 hd
      refine s_ret Same (de_andV (rd_notInStrs (a := aB) (de_var rfl hd1) (fun H Q q => q) T0.bB) fun _ => de_all (le_map (src_str (de_var rfl hd1)) ?_ (fun _ => rfl) (fun c _ w H' r hw => de_op (de_var rfl hw) (de_con fun _ => .str abc) rd_inSign) (fun _ _ => rfl))) fun v H2 s2 h2 => q v H2 (s1.trans s2) h2
      rw [Array.length_toList]
      exact Nat.le_trans hz (by decide)
theorem few_str {z : Str} (h : fewD (.str z) = true) : z.length ≤ 1000 := of_decide_eq_true h
theorem few_tup {ds : List PD} (h : fewD (.tuple ds) = true) : ds.length ≤ 20000 ∧ ∀ x ∈ ds, fewD x = true := by
  have h' : (decide (ds.length ≤ 20000) && fewA ds) = true := h
  obtain ⟨h1, h2⟩ := Bool.and_eq_true_iff.mp h'
  exact ⟨of_decide_eq_true h1, fewA_iff.mp h2⟩
theorem rstrip_len (z u : Str) : (Txt.rstripChars z u).length ≤ z.length :=
  len_rstripChars z u
theorem ok_name {k : Nat} (F : FnP K "is_name" sNa f fd) (GW : FnOk P w K mg base CX0 k fW dW ["thing"] (spD K GWord)) (T0 : Wd K mg aB fW fN fL dW dN dL) : FnOk P w K mg base CX0 (k + 1) f fd ["thing"] (spD K GName) := by
  refine F.ok scNa (fun vs H Q E h => ?_) (fun cdv A outer s H vs Q E hr h => ?_)
  · obtain ⟨ds, d, hv, ⟨x, rfl, _⟩, _⟩ := h
    rw [dpa_len hv]
    rfl
  obtain ⟨ds, d, hv, ⟨x, rfl, hf, rfl⟩, q⟩ := h
  cases hv with
  | @cons v _ _ _ hd hv =>
  cases hv
  obtain ⟨tMS, gMS⟩ := T0.gMS
  obtain ⟨tFI, gFI⟩ := T0.gFI
  refine ⟨_, PSs.nox (pss_cons (ps_if (PW.pt (pw_or (pt_not (pt_val (pe_callB call_isi (by rfl) T0.misinstance (by decide +kernel) (pa_cons (pv 0) (pa_cons (pe_bltn (v := V.ty "str") (by rfl) T0.mstr (by decide +kernel) rfl) pa_nil))))) (pw_or1 (pt_cmpR op_gt (pe_callB call_len_str (by rfl) T0.mlen PySem.boot_len (pa_cons (pv 0) pa_nil)) (pe_glob (v := V.int 12) (by rfl) gMS ⟨_, rfl⟩) (nomark _)))))
 (pss_one (ps_ret pe_bl)) pss_nil)
 (pss_one (ps_ret (pe_call GW hr (by rfl) T0.gW T0.kW T0.bW .nil pass0 (pa_cons (pe_bm PySem.F.plainAttrs_str PySem.F.slot_str_rstrip PySem.F.type_str_rstrip mt_rstripChars (pv 0) (pa_cons (pe_glob (v := V.str figs) (by rfl) gFI ⟨_, rfl⟩) pa_nil)) pa_nil))))), ?_⟩
  cases e : isStr x with
  | false =>
    refine s_if Same (K := K) (b := true) (bt_is (bt_or (c := true) (bt_not (bt_B (de_isi (de_var rfl hd) (kit_str x)))) fun h => by rw [e] at h; cases h) (by rw [e]; rfl)) (fun _ H1 s1 => ?_) (fun h => by cases h)
    have ew : nameD x = false := by cases x <;> first | rfl | cases e
    rw [ew] at q
    exact s_ret Same de_bl fun v H2 s2 h2 => q v H2 (s1.trans s2) h2
  | true =>
    obtain ⟨z, rfl⟩ : ∃ z, x = .str z := by cases x <;> first | exact ⟨_, rfl⟩ | cases e
    have hz := few_str hf
    refine s_if Same (K := K) (bt_or (bt_not (bt_B (de_isi (de_var rfl hd) (kit_str _)))) fun _ => bt_test (de_op (de_cb (da_cons (de_var rfl hd) da_nil) (rc_lenS (by omega))) (de_con fun _ => .int 12) rd_b)) (fun h H1 s1 => ?_) (fun h H1 s1 => ?_)
    · have ew : nameD (.str z) = false := by
        show (!decide _ && _) = false
        have h' : decide ((12 : Int) < (z.length : Int)) = true := by simpa [isStr] using h
        rw [h']
        rfl
      rw [ew] at q
      exact s_ret Same de_bl fun v H2 s2 h2 => q v H2 (s1.trans s2) h2
    · have h' : decide ((12 : Int) < (z.length : Int)) = false := by simpa [isStr] using h
      have ew : nameD (.str z) = wordD (.str (Txt.rstripChars z figs)) := by
        show (!decide _ && _) = wordB _
        rw [h']
        rfl
      rw [ew] at q
      have hd1 := dpk s1 hd
      refine s_ret Same (de_call (da_cons (de_bm (de_var rfl hd1) (da_cons (de_con fun _ => .str figs) da_nil) ty_str (rm_rstrip (by omega))) da_nil) ⟨_, rfl, ?_, rfl⟩) fun v H2 s2 h2 => q v H2 (s1.trans s2) h2
      exact decide_eq_true (Nat.le_trans (rstrip_len _ _) hz)
theorem ok_literal {k : Nat} (F : FnP K "_is_literal" sLi f fd) (GN : FnOk P w K mg base CX0 k fN dN ["thing"] (spD K GName)) (T0 : Wd K mg aB fW fN fL dW dN dL) : FnOk P w K mg base CX0 (k + 1) f fd ["thing"] (spD K GLit) := by
  refine F.ok scLi (fun vs H Q E h => ?_) (fun cdv A outer s H vs Q E hr h => ?_)
  · obtain ⟨ds, d, hv, ⟨x, rfl, _⟩, _⟩ := h
    rw [dpa_len hv]
    rfl
  obtain ⟨ds, d, hv, ⟨x, rfl, hf, rfl⟩, q⟩ := h
  cases hv with
  | @cons v _ _ _ hd hv =>
  cases hv
  refine ⟨_, PSs.nox (pss_cons (ps_if (PW.pt (pw_or (pt_not (pt_val (pe_callB call_isi (by rfl) T0.misinstance (by decide +kernel) (pa_cons (pv 0) (pa_cons (pe_bltn (v := V.ty "tuple") (by rfl) T0.mtuple (by decide +kernel) rfl) pa_nil))))) (pw_or1 (pt_cmpR op_ne (pe_callB call_len_seq (by rfl) T0.mlen PySem.boot_len (pa_cons (pv 0) pa_nil)) pe_int (nomark _)))))
 (pss_one (ps_ret pe_bl)) pss_nil)
 (pss_one (ps_ret (pe_and (pe_call GN hr (by rfl) T0.gN T0.kN T0.bN .nil pass0 (pa_cons (pe_ix ix_tup (pv 0) pe_int (fun _ _ => rfl)) pa_nil)) (pe_one (pe_callB call_isi (by rfl) T0.misinstance (by decide +kernel) (pa_cons (pe_ix ix_tup (pv 0) pe_int (fun _ _ => rfl)) (pa_cons (pe_bltn (v := V.ty "bool") (by rfl) T0.mbool (by decide +kernel) rfl) pa_nil)))))))), ?_⟩
  cases e : isTup x with
  | false =>
    refine s_if Same (K := K) (b := true) (bt_is (bt_or (c := true) (bt_not (bt_B (de_isi (de_var rfl hd) (kit_tup x)))) fun h => by rw [e] at h; cases h) (by rw [e]; rfl)) (fun _ H1 s1 => ?_) (fun h => by cases h)
    have ew : litB x = false := by cases x <;> first | rfl | cases e
    rw [ew] at q
    exact s_ret Same de_bl fun v H2 s2 h2 => q v H2 (s1.trans s2) h2
  | true =>
    obtain ⟨ds, rfl⟩ : ∃ z, x = .tuple z := by cases x <;> first | exact ⟨_, rfl⟩ | cases e
    obtain ⟨hl, hfs⟩ := few_tup hf
    refine s_if Same (K := K) (bt_or (bt_not (bt_B (de_isi (de_var rfl hd) (kit_tup _)))) fun _ => bt_test (de_op (de_cb (da_cons (de_var rfl hd) da_nil) rc_lenT) de_int rd_neI)) (fun h H1 s1 => ?_) (fun h H1 s1 => ?_)
    · have h' : ds.length ≠ 2 := by
        intro h2
        rw [h2] at h
        exact absurd h (by simp [isTup])
      have ew : litB (.tuple ds) = false := by
        match ds, h' with
        | [], _ => rfl
        | [_], _ => rfl
        | [_, _], h' => exact absurd rfl h'
        | _ :: _ :: _ :: _, _ => rfl
      rw [ew] at q
      exact s_ret Same de_bl fun v H2 s2 h2 => q v H2 (s1.trans s2) h2
    · have h' : ds.length = 2 := by
        have : (!decide ((ds.length : Int) = 2)) = false := by simpa [isTup] using h
        have := of_decide_eq_true (by simpa using this : decide ((ds.length : Int) = 2) = true)
        omega
      obtain ⟨a, b, rfl⟩ : ∃ a b, ds = [a, b] := by
        match ds, h' with
        | [a, b], _ => exact ⟨a, b, rfl⟩
      have ew : litB (.tuple [a, b]) = (nameD a && isBool b) := rfl
      rw [ew] at q
      have hd1 := dpk s1 hd
      exact s_ret Same (de_andV (de_call (da_cons (de_op (de_var rfl hd1) de_int (rd_ixT (f := a) rfl)) da_nil) ⟨_, rfl, hfs a List.mem_cons_self, rfl⟩) fun _ => de_isi (de_op (de_var rfl hd1) de_int (rd_ixT (f := b) rfl)) (kit_bool b)) fun v H2 s2 h2 => q v H2 (s1.trans s2) h2
theorem lit_of {x : PD} (h : litB x = true) : ∃ (n : Str) (b : Bool), x = .tuple [.str n, .bool b] ∧ nameB n = true := by
  match x, h with
  | .tuple [n, b], h =>
    obtain ⟨h1, h2⟩ := Bool.and_eq_true_iff.mp (show (nameD n && isBool b) = true from h)
    cases n with
    | str n => cases b with
      | bool b => exact ⟨n, b, rfl, h1⟩
      | _ => cases h2
    | _ => cases h1
theorem rises_zip : ∀ ds : List PD, ((ds.zip (ds.drop 1)).all fun p => decide ((nameOf p.1).cps.toList < (nameOf p.2).cps.toList)) = risesD ds
  | [] => rfl
  | [_] => rfl
  | x :: y :: r => by
    have ih := rises_zip (y :: r)
    show (decide _ && _) = (decide _ && _)
    rw [← ih]
    rfl
theorem ok_clause {k : Nat} (F : FnP K "is_clause" sCl f fd) (GL : FnOk P w K mg base CX0 k fL dL ["thing"] (spD K GLit)) (T0 : Wd K mg aB fW fN fL dW dN dL) : FnOk P w K mg base CX0 (k + 1) f fd ["thing"] (spD K GClause) := by
  refine F.ok scCl (fun vs H Q E h => ?_) (fun cdv A outer s H vs Q E hr h => ?_)
  · obtain ⟨ds, d, hv, ⟨x, rfl, _⟩, _⟩ := h
    rw [dpa_len hv]
    rfl
  obtain ⟨ds, d, hv, ⟨x, rfl, hf, rfl⟩, q⟩ := h
  cases hv with
  | @cons v _ _ _ hd hv =>
  cases hv
  refine ⟨_, PSs.nox (pss_cons (ps_if (PW.pt (pw_or (pt_not (pt_val (pe_callB call_isi (by rfl) T0.misinstance (by decide +kernel) (pa_cons (pv 0) (pa_cons (pe_bltn (v := V.ty "tuple") (by rfl) T0.mtuple (by decide +kernel) rfl) pa_nil))))) (pw_or1 (pt_not (pt_val (pe_callB (cr_all rfl) (by rfl) T0.mall (by decide +kernel) (pa_cons (pe_lc (own := [("literal", 1)]) (g := gName 1) (tt := tYes) (by rfl) scCl.nd (pi_tup (pv 0)) (blkOk_by (own := [("literal", 1)]) (N := ["thing", "literal", "behind"]) (sc := defScope sCl) (by decide +kernel)) (fun _ _ _ _ _ => pg_name (i := 1) scCl.nd rfl (Or.inl rfl)) (fun _ _ _ _ _ => pts_nil) (fun _ _ _ _ _ => (pe_call GL hr (by rfl) T0.gL T0.kL T0.bL .nil pass0 (pa_cons (pv 1) pa_nil)))) pa_nil)))))))
 (pss_one (ps_ret pe_bl)) pss_nil)
 (pss_one (ps_ret (pe_callB (cr_all rfl) (by rfl) T0.mall (by decide +kernel) (pa_cons (pe_lc (own := [("literal", 1), ("behind", 2)]) (g := gTup K 2 (gCons (gName 1) (gCons (gName 2) gNil))) (tt := tYes) (by rfl) scCl.nd (RZ.pi_zipA (by rfl) T0.mzip (pa_cons (pv 0) (pa_cons (pe_slice sl_tupA (pv 0) (po_some pe_int) po_none) pa_nil))) (blkOk_by (own := [("literal", 1), ("behind", 2)]) (N := ["thing", "literal", "behind"]) (sc := defScope sCl) (by decide +kernel)) (fun _ _ _ _ _ => pg_tup (by rfl) (pgs_cons (pg_name (i := 1) scCl.nd rfl (Or.inl rfl)) (pgs_cons (pg_name (i := 2) scCl.nd rfl (Or.inl rfl)) pgs_nil))) (fun _ _ _ _ _ => pts_nil) (fun _ _ _ _ _ => (pe_cmpR op_lt_str (pe_ix (show IxR _ (rIxT K) from ix_tup) (pv 1) pe_int (fun _ _ => rfl)) (pe_ix (show IxR _ (rIxT K) from ix_tup) (pv 2) pe_int (fun _ _ => rfl)) (nomark _)))) pa_nil))))), ?_⟩
  cases e : isTup x with
  | false =>
    refine s_if Same (K := K) (b := true) (bt_is (bt_or (c := true) (bt_not (bt_B (de_isi (de_var rfl hd) (kit_tup x)))) fun h => by rw [e] at h; cases h) (by rw [e]; rfl)) (fun _ H1 s1 => ?_) (fun h => by cases h)
    have ew : clauseB x = false := by cases x <;> first | rfl | cases e
    rw [ew] at q
    exact s_ret Same de_bl fun v H2 s2 h2 => q v H2 (s1.trans s2) h2
  | true =>
    obtain ⟨ds, rfl⟩ : ∃ z, x = .tuple z := by cases x <;> first | exact ⟨_, rfl⟩ | cases e
    obtain ⟨hl, hfs⟩ := few_tup hf
    have ew : clauseB (.tuple ds) = (ds.all litB && risesD ds) := rfl
    have hl2 : ds.length ≤ 50000 := Nat.le_trans hl (by decide)
    refine s_if Same (K := K) (bt_or (bt_not (bt_B (de_isi (de_var rfl hd) (kit_tup _)))) fun _ => bt_not (bt_B (de_all (p := litB) (le_map (enc := id) (xs := ds) (src_tup (de_is (de_var rfl hd) (by rw [List.map_id]))) hl2 (fun _ => rfl) (fun x hx w H' r hw => de_call (da_cons (de_var rfl hw) da_nil) ⟨_, rfl, hfs x hx, rfl⟩) (fun _ _ => rfl))))) (fun h H1 s1 => ?_) (fun h H1 s1 => ?_)
    · have h' : ds.all litB = false := not_t h
      rw [ew, h'] at q
      exact s_ret Same de_bl fun v H2 s2 h2 => q v H2 (s1.trans s2) h2
    · have h' : ds.all litB = true := not_f h
      rw [ew, h', Bool.true_and, ← rises_zip] at q
      have hd1 := dpk s1 hd
      have hls := List.all_eq_true.mp h'
      refine s_ret Same (de_all (le_map2 (xs := ds.zip (ds.drop 1)) (e1 := Prod.fst) (e2 := Prod.snd) (src_zipT (da_cons (de_var rfl hd1) (da_cons (de_is (de_slT (de_var rfl hd1) (do_some de_int) do_none) (by rw [show (1 : Int) = ((1 : Nat) : Int) from rfl, cutD_from])) da_nil))) ?_ (fun _ _ => rfl) (fun p hp w w' H' r hw hw' => ?_) (fun _ _ => rfl))) fun v H2 s2 h2 => q v H2 (s1.trans s2) h2
      · rw [List.length_zip]
        exact Nat.le_trans (Nat.min_le_left _ _) hl2
      · obtain ⟨m1, m2⟩ := List.of_mem_zip hp
        obtain ⟨n1, b1, e1, _⟩ := lit_of (hls _ m1)
        obtain ⟨n2, b2, e2, _⟩ := lit_of (hls _ (List.mem_of_mem_drop m2))
        rw [e1] at hw
        rw [e2] at hw'
        have q1 : nameOf p.1 = n1 := by rw [e1]; rfl
        have q2 : nameOf p.2 = n2 := by rw [e2]; rfl
        rw [q1, q2]
        exact de_op (de_op (de_var rfl hw) de_int (rd_ixT (f := .str n1) rfl)) (de_op (de_var rfl hw') de_int (rd_ixT (f := .str n2) rfl)) rd_ltS
end
end My

set_option maxRecDepth 100000
set_option maxHeartbeats 4000000
namespace Dl
open PySem PySem.Spec PyProof.Rows L2 My
/-! ### len and == by a class's own -/
section
variable {X : Cx} {n : Nat}
def rLenOwn (C : Addr) (sp : Sp) (E : XK) : List V → Hp → VK → Prop := fun vs H Q => ∃ (a dx : Addr) (fs : List (Str × V)), vs = [.ref a] ∧ H a = some (.ins C dx fs) ∧ sp [.ref a] H (fun v H' => ∃ k : Nat, v = .int (k : Int) ∧ k < 2 ^ 62 ∧ Q (.int (k : Int)) H') E
theorem call_lenOwn {CX : CXT} {C f : Addr} {fd : FuncData} {ps : List Str} {sp : Sp} {E : XK} (F : FnOk X.prog X.w X.K X.mg X.base CX n f fd ps sp) (hr : Room (n + 1) X.A)
    (hs : PySem.W.findIn X.K (.ref C) "__len__" = some (some (.ref f))) (hf : PySem.W.isFn X.K (.ref f) = true) (hb : Binds X.K fd ps []) (hx : Passes CX X E) : CallR X (.builtin "len") (rLenOwn C sp E) := by
  intro pins s σ H vs us Q I r h
  obtain ⟨a, dx, fs, rfl, ha, hsp⟩ := h
  obtain rfl := Vals.ref1 r
  obtain ⟨mA, J, _⟩ := ins_get I.hok ha
  obtain ⟨od, J, _⟩ := J.look
  obtain ⟨m, hF⟩ := I.fr
  refine PySem.W.len_K hF I.ok.mod.kin J hs hf ?_
  have hl := F.len _ _ _ _ hsp
  have r2 : Vals [V.ref a] [Value.ref a] := .cons rfl .nil
  refine wpAny_call (codeAny_mono (F.run X.A.in1 X.stack s H ⟨[.ref a], []⟩ [.ref a] [.ref a] _ E hr.in1 I.env0.in1 (by
    have := hb s [.ref a] I.kIn (by simpa using hl)
    simpa using this) r2 hsp) fun r s' hq => ?_)
  cases r with
  | error e => exact hx pins σ H s e s' I hq
  | ok fl =>
    cases fl with
    | ret w =>
      obtain ⟨z, H', I', rz, k, ez, hk, q⟩ := I.after hq
      subst ez
      obtain ⟨t, rfl⟩ := rz
      exact ⟨⟨Int.natCast_nonneg _, by omega⟩, .int (k : Int), H', I'.tok _, ⟨_, rfl⟩, q⟩
    | next => exact False.elim hq
    | brk => exact False.elim hq
    | cont => exact False.elim hq
/-- a == b, both of the class -/
def rEqOwn (C : Addr) (sp : Sp) (E : XK) : R2 := fun x y H Q => ∃ (a b dx dy : Addr) (fs gs : List (Str × V)), x = .ref a ∧ y = .ref b ∧ H a = some (.ins C dx fs) ∧ H b = some (.ins C dy gs) ∧ sp [.ref a, .ref b] H (fun v H' => ∃ k : Bool, v = .bl k ∧ Q (.bl k) H') E
theorem op_eqOwn {CX : CXT} {C f : Addr} {fd : FuncData} {ps : List Str} {sp : Sp} {E : XK} (F : FnOk X.prog X.w X.K X.mg X.base CX n f fd ps sp) (hr : Room n X.A)
    (hs : PySem.W.findIn X.K (.ref C) "__eq__" = some (some (.ref f))) (hf : PySem.W.isFn X.K (.ref f) = true) (hb : Binds X.K fd ps []) (hx : Passes CX X E) : OpR X (compareOp .Eq) (rEqOwn C sp E) := by
  intro pins s σ H x y v u Q I rx ry h
  obtain ⟨a, b, dx, dy, fs, gs, rfl, rfl, ha, hb', hsp⟩ := h
  cases rx
  cases ry
  obtain ⟨mA, J, _⟩ := ins_get I.hok ha
  obtain ⟨mB, J', _⟩ := ins_get I.hok hb'
  obtain ⟨od, J, _⟩ := J.look
  obtain ⟨od', J', _⟩ := J'.look
  obtain ⟨m, hF⟩ := I.fr
  show wpAny (model X.prog X.w) X.A (richCompare .Eq (.ref a) (.ref b)) (EP X pins σ Q) X.xe s
  refine PySem.W.cmp_K (op := .Eq) (tb := .ref C) hr.units0 hF I.ok.mod.kin J J'.type (by simp [PySem.W.notFirst]) hs hf ?_
  have hl := F.len _ _ _ _ hsp
  have r2 : Vals [V.ref a, V.ref b] [Value.ref a, Value.ref b] := .cons rfl (.cons rfl .nil)
  refine wpAny_call (codeAny_mono (F.run X.A X.stack s H ⟨[.ref a, .ref b], []⟩ [.ref a, .ref b] [.ref a, .ref b] _ E hr I.env0 (by
    have := hb s [.ref a, .ref b] I.kIn (by simpa using hl)
    simpa using this) r2 hsp) fun r s' hq => ?_)
  cases r with
  | error e => exact hx pins σ H s e s' I hq
  | ok fl =>
    cases fl with
    | ret w =>
      obtain ⟨z, H', I', rz, k, ez, q⟩ := I.after hq
      subst ez
      cases rz
      exact ⟨.bl k, H', I', rfl, q⟩
    | next => exact False.elim hq
    | brk => exact False.elim hq
    | cont => exact False.elim hq
/-- isinstance(e, (S, T)) of data -/
theorem de_isi2 {R : Hp → Hp → Prop} [Edg R] {K : PySem.W.Frag} {σ : L2.St} {H : Hp} {te : TE} {d : PD} {m n : String} {b c : Bool} (h : DE R K te σ H d) (hm : kitB (tyD d) m = some b) (hn : kitB (tyD d) n = some c) : DE R K (tCB (rIsiT K) (tCons te (tCons (tTup (tCons (tC (.ty m)) (tCons (tC (.ty n)) tNil))) tNil))) σ H (.bool (b || c)) := fun H1 g Q q => h H1 g _ fun v H2 s hv =>
  ⟨by show 2 ≤ sizeLine; decide, fun p np => ⟨v, p, [.ty m, .ty n], _, [.type m, .type n], b || c, rfl, upd_same, .cons (.ty _) (.cons (.ty _) .nil), dp_ty (dpk (same_newD np _) hv),
    kitAny_cons (kit_ty hm) (fun e => kitAny_cons (kit_ty hn) (fun e2 => by rw [e, e2]; exact kitAny_nil) (fun e2 => by rw [e, e2]; rfl)) (fun e => by rw [e]; rfl), q _ _ (s.trans (same_newD np _)) (.bl _)⟩⟩
end
/-! ### loops over what a name holds, whatever else is changed meanwhile -/
def SrcV (K : PySem.W.Frag) (wi : TI) (σ : L2.St) (H0 : Hp) (ds : List PD) : Prop := ∀ (H1 : Hp) (R : Hp → Hp → Prop) [Edg R], R H0 H1 → ∀ Q : It → Hp → Prop,
  (∀ J (G : Hp → Prop), (∀ (R' : Hp → Hp → Prop) [Edg R'] H', R' H0 H' → G H') → Walk J ds.length G (SrcY K H0 ds) → Q J H1) → wi σ H1 Q
section
variable {K : PySem.W.Frag} {σ : L2.St} {H0 H : Hp} {ds es : List PD} {v u : V} {D : Ends} {tu : TS} {i : Nat}
theorem srcV_list (h : σ[i]? = some (some v)) (hd : Dp K H0 v (.list ds)) : SrcV K (iList K (tVar i)) σ H0 ds := fun H1 R _ g Q q => by
  obtain ⟨a, ys, rfl, hs, ha⟩ := dp_lstI hd
  refine ⟨_, h, a, rfl, ⟨ys, Edg.l g hs⟩, q _ (fun H => SqL K H a ys) (fun R' _ H' r => Edg.l r hs) ?_⟩
  rw [← dpa_len ha]
  refine walk_list.mono (fun _ h => h) fun i H x H' _ _ ⟨e, hx⟩ => ?_
  subst e
  refine ⟨Same.refl _, fun R' _ r => ?_⟩
  obtain ⟨d, e, hd⟩ := dpa_get' ha hx
  exact ⟨d, e, dpk r hd⟩
theorem srcV_tup (h : σ[i]? = some (some v)) (hd : Dp K H0 v (.tuple ds)) : SrcV K (iTup K (tVar i)) σ H0 ds := fun H1 R _ g Q q => by
  obtain ⟨a, ys, rfl, hs, ha⟩ := dp_tupI hd
  refine ⟨_, h, a, rfl, ⟨ys, Edg.t g hs⟩, q _ (fun H => SqT K H a ys) (fun R' _ H' r => Edg.t r hs) ?_⟩
  rw [← dpa_len ha]
  refine walk_tup.mono (fun _ h => h) fun i H x H' _ _ ⟨e, hx⟩ => ?_
  subst e
  refine ⟨Same.refl _, fun R' _ r => ?_⟩
  obtain ⟨d, e, hd⟩ := dpa_get' ha hx
  exact ⟨d, e, dpk r hd⟩
theorem srcV_enum (h : σ[i]? = some (some v)) (hd : Dp K H0 v (.list ds)) : SrcV K (iEnum K (tCons (tVar i) tNil)) σ H0 (ds.zipIdx.map fun p => .tuple [.int (p.2 : Int), p.1]) := fun H1 R _ g Q q => by
  obtain ⟨a, ys, rfl, hs, ha⟩ := dp_lstI hd
  refine ⟨_, h, a, ys, rfl, Edg.l g hs, q _ (fun H => SqL K H a ys) (fun R' _ H' r => Edg.l r hs) ?_⟩
  have e : (ds.zipIdx.map fun p => PyData.tuple [.int (p.2 : Int), p.1]).length = ys.length := by rw [List.length_map, List.length_zipIdx, dpa_len ha]
  rw [e]
  refine walk_enum.mono (fun _ h => h) fun i H x H' hi _ ⟨T, u, w, e1, e2, e3, e4, e5⟩ => ?_
  subst e1 e3
  refine ⟨same_newD e2 _, fun R' _ r => ?_⟩
  obtain ⟨d, e, hd⟩ := dpa_get' ha e5
  cases e4
  refine ⟨_, by rw [List.getElem?_map, List.getElem?_zipIdx, e]; rfl, .tup (SqT.of upd_same) (.cons ?_ (.cons ?_ .nil))⟩
  · rw [Nat.zero_add]
    exact .int _
  · exact dpk (same_newD e2 _) (dpk r hd)
/-- Pv by the turn, the slots and the heap; R': what is kept from H0 on -/
theorem s_forV (R : Hp → Hp → Prop) [Edg R] (R' : Hp → Hp → Prop) [Edg R'] {α : Type} {xs : List α} {enc : α → PD} {j : Nat} {wi : TI} (g : R H0 H) (hs : SrcV K wi σ H0 (xs.map enc)) (Pv : Nat → L2.St → Hp → Prop) (h0 : Pv 0 σ H) (hR : ∀ i σ' H', Pv i σ' H' → R' H0 H')
    (ht : ∀ i x w σ' H' H2, xs[i]? = some x → Pv i σ' H' → Same H' H2 → Dp K H2 w (enc x) → tu { D with nx := Pv (i + 1), ct := Pv (i + 1), bk := D.nx } (σ'.set j (some w)) H2) (hd : ∀ σ' H', Pv xs.length σ' H' → D.nx σ' H') : tFor wi (gName j) tu D σ H :=
  hs H R g _ fun J G hG W => by
    have hl : (xs.map enc).length = xs.length := List.length_map ..
    refine for_it W Pv h0 (fun i σ' H' _ p => hG R' H' (hR i σ' H' p)) ?_ (by rw [hl]; exact hd)
    rintro i v σ' H3 H4 hi p ⟨s34, hY⟩
    obtain ⟨d, ed, hd⟩ := hY R' (hR i σ' H3 p)
    rw [List.getElem?_map] at ed
    cases ex : xs[i]? with
    | none => rw [ex] at ed; cases ed
    | some x =>
      rw [ex] at ed
      cases ed
      exact ht i x v σ' H3 H4 ex p s34 hd
theorem s_forV2 (R : Hp → Hp → Prop) [Edg R] (R' : Hp → Hp → Prop) [Edg R'] {α : Type} {xs : List α} {e1 e2 : α → PD} {j j' : Nat} {wi : TI} (g : R H0 H) (hs : SrcV K wi σ H0 (xs.map fun x => .tuple [e1 x, e2 x])) (Pv : Nat → L2.St → Hp → Prop) (h0 : Pv 0 σ H) (hR : ∀ i σ' H', Pv i σ' H' → R' H0 H')
    (ht : ∀ i x w w' σ' H' H2, xs[i]? = some x → Pv i σ' H' → Same H' H2 → Dp K H2 w (e1 x) → Dp K H2 w' (e2 x) → tu { D with nx := Pv (i + 1), ct := Pv (i + 1), bk := D.nx } ((σ'.set j (some w)).set j' (some w')) H2) (hd : ∀ σ' H', Pv xs.length σ' H' → D.nx σ' H') :
    tFor wi (gTup K 2 (gCons (gName j) (gCons (gName j') gNil))) tu D σ H :=
  hs H R g _ fun J G hG W => by
    have hl : (xs.map fun x => PyData.tuple [e1 x, e2 x]).length = xs.length := List.length_map ..
    refine for_it W Pv h0 (fun i σ' H' _ p => hG R' H' (hR i σ' H' p)) ?_ (by rw [hl]; exact hd)
    rintro i v σ' H3 H4 hi p ⟨s34, hY⟩
    obtain ⟨d, ed, hd⟩ := hY R' (hR i σ' H3 p)
    rw [List.getElem?_map] at ed
    cases ex : xs[i]? with
    | none => rw [ex] at ed; cases ed
    | some x =>
      rw [ex] at ed
      cases ed
      obtain ⟨a, ys, rfl, hT, hy⟩ := dp_tupI hd
      cases hy with
      | @cons w _ _ _ h1 hy =>
        cases hy with
        | @cons w' _ _ _ h2 hy =>
          cases hy
          exact ⟨a, _, rfl, hT, rfl, w, [w'], rfl, w', [], rfl, rfl, ht i x w w' σ' H3 H4 ex p s34 h1 h2⟩
end
section
variable {R : Hp → Hp → Prop} [Edg R] {K : PySem.W.Frag} {σ : L2.St} {H : Hp} {ta tb tc : TE} {r r' : R2} {d e f : PD} {b c : Bool}
/-- a < b < c as a value -/
theorem de_chain (ha : DE R K ta σ H d) (hb : DE R K tb σ H e) (hr : RD K r d e (.bool b)) (hc : b = true → DE R K tc σ H f) (hr' : b = true → RD K r' e f (.bool c)) : DE R K (tChain r r' ta tb tc) σ H (.bool (b && c)) := fun H1 g _ q =>
  ha H1 g _ fun x H2 s2 h2 => hb H2 (Edg.trans g (Edg.same s2)) _ fun y H3 s3 h3 => hr H3 x y (dpk s3 h2) h3 _ fun z H4 s4 h4 => by
    cases h4
    have s24 := (s2.trans s3).trans s4
    refine ⟨b, rfl, ?_⟩
    cases b with
    | false => exact iteF (q _ H4 s24 (.bl _))
    | true =>
      refine iteT (hc rfl H4 (Edg.trans g (Edg.same s24)) _ fun w H5 s5 h5 => ?_)
      refine hr' rfl H5 y w (dpk (s4.trans s5) h3) h5 _ fun z H6 s6 h6 => ?_
      exact q _ H6 ((s24.trans s5).trans s6) h6
end
end Dl

set_option maxRecDepth 100000
set_option maxHeartbeats 4000000
/-! Classes of errors over five built-in ones, each with an __init__ that stores its one parameter: made as values, their field read, asked by isinstance. KeyError makes its instances by LookupError's __new__. -/
namespace XE
open PySem PySem.W PySem.Calls PyProof.Rows
abbrev mroK : List Value := [.type "KeyError", .type "LookupError", .type "Exception", .type "BaseException", .type "object"]
theorem slot_key : Slot "KeyError" "__setattr__" "object.__setattr__" := .of (owner := "object")
  (n := "__setattr__")
  (by
    rw [typeLookup_type, builtinLookup_eq_fast]
    kernel_rfl)
  (by decide +kernel) (by decide +kernel) (by decide +kernel)
  (by
    first
      | exact .inl (by decide +kernel)
      | exact .inr (by decide +kernel))
  (by
    rw [isSubtype_type]
    kernel_rfl)
theorem store_key : StoreFacts "KeyError" mroK "object.__setattr__" "object" :=
  { mro := by kernel_rfl
    slot := slot_key
    entry := PySem.F.store_object.entry
    kind := PySem.F.store_object.kind
    split := PySem.F.store_object.split
    hasOwner := by decide +kernel
    args := PySem.F.store_object.args
    passes := fun self => by kernel_rfl }
section
variable {prog : Program} {w : World} {A : Around} {E : Value → Shared → Prop} {R : Result → Shared → Prop} {h : Heap} {g : Array GenState} {d : Drawn} {t : Nat} {os : OsState}
variable {nm q : Str} {C N : Addr} {bs bm : List Value} {hdct : Bool} {sn : List Str} {sub : List Value} {ab : Bool} {col : Option Bool} {dd : Option Addr} {k0 k1 k2 k3 k5 : Option Value}
/-- what a list of classes says of a KeyError -/
structure Keyed (bm : List Value) : Prop where
  own : bm.contains (.type "LookupError") = true
  noA : bm.contains (.type "AttributeError") = false
  noN : bm.contains (.type "NameError") = false
theorem keyed_of (hT : ∀ X : String, bm.contains (.type X) = mroK.contains (.type X)) : Keyed bm :=
  ⟨(hT _).trans (by decide +kernel), (hT _).trans (by decide +kernel), (hT _).trans (by decide +kernel)⟩
theorem behind {X : String} {b : Bool} (e : bm.contains (.type X) = b) : (Value.ref C :: bm).contains (.type X) = b := by
  rw [List.contains_cons, e]
  rfl
theorem key_check {M : Model} {rest : List Value} {Q : Unit → Shared → Prop} (Y : Keyed bm) (cl : h.get? C = some (excClassObj nm q C N bs bm hdct sn sub ab col dd k0 k1 k2 k3 k5 "LookupError.__new__")) (yes : Q () ⟨h, g, d, t, os⟩) :
    wpAny M A (checkBuiltinCall "LookupError.__new__" ⟨.ref C :: rest, []⟩) Q E ⟨h, g, d, t, os⟩ := by
  have L := PySem.F.excBase_LookupError
  have in1 := behind (C := C) Y.own
  have star := L.noStar
  simp only [checkBuiltinCall, L.newKind, L.newSplit, L.newRow]
  repeat (first
    | refine wpAny_loadPart_at cl ?_
    | (refine wpAny_isSubtype_exc cl ?_; rw [in1])
    | refine wpAny_staticBase_exc cl ?_
    | refine wpAny_madeBy_exc cl ?_
    | simp only [bne_self_eq_false, Bool.false_eq_true, if_false]
    | wp_step)
  exact yes
theorem key_new {rest : List Value} (Y : Keyed bm) (cl : h.get? C = some (excClassObj nm q C N bs bm hdct sn sub ab col dd k0 k1 k2 k3 k5 "LookupError.__new__"))
    (yes : R (.ok (.ret (.ref (h.objs.size + 1)))) ⟨(h.push (kdv_tup rest)).push (PySem.PX.excO C h.objs.size), g, d, t, os⟩) (few : rest.length ≤ sizeLine) :
    codeAny (model prog w) A (.builtin "LookupError.__new__" ⟨.ref C :: rest, []⟩) R ⟨h, g, d, t, os⟩ := by
  have L := PySem.F.excBase_LookupError
  have hends := L.ends
  have in1 := behind (C := C) Y.own
  have in2 := behind (C := C) Y.noA
  have in3 := behind (C := C) Y.noN
  refine codeAny_builtinAt L.entry ?_
  unfold Builtin.«BaseException.__new__»
  refine PySem.wpAt_bind ?_
  show PySem.wpAt _ _ _ (stack >>= _) _ _ _
  refine PySem.wpAt_bind (PySem.wpAt_stack fun p below => PySem.wpAt_of_wpAny ?_)
  wp_walk
  refine PySem.wpAt_of_wpAny ?_
  rw [L.owner]
  repeat (first
    | with_reducible refine wpAny_madeHere_exc L.canon cl ?_
    | with_reducible refine wpAny_loadPart_at cl ?_
    | (with_reducible refine wpAny_isSubtype_exc cl ?_
       first
        | rw [in1]
        | rw [in2]
        | rw [in3])
    | wp_step)
  show R _ _
  rw [Heap.size_push]
  exact yes
theorem key_type {rest : List Value} {fI : Addr} {Q : Fin → Shared → Prop} (Y : Keyed bm) (cl : h.get? C = some (excClassObj nm q C N bs bm hdct sn sub ab col dd k0 k1 k2 k3 k5 "LookupError.__new__"))
    (ini : Looks (model prog w) h (typeLookup (.ref C) "__init__") (some (.ref fI))) (bnd : ∀ self, Looks (model prog w) h (bindSpecial (.ref fI) self) (.ref fI, [self])) (few : rest.length ≤ sizeLine)
    (run : codeAny (model prog w) A (.call (.ref fI) ⟨.ref (h.objs.size + 1) :: rest, []⟩)
      (fun r s' => match r with | .ok (.ret v) => v = .none ∧ Q (.done (.ret (.ref (h.objs.size + 1)))) s' | .ok _ => False | .error e => E e s') ⟨(h.push (kdv_tup rest)).push (PySem.PX.excO C h.objs.size), g, d, t, os⟩) :
    wpAny (model prog w) A (Builtin.«type.__call__» ⟨.ref C :: rest, []⟩) Q E ⟨h, g, d, t, os⟩ := by
  repeat (first
    | with_reducible refine wpAny_loadPart_at cl ?_
    | with_reducible refine wpAny_madeBy_exc cl ?_
    | wp_step)
  refine codeAny_call_builtin_code (Code.quiet_builtin _ PySem.F.excBase_LookupError.quiet) (key_check Y cl ?_)
  refine key_new Y cl ?_ few
  show wpAny _ _ _ _ _ _
  have k : ∀ b o, h.get? b = some o → ((h.push (kdv_tup rest)).push (PySem.PX.excO C h.objs.size)).get? b = some o := fun b o e =>
    Heap.get?_push_of_some _ (Heap.get?_push_of_some _ e)
  have cl1 := k _ _ cl
  have at1 : ((h.push (kdv_tup rest)).push (PySem.PX.excO C h.objs.size)).get? (h.objs.size + 1) = some (PySem.PX.excO C h.objs.size) := by
    heap_get
  have self1 : (Value.ref C :: bm).contains (.ref C) = true := by simp
  have i1 := ini.keeps k
  have b1 := (bnd (.ref (h.objs.size + 1))).keeps k
  unfold isInstance
  repeat (first
    | with_reducible refine wpAny_loadPart_at at1 ?_
    | (with_reducible refine wpAny_isSubtype_exc cl1 ?_; rw [self1])
    | wp_step)
  show wpAny _ _ (typeLookup (.ref C) _) _ _ _
  refine i1.at (wpAny_holding (wpAny_bind (b1.at ?_)))
  refine wpAny_bind (wpAny_call (codeAny_mono run fun r s' z => ?_))
  rcases r with e | (v | _ | _ | _) <;>
    first
      | exact z
      | exact z.elim
      | skip
  obtain ⟨rfl, z2⟩ := z
  first
    | exact wpAny_pure (wpAny_pure z2)
    | (wp_walk
       exact z2)
theorem key_call {rest : List Value} {fI : Addr} (Y : Keyed bm) (cl : h.get? C = some (excClassObj nm q C N bs bm hdct sn sub ab col dd k0 k1 k2 k3 k5 "LookupError.__new__"))
    (ini : Looks (model prog w) h (typeLookup (.ref C) "__init__") (some (.ref fI))) (bnd : ∀ self, Looks (model prog w) h (bindSpecial (.ref fI) self) (.ref fI, [self])) (few : rest.length ≤ sizeLine)
    (run : codeAny (model prog w) (A.under (.builtin "type.__call__" ⟨.ref C :: rest, []⟩)) (.call (.ref fI) ⟨.ref (h.objs.size + 1) :: rest, []⟩) (InitBack (h.objs.size + 1) R) ⟨(h.push (kdv_tup rest)).push (PySem.PX.excO C h.objs.size), g, d, t, os⟩) :
    codeAny (model prog w) A (.call (.ref C) ⟨rest, []⟩) R ⟨h, g, d, t, os⟩ := by
  have a1 := tc_lookup
  have a2 := tc_bind (.ref C)
  have a3 : (⟨h, g, d, t, os⟩ : Shared).TypeIs (.ref C) "type" := ⟨_, cl, rfl⟩
  refine codeAny_of_tree ?_
  show wpAny _ _ (callAny (.ref C) _) _ _ _
  repeat (any_goals (first
    | assumption
    | with_reducible refine wpAny_loadPart_at cl ?_
    | wp_step))
  refine ⟨rfl, ?_⟩
  have quiet : Code.quiet (.builtin "type.__call__" ⟨.ref C :: rest, []⟩) = true := Code.quiet_builtin _ (by decide +kernel)
  refine codeAny_call_builtin_at quiet entry_typeCall (wpAny_check_type_call_sub cl (key_type Y cl ini bnd few ?_))
  refine codeAny_mono run fun r s' z => ?_
  rcases r with e | (v | _ | _ | _) <;> exact z
end
end XE

set_option maxRecDepth 100000
set_option maxHeartbeats 4000000
namespace XE
open PySem PySem.W PySem.Calls PyProof.Rows
/-- the names of the fields -/
inductive Fl where
  | row | why | name | label | step | spot | most
def Fl.s : Fl → Str
  | .row => "row"
  | .why => "why"
  | .name => "name"
  | .label => "label"
  | .step => "step"
  | .spot => "spot"
  | .most => "most"
/-- the five built-in classes: what stands behind a class over it, what makes its instances -/
inductive Five : List Value → String → Prop where
  | val : Five [.type "ValueError", .type "Exception", .type "BaseException", .type "object"] "ValueError.__new__"
  | key : Five mroK "LookupError.__new__"
  | ind : Five [.type "IndexError", .type "LookupError", .type "Exception", .type "BaseException", .type "object"] "IndexError.__new__"
  | look : Five [.type "LookupError", .type "Exception", .type "BaseException", .type "object"] "LookupError.__new__"
  | over : Five [.type "OverflowError", .type "ArithmeticError", .type "Exception", .type "BaseException", .type "object"] "OverflowError.__new__"
theorem Five.store {bmB : List Value} {newId : String} (F : Five bmB newId) : ∃ B, StoreFacts B bmB "object.__setattr__" "object" := by
  cases F
  · exact ⟨_, PySem.F.store_ValueError⟩
  · exact ⟨_, store_key⟩
  · exact ⟨_, PySem.F.store_IndexError⟩
  · exact ⟨_, PySem.F.store_LookupError⟩
  · exact ⟨_, PySem.F.store_OverflowError⟩
def iA (f : Fl) (p1 p2 : Pos) : Arguments := { posonlyargs := [], args := [{ arg := "self", annotation := none, pos := p1 }, { arg := f.s, annotation := none, pos := p2 }], vararg := none, kwonlyargs := [], kw_defaults := [], kwarg := none, defaults := [] }
def iB (f : Fl) (q1 q2 q3 q4 : Pos) : List Stmt := [.Assign [.Attribute (.Name "self" q1) f.s q2] (.Name f.s q3) q4]
def iS (f : Fl) : Scope := { kind := .function, names := [(PySem.Str.ofString "self", .local), (f.s, .local)], isGenerator := false, isCoroutine := false, more := [] }
/-- what the written part says of such a class, at C, and of its __init__, at fI -/
structure Err (K : Frag) (C fI : Addr) (f : Fl) (bmB : List Value) (newId : String) : Prop where
  five : Five bmB newId
  ini : excInitIn K C bmB newId = true
  ovr : excOver K C bmB = true
  iC : findIn K (.ref C) "__init__" = some (some (.ref fI))
  isF : isFn K (.ref fI) = true
  sa : findIn K (.ref C) "__setattr__" = some (some (.builtin "object.__setattr__"))
  tk : takerIn K C f.s = some none
  hd : hasDictIn K C = true
  noF : findIn K (.ref C) f.s = some none
  ga : findIn K (.ref C) "__getattribute__" = some (some (.builtin "BaseException.__getattribute__"))
  gg : findIn K (.ref C) "__getattr__" = some none
  exC : subIn K (.ref C) (.type "BaseException") = some true
  kC : keepIn K (.ref C) = true
  cl : findIn K (.ref C) "__class__" = some (some (.builtin "object.__class__"))
  sp : specialIn K (.builtin "object.__class__") "__get__" = some (some (.builtin "getset_descriptor.__get__"))
  tc : takesIn K (.builtin "object.__class__") = some true
  mo : mroIn K C (.type "object") = some true
  fn : ∃ (qual : Str) (oc : Value) (od : Option Addr) (kv doc pm : Value) (an : Option Addr) (cdv ct : Value) (osl : Array (Option Value)) (p1 p2 q1 q2 q3 q4 : Pos),
    K.lookup fI = some ⟨oc, od, .func (fnOf "__init__" qual (iA f p1 p2) (iB f q1 q2 q3 q4) (iS f) .none kv doc pm an cdv ct), osl⟩ ∧ codeIn K cdv qual = true
section
variable {prog : Program} {w : World} {A : Around} {E : Value → Shared → Prop} {R : Result → Shared → Prop} {s : Shared} {K : Frag} {C fI : Addr} {bmB : List Value} {newId : String} {f : Fl}
theorem exc_store {x t : Addr} {name : Str} {tk : Tok} {v : Value} (F : Five bmB newId) (X : K.In s.heap) (hx : s.heap.get? x = some (excObj C t none .none)) (hp : excOver K C bmB = true) (ht : takerIn K C name = some none) (hh : hasDictIn K C = true)
    (hq : ∀ h' tk' dx, (∀ b o, b ≠ x → s.heap.get? b = some o → h'.get? b = some o) → s.heap.objs.size ≤ dx → dx ≠ x → h'.get? x = some (excObj C t (some dx) .none) → h'.Ns1 dx (fun y => if y = name then some v else none) →
      R (.ok (.ret .none)) { s with heap := h', toks := tk' }) :
    codeAny (model prog w) A (.call (.builtin "object.__setattr__") ⟨[.ref x, .str name tk, v], []⟩) R s := by
  obtain ⟨B, SF⟩ := F.store
  have old := Heap.lt_size hx
  have nx : s.heap.objs.size ≠ x := Nat.ne_of_gt old
  refine osa_openX (od := none) SF X ⟨hx, rfl, rfl, trivial⟩ hp ht fun b => ?_
  obtain ⟨cd, hc, hd'⟩ := any_some hh
  refine wpAny_bind (wpAny_pure (wpAny_bind (instanceDict_exc hx (looks_clsIn X hc) hd' ?_)))
  show wpAny _ _ (Builtin.ObjectAttr.storeInDict s.heap.objs.size (.str name tk) name v) _ _ _
  obtain ⟨hp0, g, d, t0, os⟩ := s
  have hx1 : (hp0.push (dictOf [] 0)).get? x = some (excObj C t none .none) := Heap.get?_push_of_some _ hx
  refine PySem.HandSPX.store_in_new ?_ fun h' tk' hn' hs => ?_
  · refine ⟨dictOf [] 0, #[], _, ?_, rfl, fun e he => absurd he (by simp), fun _ => rfl⟩
    rw [Heap.get?_update_ne _ _ _ _ nx]
    exact Heap.get?_push_at rfl rfl
  · refine hq h' tk' hp0.objs.size (fun b o hb ho => ?_) (Nat.le_refl _) nx ?_ hn'
    · rw [hs.2 b (Nat.ne_of_lt (Heap.lt_size ho)), Heap.get?_update_ne _ _ _ _ hb]
      exact Heap.get?_push_of_some _ ho
    · rw [hs.2 x nx.symm]
      exact Heap.get?_update_self _ hx1 rfl
theorem ldC {M : Model} {s : Shared} {name : Str} {scope : Scope} {L a : Addr} {cd : Value} {m : Str → Option Value} {x : Str} {pos : Pos} {v : Value} {Q : Value → Shared → Prop} {A : Around} {E : Value → Shared → Prop} (hn : s.heap.Ns L m) (hv : m x = some v) (h : Q v s)
    (hk : scope.kind = .function := by rfl) (hl : (envOfC name scope L a cd).kindOf x = some .local := by rfl) (hd : (x == ("__debug__" : Str)) = false := by decide) :
    wpAny M A (eval (.Name x pos) (envOfC name scope L a cd)) Q E s := wpAny_Name (wpAny_loadName_local hk hl hn hv h) hd
/-- what __init__ leaves of a fresh exception at x -/
structure InitEnd (h h' : Heap) (x C dx t1 : Addr) (n : Str) (v : Value) : Prop where
  keep : ∀ b o, b ≠ x → h.get? b = some o → h'.get? b = some o
  obj : h'.get? x = some (excObj C t1 (some dx) .none)
  dbig : h.objs.size ≤ dx
  dne : dx ≠ x
  ns : h'.Ns1 dx (fun y => if y = n then some v else none)
/-- a made one -/
structure OwnMade (h h' : Heap) (e C d : Addr) (n : Str) (v : Value) : Prop where
  keep : ∀ b o, h.get? b = some o → h'.get? b = some o
  new : h.objs.size ≤ e
  obj : ∃ t, h'.get? e = some (excObj C t (some d) .none)
  dbig : h.objs.size ≤ d
  dne : d ≠ e
  ns : h'.Ns1 d (fun y => if y = n then some v else none)
theorem err_init (T : Err K C fI f bmB newId) {x t0 : Addr} {v : Value} (X : K.In s.heap) (hlim : s.heap.NoLimit) (hx : s.heap.get? x = some (excObj C t0 none .none)) (hroom : A.depth < recursionLimit)
    (hq : ∀ h' tk dx, InitEnd s.heap h' x C dx t0 f.s v → R (.ok (.ret .none)) { s with heap := h', toks := tk }) :
    codeAny (model prog w) A (.call (.ref fI) ⟨[.ref x, v], []⟩) R s := by
  obtain ⟨qual, oc, od, kv, doc, pm, an, cdv, ct, osl, p1, p2, q1, q2, q3, q4, ho, hcd⟩ := T.fn
  refine Att.call_fn (binds := [("self", .ref x), (f.s, v)]) X hlim ho hcd hroom (BindsTo.of_eq (by cases f <;> rfl)) (by cases f <;> rfl) (fun s₁ IC => ?_) rfl rfl rfl
  obtain ⟨h₁, tk₁, rfl⟩ := IC.toInCall.same
  have k : ∀ b o, s.heap.get? b = some o → h₁.get? b = some o := IC.toInCall.keep
  have hn := IC.toInCall.ns
  have hxL : s.heap.objs.size ≠ x := Nat.ne_of_gt (Heap.lt_size hx)
  have X₁ : K.In h₁ := X.keeps k
  have hx₁ := k _ _ hx
  show wpAny _ _ (execs _ _) _ _ _
  refine wpAny_execs_cons (plainObj_wpAny_Assign_Attribute ?_ (by cases f <;> rfl))
  refine ldC (v := v) hn (by cases f <;> rfl) (ldC (v := .ref x) hn (by cases f <;> rfl) ?_ rfl (by cases f <;> rfl)) rfl (by cases f <;> rfl) (by cases f <;> decide)
  refine set_plain X₁ (ox := excObj C t0 none .none) (od := none) ⟨hx₁, rfl, rfl, trivial⟩ T.sa ?_
  refine exc_store T.five X₁ hx₁ T.ovr T.tk T.hd (fun h₃ tk₃ dx k₃ dn dne hx₃ hn₃ => ?_)
  show wpAny _ _ (execs _ _) _ _ _
  have z : s.heap.objs.size < h₁.objs.size := hn.lt
  exact wpAny_execs_nil (hq h₃ tk₃ dx ⟨fun b o hb e => k₃ b o hb (k b o e), hx₃, Nat.le_of_lt (Nat.lt_of_lt_of_le z dn), dne, hn₃⟩)
theorem one_size (v : Value) : [v].length ≤ sizeLine := by
  rw [sizeLine_eq]
  exact (by decide : 1 ≤ 16777216)
theorem five_call {nm q : Str} {N : Addr} {bs bm : List Value} {hdct : Bool} {sn : List Str} {sub : List Value} {ab : Bool} {col : Option Bool} {dd : Option Addr} {k0 k1 k2 k3 k5 : Option Value} {h : Heap} {g : Array GenState} {d : Drawn} {t : Nat} {os : OsState} {rest : List Value}
    (F : Five bmB newId) (hT : ∀ X : String, bm.contains (.type X) = bmB.contains (.type X)) (hC : h.get? C = some (excClassObj nm q C N bs bm hdct sn sub ab col dd k0 k1 k2 k3 k5 newId))
    (hi : Looks (model prog w) h (typeLookup (.ref C) "__init__") (some (.ref fI))) (hb : ∀ self, Looks (model prog w) h (bindSpecial (.ref fI) self) (.ref fI, [self])) (few : rest.length ≤ sizeLine)
    (run : codeAny (model prog w) (A.under (.builtin "type.__call__" ⟨.ref C :: rest, []⟩)) (.call (.ref fI) ⟨.ref (h.objs.size + 1) :: rest, []⟩) (InitBack (h.objs.size + 1) R) ⟨(h.push (kdv_tup rest)).push (PySem.PX.excO C h.objs.size), g, d, t, os⟩) :
    codeAny (model prog w) A (.call (.ref C) ⟨rest, []⟩) R ⟨h, g, d, t, os⟩ := by
  cases F
  · exact PySem.PX.call_own PySem.F.excBase_ValueError hT hC hi hb few run
  · exact key_call (keyed_of hT) hC hi hb few run
  · exact PySem.PX.call_own PySem.F.excBase_IndexError hT hC hi hb few run
  · exact PySem.PX.call_own PySem.F.excBase_LookupError hT hC hi hb few run
  · exact PySem.PX.call_own PySem.F.excBase_OverflowError hT hC hi hb few run
theorem err_made (T : Err K C fI f bmB newId) {v : Value} (X : K.In s.heap) (hlim : s.heap.NoLimit) (hroom : A.depth + 1 < recursionLimit)
    (hq : ∀ h' tk e d, OwnMade s.heap h' e C d f.s v → R (.ok (.ret (.ref e))) { s with heap := h', toks := tk }) :
    codeAny (model prog w) A (.call (.ref C) ⟨[v], []⟩) R s := by
  obtain ⟨nm, N, qn, bs, bm, hdct, sn, sub, ab, col, dd, k0, k1, k2, k3, k5, hC, hT⟩ := excInit_of X T.ini
  obtain ⟨oI, hoI, hcI⟩ : ∃ oI, s.heap.get? fI = some oI ∧ oI.cls = .type "function" := by
    obtain ⟨o, ho, hc⟩ := Option.map_eq_some_iff.mp (show (K.lookup fI).map (·.cls) = some (.type "function") from beq_iff_eq.mp T.isF)
    exact ⟨o, X _ _ ho, hc⟩
  obtain ⟨hp, g, dr, tk, os⟩ := s
  have k : ∀ b o, hp.get? b = some o → ((hp.push (kdv_tup [v])).push (PySem.PX.excO C hp.objs.size)).get? b = some o := fun b o e => Heap.get?_push_of_some _ (Heap.get?_push_of_some _ e)
  have hget : ((hp.push (kdv_tup [v])).push (PySem.PX.excO C hp.objs.size)).get? (hp.objs.size + 1) = some (PySem.PX.excO C hp.objs.size) := by heap_get
  refine five_call T.five hT hC (looks_findIn X T.iC) (fun self => exc_bind hoI hcI self) (one_size v) ?_
  refine err_init (s := ⟨(hp.push (kdv_tup [v])).push (PySem.PX.excO C hp.objs.size), g, dr, tk, os⟩) T (X.keeps k) (hlim.keeps k) hget ?_ fun h' tk' dx ⟨k', hx, dn, dne, hns⟩ => ?_
  · show A.depth + 1 < recursionLimit
    exact hroom
  · have old : ∀ b o, hp.get? b = some o → h'.get? b = some o := fun b o e => k' b o (Nat.ne_of_lt (Nat.lt_succ_of_lt (Heap.lt_size e))) (k b o e)
    have z : hp.objs.size + 1 + 1 ≤ dx := by
      first
        | (simpa only [Heap.size_push] using dn)
        | exact dn
        | (have q := dn; rw [Heap.size_push, Heap.size_push] at q; exact q)
    exact ⟨rfl, hq h' tk' (hp.objs.size + 1) dx ⟨old, Nat.le_succ _, ⟨_, hx⟩, Nat.le_trans (Nat.le_trans (Nat.le_succ _) (Nat.le_succ _)) z, dne, hns⟩⟩
end
end XE

set_option maxRecDepth 100000
set_option maxHeartbeats 4000000
namespace L2
open PySem PySem.Spec PyProof.Rows
/-- C(e), C such a class: a new exception at a, its own dict at d -/
def tErr (C : Addr) (f : Str) (ta : TA) : TE := fun σ H Q => ta σ H fun vs H1 => ∃ v, vs = [v] ∧ ∀ a d, H1 a = none → H1 d = none → d ≠ a → Q (.ref a) (upd (upd H1 d (exd d [(f, v)])) a (exo a C (some d)))
theorem pe_err {X : Cx} {C fI : Addr} {f : XE.Fl} {bmB : List Value} {newId : String} {k : Nat} {x : Str} {a : Expr} {ta : TA} {p pos : Pos} (T : XE.Err X.K C fI f bmB newId) (hr : Room k X.A) (mx : X.mg x = some (.ref C)) (ha : PA X [a] ta) (gx : Gl X x := by rfl)
    (he : starEach (a :: []) X.env = (false, eval a X.env) :: starEach [] X.env := by rfl) (hpl : (backTo pos (starEach [] X.env)).any (·.1) = false := by rfl) (nodb : (x == ("__debug__" : Str)) = false := by decide) :
    PE X (.Call (.Name x p) [a] [] pos) (tErr C f.s ta) := by
  refine ⟨fun pins s σ H Q I h => ?_⟩
  refine wpAny_Call_Name_kw (ld_glob I gx mx ?_ nodb)
  refine PySem.W.callWith_K (h₀ := X.base) I.ok.mod.kin T.kC (thn (ha.run pos pins s σ H _ I h) fun us s1 hh => ?_) he hpl
  obtain ⟨vs, H1, I1, r1, v, ev, q1⟩ := hh
  subst ev
  refine ⟨I1.kIn, ?_⟩
  cases r1 with
  | cons rv rn =>
    rename_i v' us'
    cases rn
    show wpAny _ _ (call (.ref C) [v']) _ _ _
    have hlim := I1.nolimit
    obtain ⟨hp, g, dr, tk, os⟩ := s1
    refine wpAny_call (XE.err_made T I1.kIn hlim (by have := hr.dp; omega) fun h' tk' e d M => ?_)
    obtain ⟨t, hoe⟩ := M.obj
    have hns := M.ns
    obtain ⟨G', g1, g2⟩ := restrict h' fun b => decide (b ≠ e)
    have gk : ∀ b, b ≠ e → G'.get? b = h'.get? b := fun b hb => g1 b (decide_eq_true hb)
    have ge : G'.get? e = none := g2 e (by simp)
    have old : ∀ b o, hp.get? b = some o → G'.get? b = some o := fun b o q => (gk b (Nat.ne_of_lt (Nat.lt_of_lt_of_le (Heap.lt_size q) M.new))).trans (M.keep b o q)
    have back : ∀ b o, G'.get? b = some o → h'.get? b = some o := fun b o q => by
      by_cases hb : b = e
      · rw [hb, ge] at q
        cases q
      · exact (gk b hb).symm.trans q
    have nsG : G'.Ns1 d (fun y => if y = f.s then some v' else none) := hns.at (fun o q => (gk d M.dne).trans q)
    have J : Inv X pins σ (upd H1 d (exd d [(f.s, v)])) ⟨G', g, dr, tk', os⟩ := I1.laid (t' := tk') old M.dbig (exd_ok nsG (relO_put (fs := []) rv fun g => True.intro))
    have fe : H1 e = none := I1.hok.fresh M.new
    have fd : H1 d = none := I1.hok.fresh M.dbig
    have fe2 : (upd H1 d (exd d [(f.s, v)])) e = none := by
      rw [upd_ne M.dne.symm]
      exact fe
    have J2 : Inv X pins σ (upd (upd H1 d (exd d [(f.s, v)])) e (exo e C (some d))) ⟨h', g, dr, tk', os⟩ := J.laidN (t' := tk') back ge fe2 (exo_ok hoe)
    exact ⟨.ref e, _, J2, rfl, q1 e d fe fd M.dne⟩
/-- e.n, e such an exception -/
def tErrF (K : PySem.W.Frag) (n : Str) (te : TE) : TE := fun σ H Q => te σ H fun x H1 => ∃ (a C d fI : Addr) (f : XE.Fl) (bmB : List Value) (newId : String) (v : V), x = .ref a ∧ f.s = n ∧ XE.Err K C fI f bmB newId ∧ H1 a = some (exo a C (some d)) ∧ H1 d = some (exd d [(n, v)]) ∧ Q v H1
theorem pe_errF {X : Cx} {e : Expr} {te : TE} {pos : Pos} {n : Str} (he : PE X e te) (hb : attributeBase e n X.env (eval e X.env) = eval e X.env := by rfl) : PE X (.Attribute e n pos) (tErrF X.K n te) := by
  refine ⟨fun pins s σ H Q I h => ?_⟩
  refine attr_of hb (thn (he.run pins s σ H _ I h) fun u s1 ⟨x, H1, I1, rx, a, C, d, fI, f, bmB, newId, v, ex, en, T, ea, ed, q⟩ => ?_)
  subst ex
  subst en
  obtain rfl : u = Value.ref a := rx
  obtain ⟨t1, ho⟩ := exo_at I1.hok ea
  obtain ⟨mA, hns, hr⟩ := exd_at I1.hok ed
  obtain ⟨od, hod, hl⟩ := lookIn_ns hns
  have e1 : List.lookup f.s [(f.s, v)] = some v := by simp [List.lookup]
  obtain ⟨u, hu, ru⟩ := RelO.some_of (v := v) (o := mA f.s) (by rw [← e1]; exact hr f.s)
  have J : PySem.W.InstAt s1.heap a _ C (some od) := ⟨ho, rfl, rfl, hod⟩
  refine HandSPX.exc_get I1.kIn J T.ga T.gg T.exC (PySem.W.findObj_own T.hd T.noF rfl (by rw [hl, hu])) (handed_of ru) ⟨v, H1, I1.tok _, ru, q⟩
/-- isinstance(e, c), e such an exception -/
def rErrIs (K : PySem.W.Frag) : List V → Hp → VK → Prop := fun xs H Q => ∃ (a C fI : Addr) (d : Option Addr) (f : XE.Fl) (bmB : List Value) (newId : String) (c : V) (cv : Value) (b : Bool), xs = [.ref a, c] ∧ ClsV c cv ∧ XE.Err K C fI f bmB newId ∧ H a = some (exo a C d) ∧
  (∀ d', d = some d' → ∃ fs, H d' = some (exd d' fs)) ∧ PySem.W.kitOne K (.ref C) cv = some b ∧ Q (.bl b) H
theorem call_errIs {X : Cx} : CallR X (.builtin "isinstance") (rErrIs X.K) := by
  intro pins s σ H xs us Q I r h
  obtain ⟨a, C, fI, d, f, bmB, newId, c, cv, b, rfl, k, T, ea, ed, e, q⟩ := h
  obtain ⟨u1, u2, rfl, r1, r2⟩ := vals2 r
  have e2 := k.eq r2
  subst e2
  obtain rfl : u1 = Value.ref a := r1
  obtain ⟨t1, ho⟩ := exo_at I.hok ea
  have hcl : (PySem.W.clsIn X.K C).isSome = true := by
    obtain ⟨cd, hc, _⟩ := PySem.W.any_some T.hd
    rw [hc]
    rfl
  have J : ∃ od ox, PySem.W.InstAt s.heap a ox C od := by
    cases d with
    | none => exact ⟨none, _, ho, rfl, rfl, trivial⟩
    | some d' =>
      obtain ⟨fs, ef⟩ := ed d' rfl
      obtain ⟨mA, hns, _⟩ := exd_at I.hok ef
      obtain ⟨od, hod, _⟩ := lookIn_ns hns
      exact ⟨some od, _, ho, rfl, rfl, hod⟩
  obtain ⟨od, ox, J⟩ := J
  exact PySem.W.kia_one (PySem.W.kitx_exc hcl T.ga T.gg T.exC T.cl T.sp T.tc T.mo) I.kIn J e (fun z => nomatch z) fun tk => ⟨.bl b, H, I.tok tk, rfl, q⟩
end L2

set_option maxRecDepth 100000
set_option maxHeartbeats 4000000
/-! an exception that is caught, put into another name, and looked at behind the suite -/
namespace L2
open PySem PySem.Spec PyProof.Rows
/-- an exception's object of class cls, dict d, whatever its flight left in it -/
def exk (a : Addr) (cls : Value) (d : Option Addr) : HO := .ext fun h => ∃ (oe : Obj) (vs : Array Value), h.get? a = some oe ∧ Zc cls d oe ∧ oe.data = .fields vs
theorem exk_ok {P : Program} {w : World} {H : Hp} {h : Heap} {a : Addr} {cls : Value} {d : Option Addr} {oe : Obj} {vs : Array Value} (e : h.get? a = some oe) (z : Zc cls d oe) (f : oe.data = .fields vs) : ObjOk P w H h a (exk a cls d) :=
  ⟨⟨oe, vs, e, z, f⟩, ⟨oe, e⟩, fun h1 h2 q k => by
    obtain ⟨o1, v1, e1, z1, f1⟩ := q
    exact ⟨o1, v1, k _ e1, z1, f1⟩⟩
theorem exk_at {P : Program} {w : World} {H : Hp} {h : Heap} {a b : Addr} {cls : Value} {d : Option Addr} (hok : HOk P w H h) (he : H a = some (exk b cls d)) (hb : b = a) : ∃ (oe : Obj) (vs : Array Value), h.get? a = some oe ∧ Zc cls d oe ∧ oe.data = .fields vs := by
  subst hb
  have x : ObjOk P w H h b (exk b cls d) := hok b _ he
  exact x.1
section
variable {X : Cx} {pins : List (Addr × Obj)} {σ : St} {H : Hp} {sI s s' : Shared} {B : Heap}
/-- the state with a caught exception in it, which is ours from now on -/
theorem Inv.caught {a : Addr} {cls : Value} {d : Option Addr} (I : Inv X pins σ H sI) (nb : ∀ b o, sI.heap.get? b = some o → b ∉ frs X.stack → B.get? b = some o) (up : sI.heap.UpToSlots s'.heap) (os : s'.os = sI.os) (ag : AllBare s'.gens)
    (fl : HandSPX.FlyingZ B X.stack a (Zc cls d) s'.heap) (na : H a = none) : Inv X pins σ (upd H a (exk a cls d)) s' := by
  have J := I.landed nb fl.1 up os ag
  obtain ⟨oe, vs, he, hz, hd⟩ := fl.there
  have out : a ∉ frs X.stack := fun hm => by
    obtain ⟨_, o, e, hn⟩ := fl.2.2.1.mem hm
    rw [he] at e
    cases e
    exact hn _ hd
  have fresh : sI.heap.get? a = none := by
    cases e : sI.heap.get? a with
    | none => rfl
    | some o =>
      have z := nb a o e out
      rw [fl.2.1] at z
      cases z
  have ne : ∀ b o, sI.heap.get? b = some o → b ≠ a := fun b o e z => by
    rw [z, fresh] at e
    cases e
  have moved : ∀ b ∈ frs X.stack, ∀ o, sI.heap.get? b = some o → ∃ sl, s'.heap.get? b = some { o with slots := sl } := fun b hb o e => by
    obtain ⟨_, o2, e2, hn⟩ := I.stack.mem hb
    rw [e] at e2
    cases e2
    exact up b o e hn
  refine I.call' (ch := []) os ⟨fun b o e _ hb _ => fl.1 b o (nb b o e hb), fun b o e _ hb _ => moved b hb o e, fun b o e n _ => ?_, fun b o e _ => ?_, fun b xs e => ?_, fun b o u e => ?_, fun b ps e => ?_⟩
    (J.hok.laidN (fun _ _ e => e) na (exk_ok he hz hd)) ag (fun _ z => nomatch z)
  · rw [upd_ne (ne b o e)]
    exact n
  · by_cases hb : b ∈ frs X.stack
    · obtain ⟨sl, q⟩ := moved b hb o e
      exact ⟨_, q⟩
    · exact ⟨o, fl.1 b o (nb b o e hb)⟩
  · rw [upd_ne (ne_of_none e na)]
    exact e
  · rw [upd_ne (ne_of_none e na)]
    exact e
  · exact ⟨#[], by rw [upd_ne (ne_of_none e na), e]; simp⟩
theorem Inv.intoSuite (I : Inv X pins σ H s) (a : Addr) : Inv (X.suite a (X.pn ++ pins)) [] σ H s :=
  ⟨I.ok.suite _ _, I.os, I.bare, I.base, I.loc, I.cell, I.free, I.freeC, fun p hp => I.pin p (by rw [List.append_nil] at hp; exact hp), I.hok, I.len⟩
theorem Inv.outOfSuite {a : Addr} (I : Inv (X.suite a (X.pn ++ pins)) [] σ H s) (ok : X.Ok) : Inv X pins σ H s :=
  ⟨ok, I.os, I.bare, I.base, I.loc, I.cell, I.free, I.freeC, fun p hp => I.pin p (by rw [List.append_nil]; exact hp), I.hok, I.len⟩
end
/-- the clause's wish: class and dict decide; the object is ours, at the name's slot, which is empty behind the suite -/
def wKeep (K : PySem.W.Frag) (c : Value) (i : Nat) (ts : TS) (Wout : WX) (D : Ends) : WX := fun cls d σ H =>
  ∃ b, PySem.W.exmOne K cls c = some b ∧ (b = false → Wout cls d σ H) ∧
    (b = true → ∀ a, H a = none → ts { nx := fun σ' H' => D.nx (σ'.set i none) H', rt := D.rt, bk := fun σ' H' => D.bk (σ'.set i none) H', ct := fun σ' H' => D.ct (σ'.set i none) H' } (σ.set i (some (.ref a))) (upd H a (exk a cls d)))
section
variable {X : Cx} {x n : Str} {c : Value} {i : Nat} {body suite : List Stmt} {b₀ : Stmt} {np pos pos' : Pos} {tb : WX → TS} {ts : TS} {Wout : WX}
/-- behind the suite: the clause's name goes, the rest stays -/
theorem keep_end {pins : List (Addr × Obj)} {D : Ends} {a : Addr} {fl : Flow} {s : Shared} (ok : X.Ok) (hN : X.N.Nodup) (hi : X.N[i]? = some n) (hln : X.env.kindOf n = some .local)
    (q : SP (X.suite a (X.pn ++ pins)) [] { nx := fun σ' H' => D.nx (σ'.set i none) H', rt := D.rt, bk := fun σ' H' => D.bk (σ'.set i none) H', ct := fun σ' H' => D.ct (σ'.set i none) H' } fl s) :
    wpAny (model X.prog X.w) X.A (do bindName X.env n .none; unbindBehindTheSuite X.env n pos') (fun _ t => SP X pins D fl t) X.xe s := by
  cases fl with
  | ret u =>
    obtain ⟨v, σ1, H1, I1, r, z⟩ := q
    exact gone_ok (I1.outOfSuite ok) hN hi hln fun t J => ⟨v, _, H1, J, r, z⟩
  | next =>
    obtain ⟨σ1, H1, I1, z⟩ := q
    exact gone_ok (I1.outOfSuite ok) hN hi hln fun t J => ⟨_, H1, J, z⟩
  | brk =>
    obtain ⟨σ1, H1, I1, z⟩ := q
    exact gone_ok (I1.outOfSuite ok) hN hi hln fun t J => ⟨_, H1, J, z⟩
  | cont =>
    obtain ⟨σ1, H1, I1, z⟩ := q
    exact gone_ok (I1.outOfSuite ok) hN hi hln fun t J => ⟨_, H1, J, z⟩
/-- what is raised in the body meets the clause -/
theorem keep_catch {pins pn : List (Addr × Obj)} {xe : Value → Shared → Prop} {D : Ends} {u : Value} {s : Shared} (ok : X.Ok) (hpn : pn = X.pn ++ pins) (hs : X.stack = X.env :: X.outer) (hf : X.env.frame = some X.env.locals) (hN : X.N.Nodup) (hi : X.N[i]? = some n)
    (hln : X.env.kindOf n = some .local) (hc : Names X x c) (tk : Takes X Wout) (hsu : ∀ (a : Addr) (pn : List (Addr × Obj)), PSs (X.suite a pn) (b₀ :: suite) ts) (air : XE (X.tr pn xe) (wKeep X.K c i ts Wout D) u s) :
    wpAny (model X.prog X.w) X.A (noteFrame u X.env) (fun _ s2 => wpAny (model X.prog X.w) X.A (setFlight u none)
      (fun _ s3 => wpAny (model X.prog X.w) X.A (handleBy u X.env [.ExceptHandler (some (.Name x np)) (some n) (b₀ :: suite) pos']) (SP X pins D) X.xe s3) X.xe s2) X.xe s := by
  subst hpn
  obtain ⟨a, B, sI, pins1, σ1, H1, cls, d, rfl, J0, nb, up, sky, na, os, ag, b, hb1, no, yes⟩ := air
  have J : Inv X pins σ1 H1 sI := J0.ofTry ok
  have frames : X.A.frames = some (X.env :: X.outer) := ok.frames.trans (congrArg some hs)
  have sky1 : Sky B (X.env :: X.outer) a (Zc cls d) X.env.locals s.heap := hs ▸ sky
  refine Sky.land Zc.steady frames hf sky1 fun h3 fl3 up3 => ?_
  have fl3' : HandSPX.FlyingZ B X.stack a (Zc cls d) h3 := hs ▸ fl3
  have J3 : Inv X pins σ1 (upd H1 a (exk a cls d)) { s with heap := h3 } := J.caught (s' := { s with heap := h3 }) nb (up.trans up3) os ag fl3' na
  obtain ⟨oe, vs, he, hz, hd⟩ := fl3.there
  have cl : PySem.W.Looks (model X.prog X.w) h3 (typeOf (.ref a)) cls := fun A Q E t k q => wpAny_typeOf_ref (k _ _ he) (by rw [hz.1]; exact q)
  have mt := PySem.W.exm_one (M := model X.prog X.w) J3.kIn cl hb1
  have S3 := J3.intoSuite a
  refine wpAny_handleBy_cons (codeAny_handlers_test ?_) (by intro q; cases q)
  have name : ∀ {Q : Value → Shared → Prop} {E : Value → Shared → Prop}, Q c { s with heap := h3 } → wpAny (model X.prog X.w) (X.A.mark (some (.ref a))) (eval (.Name x np) X.env) Q E { s with heap := h3 } := fun {Q E} q => by
    rcases hc with ⟨hg, hdb, hm | ⟨hm, hv, hnn⟩⟩
    · exact ld_glob (X := X.suite a (X.pn ++ pins)) S3 hg hm q hdb
    · exact ld_blt (X := X.suite a (X.pn ++ pins)) S3 hg hm hv q hnn hdb
  refine name (mt.here ?_)
  cases b with
  | false =>
    show wpAny _ X.A (handleBy (.ref a) X.env []) _ _ _
    refine wpAny_handleBy_nil ?_
    obtain ⟨_, _, _, oe2, vs2, T, oT, ts2, he2, _, hd2, h12, _⟩ := id fl3
    have up_again : wpAny (model X.prog X.w) X.A (setFlight (.ref a) X.env.frame) (fun _ s4 => wpAny (model X.prog X.w) X.A (throw (.ref a) : Sem Flow) (SP X pins D) X.xe s4) X.xe { s with heap := h3 } := by
      rw [hf]
      exact HandSPX.setFlight_upZ fl3 fun h4 held up4 => wpAny_throw (tk _ _ ⟨a, B, sI, pins, σ1, H1, cls, d, rfl, J, nb, (up.trans up3).trans up4, .inr (.inr (hs.symm ▸ held)), na, os, ag, no rfl⟩)
    unfold PySem.passOn
    refine wpAny_bind (wpAny_field he2 hd2 h12 ?_)
    rw [if_neg (show ¬ ((Value.ref T == Value.none) = true) from by simp)]
    first
      | exact wpAny_bind (wpAny_pure (wpAny_bind up_again))
      | exact wpAny_bind up_again
  | true =>
    refine codeAny_handlers_suite_as (HandSPX.lands_againZ fl3 fun h4 fl4 up4 => ?_)
    have fl4' : HandSPX.FlyingZ B X.stack a (Zc cls d) h4 := hs ▸ fl4
    have J4 : Inv X pins σ1 (upd H1 a (exk a cls d)) { s with heap := h4 } := J.caught (s' := { s with heap := h4 }) nb ((up.trans up3).trans up4) os ag fl4' na
    refine store_ok (X := X.suite a (X.pn ++ pins)) (v := .ref a) (J4.intoSuite a) hN hi (.inl hln) rfl (fun s5 S5 => ?_) (.inr hln)
    exact wpAny_mono ((hsu a (X.pn ++ pins)).run [] s5 _ _ _ S5 (yes rfl a na)) (fun fl s6 z => keep_end ok hN hi hln z) (fun _ _ z => False.elim z)
theorem ps_try_keep (hs : X.stack = X.env :: X.outer) (hf : X.env.frame = some X.env.locals) (hN : X.N.Nodup) (hi : X.N[i]? = some n) (hln : X.env.kindOf n = some .local) (hc : Names X x c) (tk : Takes X Wout)
    (hb : ∀ (W : WX) (pn : List (Addr × Obj)) (xe : Value → Shared → Prop), Takes (X.tr pn xe) W → PassesOwn (model X.prog X.w) X.A X.env xe → PSs (X.tr pn xe) body (tb W)) (hsu : ∀ (a : Addr) (pn : List (Addr × Obj)), PSs (X.suite a pn) (b₀ :: suite) ts) :
    PS X (.Try body [.ExceptHandler (some (.Name x np)) (some n) (b₀ :: suite) pos'] [] [] pos) (fun D σ H => tb (wKeep X.K c i ts Wout D) D σ H) := by
  refine ⟨fun pins s σ H D I h => wpAny_Try_except ?_⟩
  have ok := I.ok
  refine wpAny_mono ((hb (wKeep X.K c i ts Wout D) (X.pn ++ pins) _ (fun u t air => keep_catch ok rfl hs hf hN hi hln hc tk hsu air) PassesOwn.looking).run [] s σ H D (I.toTry _) h) (fun fl t z => ?_) (fun _ _ z => z)
  cases fl with
  | ret u =>
    obtain ⟨v, σ1, H1, I1, r, q⟩ := z
    exact ⟨v, σ1, H1, I1.ofTry ok, r, q⟩
  | next =>
    obtain ⟨σ1, H1, I1, q⟩ := z
    exact wpAny_execs_nil ⟨σ1, H1, I1.ofTry ok, q⟩
  | brk =>
    obtain ⟨σ1, H1, I1, q⟩ := z
    exact ⟨σ1, H1, I1.ofTry ok, q⟩
  | cont =>
    obtain ⟨σ1, H1, I1, q⟩ := z
    exact ⟨σ1, H1, I1.ofTry ok, q⟩
end
end L2

set_option maxRecDepth 100000
set_option maxHeartbeats 4000000
namespace L2
open PySem PySem.Spec PyProof.Rows
/-- raise C(e), C such a class: its dict d holds the field -/
def tMkErr (C : Addr) (f : Str) (ta : TA) : St → Hp → XK → Prop := fun σ H Q => ta σ H fun vs H1 => ∃ v, vs = [v] ∧ ∀ d, H1 d = none → Q (.ref C) (some d) (upd H1 d (exd d [(f, v)]))
theorem pmk_err {X : Cx} {C fI : Addr} {f : XE.Fl} {bmB : List Value} {newId : String} {k : Nat} {x : Str} {a : Expr} {ta : TA} {p pos : Pos} (T : XE.Err X.K C fI f bmB newId) (tyC : PySem.W.typeIn X.K (.ref C) = some (.type "type")) (hr : Room k X.A) (mx : X.mg x = some (.ref C)) (ha : PA X [a] ta) (gx : Gl X x := by rfl)
    (he : starEach (a :: []) X.env = (false, eval a X.env) :: starEach [] X.env := by rfl) (hpl : (backTo pos (starEach [] X.env)).any (·.1) = false := by rfl) (nodb : (x == ("__debug__" : Str)) = false := by decide) :
    PMk X (.Call (.Name x p) [a] [] pos) (tMkErr C f.s ta) := by
  intro pins s σ H Q I h
  refine wpAny_Call_Name_kw (ld_glob I gx mx ?_ nodb)
  refine PySem.W.callWith_K (h₀ := X.base) I.ok.mod.kin T.kC (thn (ha.run pos pins s σ H _ I h) fun us s1 hh => ?_) he hpl
  obtain ⟨vs, H1, I1, r1, v, ev, q1⟩ := hh
  subst ev
  refine ⟨I1.kIn, ?_⟩
  cases r1 with
  | cons rv rn =>
    rename_i v' us'
    cases rn
    show wpAny _ _ (call (.ref C) [v']) _ _ _
    have hlim := I1.nolimit
    obtain ⟨hp, g, dr, tk, os⟩ := s1
    refine wpAny_call (XE.err_made T I1.kIn hlim (by have := hr.dp; omega) fun h' tk' e d M => ?_)
    obtain ⟨t, hoe⟩ := M.obj
    have hns := M.ns
    obtain ⟨G', g1, g2⟩ := restrict h' fun b => decide (b ≠ e)
    have gk : ∀ b, b ≠ e → G'.get? b = h'.get? b := fun b hb => g1 b (decide_eq_true hb)
    have ge : G'.get? e = none := g2 e (by simp)
    have old : ∀ b o, hp.get? b = some o → G'.get? b = some o := fun b o q => (gk b (Nat.ne_of_lt (Nat.lt_of_lt_of_le (Heap.lt_size q) M.new))).trans (M.keep b o q)
    have back : ∀ b o, G'.get? b = some o → h'.get? b = some o := fun b o q => by
      by_cases hb : b = e
      · rw [hb, ge] at q
        cases q
      · exact (gk b hb).symm.trans q
    have nsG : G'.Ns1 d (fun y => if y = f.s then some v' else none) := hns.at (fun o q => (gk d M.dne).trans q)
    have J : Inv X pins σ (upd H1 d (exd d [(f.s, v)])) ⟨G', g, dr, tk', os⟩ := I1.laid (t' := tk') old M.dbig (exd_ok nsG (relO_put (fs := []) rv fun g => True.intro))
    have fe : H1 e = none := I1.hok.fresh M.new
    have fd : H1 d = none := I1.hok.fresh M.dbig
    have fe2 : (upd H1 d (exd d [(f.s, v)])) e = none := by
      rw [upd_ne M.dne.symm]
      exact fe
    exact ⟨e, _, _, ⟨G', g, dr, tk', os⟩, _, .ref C, some d, rfl, J, back, ge, hoe, ⟨rfl, rfl⟩, rfl, rfl, fe2, rfl, I1.bare, raises_own T.exC tyC, q1 d fd⟩
/-- the object of a kept exception, its dict's object -/
theorem exk_inst {X : Cx} {pins : List (Addr × Obj)} {σ : St} {H : Hp} {s : Shared} {a C d : Addr} {fs : List (Str × V)} (I : Inv X pins σ H s) (ea : H a = some (exk a (.ref C) (some d))) (ed : H d = some (exd d fs)) :
    ∃ (ox : Obj) (od : Obj) (mA : Str → Option Value), PySem.W.InstAt s.heap a ox C (some od) ∧ (∀ f, RelO (fs.lookup f) (mA f)) ∧ ∀ n, PySem.W.lookIn n od = some (mA n) := by
  obtain ⟨oe, vs, he, hz, hd⟩ := exk_at I.hok ea rfl
  obtain ⟨mA, hns, hr⟩ := exd_at I.hok ed
  obtain ⟨od, hod, hl⟩ := lookIn_ns hns
  refine ⟨oe, od, mA, ⟨he, hz.1, ?_, ?_⟩, hr, hl⟩
  · unfold PySem.W.notCls
    rw [hd]
  · rw [hz.2]
    exact hod
/-- e.n, e such an exception that was caught -/
def tErrK (K : PySem.W.Frag) (n : Str) (te : TE) : TE := fun σ H Q => te σ H fun x H1 => ∃ (a C d fI : Addr) (f : XE.Fl) (bmB : List Value) (newId : String) (v : V), x = .ref a ∧ f.s = n ∧ XE.Err K C fI f bmB newId ∧ H1 a = some (exk a (.ref C) (some d)) ∧ H1 d = some (exd d [(n, v)]) ∧ Q v H1
theorem pe_errK {X : Cx} {e : Expr} {te : TE} {pos : Pos} {n : Str} (he : PE X e te) (hb : attributeBase e n X.env (eval e X.env) = eval e X.env := by rfl) : PE X (.Attribute e n pos) (tErrK X.K n te) := by
  refine ⟨fun pins s σ H Q I h => ?_⟩
  refine attr_of hb (thn (he.run pins s σ H _ I h) fun u s1 ⟨x, H1, I1, rx, a, C, d, fI, f, bmB, newId, v, ex, en, T, ea, ed, q⟩ => ?_)
  subst ex
  subst en
  obtain rfl : u = Value.ref a := rx
  obtain ⟨ox, od, mA, J, hr, hl⟩ := exk_inst I1 ea ed
  have e1 : List.lookup f.s [(f.s, v)] = some v := by simp [List.lookup]
  obtain ⟨u, hu, ru⟩ := RelO.some_of (v := v) (o := mA f.s) (by rw [← e1]; exact hr f.s)
  exact HandSPX.exc_get I1.kIn J T.ga T.gg T.exC (PySem.W.findObj_own T.hd T.noF rfl (by rw [hl, hu])) (handed_of ru) ⟨v, H1, I1.tok _, ru, q⟩
/-- isinstance(e, c), e such an exception that was caught -/
def rErrKIs (K : PySem.W.Frag) : List V → Hp → VK → Prop := fun xs H Q => ∃ (a C fI d : Addr) (fs : List (Str × V)) (f : XE.Fl) (bmB : List Value) (newId : String) (c : V) (cv : Value) (b : Bool), xs = [.ref a, c] ∧ ClsV c cv ∧ XE.Err K C fI f bmB newId ∧ H a = some (exk a (.ref C) (some d)) ∧
  H d = some (exd d fs) ∧ PySem.W.kitOne K (.ref C) cv = some b ∧ Q (.bl b) H
theorem call_errKIs {X : Cx} : CallR X (.builtin "isinstance") (rErrKIs X.K) := by
  intro pins s σ H xs us Q I r h
  obtain ⟨a, C, fI, d, fs, f, bmB, newId, c, cv, b, rfl, k, T, ea, ed, e, q⟩ := h
  obtain ⟨u1, u2, rfl, r1, r2⟩ := vals2 r
  have e2 := k.eq r2
  subst e2
  obtain rfl : u1 = Value.ref a := r1
  obtain ⟨ox, od, mA, J, _, _⟩ := exk_inst I ea ed
  have hcl : (PySem.W.clsIn X.K C).isSome = true := by
    obtain ⟨cd, hc, _⟩ := PySem.W.any_some T.hd
    rw [hc]
    rfl
  exact PySem.W.kia_one (PySem.W.kitx_exc hcl T.ga T.gg T.exC T.cl T.sp T.tc T.mo) I.kIn J e (fun z => nomatch z) fun tk => ⟨.bl b, H, I.tok tk, rfl, q⟩
end L2

set_option maxRecDepth 100000
set_option maxHeartbeats 4000000
namespace My
open PySem PySem.Spec PyProof.Rows L2 Dl
abbrev sCO : Stmt := top 14
abbrev sBe : Stmt := top 21
abbrev sMe : Stmt := top 22
abbrev sCS : Stmt := top 20
theorem scCO : FnScope ["literals", "signs", "name", "yes"] ["literals"] (defScope sCO) := ⟨rfl, rfl, rfl, by decide +kernel, rfl, by decide +kernel, by decide +kernel⟩
theorem scBe : FnScope ["thing", "count"] ["thing", "count"] (defScope sBe) := ⟨rfl, rfl, rfl, by decide +kernel, rfl, by decide +kernel, by decide +kernel⟩
theorem scMe : FnScope ["first", "second", "name", "literal"] ["first", "second", "name"] (defScope sMe) := ⟨rfl, rfl, rfl, by decide +kernel, rfl, by decide +kernel, by decide +kernel⟩
theorem scCS : FnScope ["step", "ahead"] ["step", "ahead"] (defScope sCS) := ⟨rfl, rfl, rfl, by decide +kernel, rfl, by decide +kernel, by decide +kernel⟩
abbrev Cl := List Lit
def clD (c : Cl) : PD := .tuple (c.map litD)
def optC : Option Cl → PD
  | some c => clD c
  | none => .none
/-! ### clause_of -/
def gather : List Lit → List Lit → Option (List Lit)
  | acc, [] => some acc
  | acc, (n, b) :: r => match acc.lookup n with
    | some b' => if b' = b then gather acc r else none
    | none => gather (acc ++ [(n, b)]) r
def clauseOf (ls : List Lit) : Option Cl := (gather [] ls).map srtL
theorem gather_app : ∀ (l acc : List Lit) (x : Lit), gather acc (l ++ [x]) = (gather acc l).bind fun a => gather a [x]
  | [], acc, x => rfl
  | (n, b) :: r, acc, x => by
    show gather acc ((n, b) :: (r ++ [x])) = _
    unfold gather
    cases e : acc.lookup n with
    | none => exact gather_app r _ x
    | some b' =>
      show (if b' = b then gather acc (r ++ [x]) else none) = (if b' = b then gather acc r else none).bind _
      by_cases h : b' = b
      · rw [if_pos h, if_pos h]
        exact gather_app r acc x
      · rw [if_neg h, if_neg h]
        rfl
theorem gather_none {l m acc : List Lit} (h : gather acc l = none) : gather acc (l ++ m) = none := by
  induction m generalizing l with
  | nil => rw [List.append_nil]; exact h
  | cons x m ih =>
    have e : l ++ x :: m = (l ++ [x]) ++ m := by simp
    rw [e]
    refine ih ?_
    rw [gather_app, h]
    rfl
theorem gather_len : ∀ (l acc a : List Lit), gather acc l = some a → a.length ≤ acc.length + l.length
  | [], acc, a, h => by
    cases h
    exact Nat.le_refl _
  | (n, b) :: r, acc, a, h => by
    unfold gather at h
    cases e : acc.lookup n with
    | none =>
      rw [e] at h
      have := gather_len r _ a h
      rw [List.length_append] at this
      simp only [List.length_cons, List.length_nil] at this ⊢
      omega
    | some b' =>
      rw [e] at h
      have h2 : (if b' = b then gather acc r else none) = some a := h
      by_cases c : b' = b
      · rw [if_pos c] at h2
        have := gather_len r acc a h2
        rw [List.length_cons]
        omega
      · rw [if_neg c] at h2
        cases h2
theorem val_kvL (acc : List Lit) (n : Str) : valV (acc.map kvL) (Sum.inr n : Key) = (acc.lookup n).map V.bl := by
  induction acc with
  | nil => rfl
  | cons l r ih =>
    obtain ⟨m, b⟩ := l
    rw [List.lookup_cons]
    by_cases h : n = m
    · subst h
      rw [List.map_cons, valV_pos (p := kvL (n, b)) (k := (Sum.inr n : Key)) rfl]
      simp [kvL]
    · have h1 : ¬ (kvL (m, b)).1 = (Sum.inr n : Key) := fun e => h (Sum.inr.inj e).symm
      have h2 : (n == m) = false := by simp [h]
      rw [h2, List.map_cons, valV_neg h1, ih]
theorem put_kvL {acc : List Lit} {n : Str} {b : Bool} (h : acc.lookup n = none) : putK (acc.map kvL) (Sum.inr n : Key) (V.bl b) = (acc ++ [(n, b)]).map kvL := by
  unfold putK
  rw [valV_any, val_kvL, h, if_neg (by simp), List.map_append]
  rfl
theorem paired_lits {K : PySem.W.Frag} {H : Hp} : ∀ {ys : List Addr} {ls : List Lit}, Paired (fun y (t : Lit) => H y = some (.tup [.str t.1, .bl t.2])) ys ls → DpAll K H (ys.map V.ref) (ls.map litD)
  | _, _, .nil => .nil
  | _, _, .cons h t => .cons (.tup (SqT.of h) (.cons (.str _) (.cons (.bl _) .nil))) (paired_lits t)
def GCO (ds : List PD) (d : PD) : Prop := ∃ ls : List Lit, ds = [.list (ls.map litD)] ∧ ls.length ≤ 20000 ∧ d = optC (clauseOf ls)
structure Me (K : PySem.W.Frag) (mg : Str → Option Value) (fO fB fM fC : Addr) (dO dB dM dC : FuncData) : Prop where
  gO : mg "clause_of" = some (.ref fO)
  kO : PySem.W.keepIn K (.ref fO) = true
  bO : Binds K dO ["literals"] []
  gB : mg "_is_below" = some (.ref fB)
  kB : PySem.W.keepIn K (.ref fB) = true
  bB : Binds K dB ["thing", "count"] []
  gM : mg "meeting" = some (.ref fM)
  kM : PySem.W.keepIn K (.ref fM) = true
  bM : Binds K dM ["first", "second", "name"] []
  gC : mg "is_clause" = some (.ref fC)
  kC : PySem.W.keepIn K (.ref fC) = true
  bC : Binds K dC ["thing"] []
  msorted : mg "sorted" = none
  mtuple : mg "tuple" = none
  mint : mg "int" = none
  mbool : mg "bool" = none
  misinstance : mg "isinstance" = none
  mlen : mg "len" = none
section
variable {P : Program} {w : World} {K : PySem.W.Frag} {mg : Str → Option Value} {base : Heap} {f fO fB fM fC : Addr} {fd dO dB dM dC : FuncData}
theorem ok_clause_of {k : Nat} (F : FnP K "clause_of" sCO f fd) (T0 : Me K mg fO fB fM fC dO dB dM dC) : FnOk P w K mg base CX0 (k + 1) f fd ["literals"] (spD K GCO) := by
  refine F.ok scCO (fun vs H Q E h => ?_) (fun cdv A outer s H vs Q E hr h => ?_)
  · obtain ⟨ds, d, hv, ⟨x, rfl, _⟩, _⟩ := h
    rw [dpa_len hv]
    rfl
  obtain ⟨ds, d, hv, ⟨ls, rfl, hl, rfl⟩, q⟩ := h
  cases hv with
  | @cons v _ _ _ hd hv =>
  cases hv
  have hu := hu_of hr
  have hu64 := hr.units
  refine ⟨_, PSs.nox (pss_cons (ps_set (i := 1) scCO.nd rfl (Or.inl rfl) pe_dnewK)
 (pss_cons (ps_for PassesOwn.never rfl (pi_list (pv 0)) (pg_tup (by rfl) (pgs_cons (pg_name (i := 2) scCO.nd rfl (Or.inl rfl)) (pgs_cons (pg_name (i := 3) scCO.nd rfl (Or.inl rfl)) pgs_nil)))
 (pss_one (ps_if (pt_cmpR op_ne (pe_dsetd (pv 1) (pv 2) (pv 3) ⟨by rfl, by rfl, by rfl, by rfl⟩) (pv 3) (nomark _))
 (pss_one (ps_ret pe_non)) pss_nil)))
 (pss_one (ps_ret (pe_callTy call_tuple_of (by rfl) T0.mtuple (by decide +kernel) (pa_cons (pe_callB (cr_srtItems rfl hu64) (by rfl) T0.msorted (by decide +kernel) (pa_cons (pe_bm0 PySem.F.plainAttrs_dict PySem.F.slot_dict_items PySem.F.type_dict_items mt_itemsK (pv 1)) pa_nil)) pa_nil)))))), ?_⟩
  refine fun p np => ?_
  have s1 := same_newD np (.dK [])
  have e1 : (upd H p (.dK [])) p = some (.dK []) := upd_same
  generalize upd H p (.dK []) = H1 at s1 e1 ⊢
  have hd1 := dpk s1 hd
  have back : ∀ H', Kd p H1 H' → Same H H' := fun H' k b o h => k b o (s1 b o h) fun e => by
    rw [e, np] at h
    cases h
  refine s_forV2 Same (Kd p) (xs := ls) (e1 := fun l => .str l.1) (e2 := fun l => .bool l.2) (Same.refl H1) (srcV_list rfl hd1) (fun i σ' H' => ∃ (acc : List Lit) (u1 u2 : Option V), gather [] (ls.take i) = some acc ∧ H' p = some (.dK (acc.map kvL)) ∧ Kd p H1 H' ∧ σ' = [some v, some (.ref p), u1, u2]) ⟨[], none, none, rfl, e1, Edg.refl _, rfl⟩ (fun i σ' H' ⟨_, _, _, _, _, k, _⟩ => k) ?_ ?_
  · rintro i ⟨n, b⟩ w w' σ' H' H2 hx ⟨acc, u1, u2, hg, hp, hk, rfl⟩ s2 hw hw'
    cases hw
    cases hw'
    have hp2 := s2 _ _ hp
    have hk2 : Kd p H1 H2 := Edg.trans hk (Edg.same s2)
    have ht : gather [] (ls.take (i + 1)) = gather acc [(n, b)] := by
      rw [List.take_add_one, hx]
      show gather [] (ls.take i ++ [(n, b)]) = _
      rw [gather_app, hg]
      rfl
    have hgl := gather_len _ _ _ hg
    rw [List.length_nil, List.length_take] at hgl
    refine ⟨_, rfl, p, rfl, .inl ⟨_, .inl hp2⟩, _, rfl, _, rfl, acc.map kvL, Sum.inr n, hp2, rfl, by rw [List.length_map]; exact szs (by omega), fun v0 hv0 => ?_, fun hv0 => ?_⟩
    · rw [val_kvL] at hv0
      cases el : acc.lookup n with
      | none => rw [el] at hv0; cases hv0
      | some b0 =>
        rw [el] at hv0
        cases hv0
        refine ⟨_, rfl, rfl, _, rfl, ?_⟩
        by_cases hb : b0 = b
        · subst hb
          rw [decide_eq_true rfl]
          refine iteF ⟨acc, _, _, ?_, hp2, hk2, rfl⟩
          rw [ht]
          unfold gather
          rw [el]
          show (if b0 = b0 then gather acc [] else none) = _
          rw [if_pos rfl]
          rfl
        · rw [decide_eq_false (fun e => hb (V.bl.inj e))]
          refine iteT ?_
          refine q _ _ (back _ hk2) ?_
          have : clauseOf ls = none := by
            unfold clauseOf
            have e : ls = ls.take (i + 1) ++ ls.drop (i + 1) := (List.take_append_drop _ _).symm
            rw [e, gather_none]
            · rfl
            · rw [ht]
              unfold gather
              rw [el]
              show (if b0 = b then gather acc [] else none) = _
              rw [if_neg hb]
          rw [this]
          exact .non
    · rw [val_kvL] at hv0
      have el : acc.lookup n = none := by
        cases el : acc.lookup n with
        | none => rfl
        | some b0 => rw [el] at hv0; cases hv0
      refine ⟨_, rfl, rfl, _, rfl, ?_⟩
      rw [decide_eq_true rfl]
      refine iteF ⟨acc ++ [(n, b)], _, _, ?_, ?_, ?_, rfl⟩
      · rw [ht]
        unfold gather
        rw [el]
        rfl
      · rw [upd_same, put_kvL el]
      · intro c o h hc
        by_cases e : c = p
        · subst e
          have h2 := hk2 c o h hc
          rw [hp2] at h2
          cases h2
          exact absurd rfl (hc rfl _)
        · rw [upd_ne e]
          exact hk2 c o h hc
  · rintro σ' H' ⟨acc, u1, u2, hg, hp, hk, rfl⟩
    rw [List.take_length] at hg
    have hce : clauseOf ls = some (srtL acc) := by
      unfold clauseOf
      rw [hg]
      rfl
    rw [hce] at q
    refine ⟨_, rfl, .inr (.inr (.inl ⟨rfl, .inl ⟨_, hp⟩⟩)), p, _, rfl, rfl, hp, fun pi npi => ?_⟩
    have si := same_newD npi (L2.DX.itemsO pi p)
    refine ⟨pi, p, acc, rfl, upd_same, si _ _ hp, fun H4 l ys s4 nl el hy => ?_⟩
    refine ⟨l, _, rfl, .inl ⟨SqL.of el, fun t nt => ?_⟩⟩
    have st := same_newD nt (.tup (ys.map V.ref))
    exact q _ _ (((back _ hk).trans (si.trans s4)).trans st) (.tup (SqT.of upd_same) (dpak st (paired_lits hy)))
/-! ### _is_below, meeting, _clause_of_step -/
def belowD : PD → Nat → Bool
  | .int i, k => decide (0 ≤ i) && decide (i < (k : Int))
  | _, _ => false
def GBe (ds : List PD) (d : PD) : Prop := ∃ (x : PD) (k : Nat), ds = [x, .int (k : Int)] ∧ d = .bool (belowD x k)
theorem ok_below {k : Nat} (F : FnP K "_is_below" sBe f fd) (T0 : Me K mg fO fB fM fC dO dB dM dC) : FnOk P w K mg base CX0 (k + 1) f fd ["thing", "count"] (spD K GBe) := by
  refine F.ok scBe (fun vs H Q E h => ?_) (fun cdv A outer s H vs Q E hr h => ?_)
  · obtain ⟨ds, d, hv, ⟨x, k, rfl, _⟩, _⟩ := h
    rw [dpa_len hv]
    rfl
  obtain ⟨ds, d, hv, ⟨x, k, rfl, rfl⟩, q⟩ := h
  cases hv with
  | @cons v _ _ _ hd hv =>
  cases hv with
  | @cons v2 _ _ _ hd2 hv =>
  cases hv
  refine ⟨_, PSs.nox (pss_one (ps_ret (pe_and (pe_callB call_isi (by rfl) T0.misinstance (by decide +kernel) (pa_cons (pv 0) (pa_cons (pe_bltn (v := V.ty "int") (by rfl) T0.mint (by decide +kernel) rfl) pa_nil))) (pe_and (pe_not (pe_callB call_isi (by rfl) T0.misinstance (by decide +kernel) (pa_cons (pv 0) (pa_cons (pe_bltn (v := V.ty "bool") (by rfl) T0.mbool (by decide +kernel) rfl) pa_nil)))) (pe_one (pe_chain op_le op_lt pe_int (pv 0) (pv 1))))))), ?_⟩
  have fin : ∀ b : Bool, b = belowD x k → (∀ v H2, Same H H2 → Dp K H2 v (.bool b) → Q v H2) := fun b e v H2 s h => by
    rw [e] at h
    exact q v H2 s h
  cases x with
  | int i =>
    exact s_ret Same (de_andV (de_isi (de_var rfl hd) (kit_int _)) fun _ => de_andV (de_notV (de_isi (de_var rfl hd) (kit_bool _))) fun _ => de_chain de_int (de_var rfl hd) rd_b (fun _ => de_var rfl hd2) fun _ => rd_b) (fin _ rfl)
  | bool b =>
    exact s_ret Same (de_andV (c := false) (de_isi (de_var rfl hd) (kit_int _)) fun _ => de_andV (c := false) (de_notV (de_isi (de_var rfl hd) (kit_bool _))) fun h => by cases h) (fin _ rfl)
  | none => exact s_ret Same (de_andV (c := false) (de_isi (de_var rfl hd) (kit_int _)) fun h => by cases h) (fin _ rfl)
  | str _ => exact s_ret Same (de_andV (c := false) (de_isi (de_var rfl hd) (kit_int _)) fun h => by cases h) (fin _ rfl)
  | list _ => exact s_ret Same (de_andV (c := false) (de_isi (de_var rfl hd) (kit_int _)) fun h => by cases h) (fin _ rfl)
  | tuple _ => exact s_ret Same (de_andV (c := false) (de_isi (de_var rfl hd) (kit_int _)) fun h => by cases h) (fin _ rfl)
  | dict _ => exact s_ret Same (de_andV (c := false) (de_isi (de_var rfl hd) (kit_int _)) fun h => by cases h) (fin _ rfl)
/-- the literal met, in a clause -/
def meet (c e : Cl) (n : Str) : Option Cl := if (n, true) ∈ c ∧ (n, false) ∈ e then clauseOf ((c ++ e).filter fun l => !decide (l.1 = n)) else none
def meetD (c e : Cl) : PD → Option Cl
  | .str n => meet c e n
  | _ => none
theorem eqv_lit (l : Lit) (n : Str) (b : Bool) : PyData.eqv (litD l) (.tuple [.str n, .bool b]) = decide (l = (n, b)) := by
  obtain ⟨m, c⟩ := l
  simp only [litD, PyData.eqv, PyData.eqvAll, Bool.and_true]
  by_cases h1 : m = n
  · subst h1
    by_cases h2 : c = b
    · subst h2
      simp
    · have : ¬ ((m, c) = (m, b)) := fun e => h2 (Prod.mk.inj e).2
      rw [decide_eq_false this]
      cases c <;> cases b <;> simp_all
  · have : ¬ ((m, c) = (n, b)) := fun e => h1 (Prod.mk.inj e).1
    rw [decide_eq_false this]
    simp [h1]
theorem any_lit (c : Cl) (n : Str) (b : Bool) : ((c.map litD).any fun y => PyData.eqv y (.tuple [.str n, .bool b])) = decide ((n, b) ∈ c) := by
  induction c with
  | nil => rfl
  | cons l r ih =>
    rw [List.map_cons, List.any_cons, ih, eqv_lit]
    by_cases h : l = (n, b)
    · subst h
      simp
    · have h2 : ¬ ((n, b) = l) := fun e => h e.symm
      simp [h, h2]
theorem eqv_str_no {x : PD} (m : Str) (h : isStr x = false) : PyData.eqv (.str m) x = false := by
  cases x <;> first | (simp [PyData.eqv]; done) | cases h
theorem any_no (c : Cl) {x : PD} (b : Bool) (h : isStr x = false) : ((c.map litD).any fun y => PyData.eqv y (.tuple [x, .bool b])) = false := by
  induction c with
  | nil => rfl
  | cons l r ih =>
    rw [List.map_cons, List.any_cons, ih, Bool.or_false]
    show PyData.eqv (.tuple [.str l.1, .bool l.2]) (.tuple [x, .bool b]) = false
    rw [PyData.eqv, PyData.eqvAll, eqv_str_no _ h, Bool.false_and]
theorem plain_lits (c : Cl) : PyData.plainAll (c.map litD) = true := by
  induction c with
  | nil => simp [PyData.plainAll]
  | cons l r ih => simp [PyData.plainAll, litD, PyData.plain, ih]
theorem depth_lits (c : Cl) : PyData.depthAll (c.map litD) ≤ 1 := by
  induction c with
  | nil => simp [PyData.depthAll]
  | cons l r ih =>
    simp only [List.map_cons, PyData.depthAll, litD, PyData.depth]
    simp only [Nat.max_le]
    exact ⟨by simp [PyData.depth], ih⟩
theorem plain_cl (c : Cl) : (clD c).plain = true := by
  show PyData.plain (.tuple _) = true
  simp only [PyData.plain]
  exact plain_lits c
theorem depth_cl (c : Cl) : (clD c).depth ≤ 2 := by
  show PyData.depth (.tuple _) ≤ 2
  simp only [PyData.depth]
  have := depth_lits c
  omega
def GMe (ds : List PD) (d : PD) : Prop := ∃ (c e : Cl) (x : PD), ds = [clD c, clD e, x] ∧ c.length ≤ 2000 ∧ e.length ≤ 2000 ∧ x.plain = true ∧ d = optC (meetD c e x)
theorem nl_lit (l : Lit) : nl (litD l) = true := rfl
theorem ok_meeting {k : Nat} (F : FnP K "meeting" sMe f fd) (GO : FnOk P w K mg base CX0 k fO dO ["literals"] (spD K GCO)) (T0 : Me K mg fO fB fM fC dO dB dM dC) : FnOk P w K mg base CX0 (k + 1) f fd ["first", "second", "name"] (spD K GMe) := by
  refine F.ok scMe (fun vs H Q E h => ?_) (fun cdv A outer s H vs Q E hr h => ?_)
  · obtain ⟨ds, d, hv, ⟨c, e, x, rfl, _⟩, _⟩ := h
    rw [dpa_len hv]
    rfl
  obtain ⟨ds, d, hv, ⟨c, e, x, rfl, hc, he, hp, rfl⟩, q⟩ := h
  cases hv with
  | @cons v1 _ _ _ h1 hv =>
  cases hv with
  | @cons v2 _ _ _ h2 hv =>
  cases hv with
  | @cons v3 _ _ _ h3 hv =>
  cases hv
  have hu64 := hr.units
  refine ⟨_, PSs.nox (pss_cons (ps_if (PW.pt (pw_or (pt_cmpR (op_notInP hu64) (pe_tup (pa_cons (pv 2) (pa_cons pe_bl pa_nil))) (pv 0) rfl) (pw_or1 (pt_cmpR (op_notInP hu64) (pe_tup (pa_cons (pv 2) (pa_cons pe_bl pa_nil))) (pv 1) rfl))))
 (pss_one (ps_ret pe_non)) pss_nil)
 (pss_one (ps_ret (pe_call GO hr (by rfl) T0.gO T0.kO T0.bO .nil pass0 (pa_cons (pe_lc (own := [("literal", 3)]) (g := gName 3) (tt := _) (by rfl) scMe.nd (pi_tup (pe_op op_catA (pv 0) (pv 1))) (blkOk_by (own := [("literal", 3)]) (N := ["first", "second", "name", "literal"]) (sc := defScope sMe) (by decide +kernel)) (fun _ _ _ _ _ => pg_name (i := 3) scMe.nd rfl (Or.inl rfl)) (fun _ _ _ _ _ => (pts_one (pt_cmpR (show OpR _ (compareOp .NotEq) (rNeP K) from (op_neP hu64)) (pe_ix (show IxR _ (rIxT K) from ix_tup) (pv 3) pe_int (fun _ _ => rfl)) (pv 2) (nomark _)))) (fun _ _ _ _ _ => (pv 3))) pa_nil))))), ?_⟩
  have pt : ∀ b : Bool, PyData.plain (.tuple [x, .bool b]) = true := fun b => by simp [PyData.plain, PyData.plainAll, hp]
  have dm : ∀ (c : Cl) (b : Bool), min (PyData.depthAll (c.map litD)) (PyData.depth (.tuple [x, .bool b])) ≤ 60 := fun c b => Nat.le_trans (Nat.min_le_left _ _) (Nat.le_trans (depth_lits c) (by decide))
  refine s_if Same (K := K) (bt_or (bt_test (de_op (de_tup (da_cons (de_var rfl h3) (da_cons de_bl da_nil)) (Nat.le_of_ble_eq_true rfl)) (de_var rfl h1) (rd_inT (neg := true) (plain_lits c) (pt true) (dm c true)))) fun _ => bt_test (de_op (de_tup (da_cons (de_var rfl h3) (da_cons de_bl da_nil)) (Nat.le_of_ble_eq_true rfl)) (de_var rfl h2) (rd_inT (neg := true) (plain_lits e) (pt false) (dm e false)))) (fun h H1 s1 => ?_) (fun h H1 s1 => ?_)
  · have hn : meetD c e x = none := by
      cases x with
      | str n =>
        have h' : (!decide ((n, true) ∈ c) || !decide ((n, false) ∈ e)) = true := by rw [← any_lit, ← any_lit]; exact h
        show meet c e n = none
        unfold meet
        rw [if_neg]
        rintro ⟨m1, m2⟩
        rw [decide_eq_true m1, decide_eq_true m2] at h'
        cases h'
      | _ => rfl
    rw [hn] at q
    exact s_ret Same de_non fun v H2 s2 h2 => q v H2 (s1.trans s2) h2
  · cases hs : isStr x with
    | false =>
      have h' : (!((c.map litD).any fun y => PyData.eqv y (.tuple [x, .bool true])) || !((e.map litD).any fun y => PyData.eqv y (.tuple [x, .bool false]))) = false := h
      rw [any_no c true hs] at h'
      cases h'
    | true =>
      obtain ⟨n, rfl⟩ : ∃ n, x = .str n := by cases x <;> first | exact ⟨_, rfl⟩ | cases hs
      have h' : (!decide ((n, true) ∈ c) || !decide ((n, false) ∈ e)) = false := by rw [← any_lit, ← any_lit]; exact h
      have m1 : (n, true) ∈ c := by
        by_cases m : (n, true) ∈ c
        · exact m
        · rw [decide_eq_false m] at h'; cases h'
      have m2 : (n, false) ∈ e := by
        by_cases m : (n, false) ∈ e
        · exact m
        · rw [decide_eq_false m, Bool.or_comm] at h'; cases h'
      have hn : meetD c e (.str n) = clauseOf ((c ++ e).filter fun l => !decide (l.1 = n)) := if_pos ⟨m1, m2⟩
      rw [hn] at q
      have g1 := dpk s1 h1
      have g2 := dpk s1 h2
      have g3 := dpk s1 h3
      have len : (c ++ e).length ≤ 4000 := by rw [List.length_append]; omega
      refine s_ret Same (de_call (da_cons (de_le (le_is (le_lc (xs := c ++ e) (enc := litD) (f := litD) (cnd := fun l => !PyData.eqv (.str l.1) (.str n)) (src_tup (de_is (de_op (de_var rfl g1) (de_var rfl g2) (rd_catT (by rw [List.length_map, List.length_map]; omega))) (by rw [List.map_append]))) (by omega) (fun _ => rfl) (fun l _ w H' r hw => ⟨bt_test (de_op (de_op (de_var rfl hw) de_int (rd_ixT (f := .str l.1) rfl)) (de_var rfl (dpk r g3)) (rd_neP rfl rfl (Nat.le_trans (Nat.min_le_left _ _) (by simp [PyData.depth])))), fun _ => de_var rfl hw⟩) (fun l _ _ => nl_lit l)) ?_)) da_nil) ⟨_, rfl, ?_, rfl⟩) fun v H2 s2 h2 => q v H2 (s1.trans s2) h2
      · congr 1
      · exact Nat.le_trans (List.length_filter_le _ _) (by omega)
/-! a step -/
def natD : PD → Nat
  | .int i => i.toNat
  | _ => 0
def stepD (x : PD) (cls : List Cl) : PD := match x with
  | .tuple [w, c] => if (PyData.eqv w (.str "given") && clauseB c) = true then c else .none
  | .tuple [w, i, j, n] => if (PyData.eqv w (.str "met") && (belowD i cls.length && belowD j cls.length)) = true then optC (meetD (cls.getD (natD i) []) (cls.getD (natD j) []) n) else .none
  | _ => .none
def GCS (ds : List PD) (d : PD) : Prop := ∃ (x : PD) (cls : List Cl), ds = [x, .list (cls.map clD)] ∧ fewD x = true ∧ x.plain = true ∧ cls.length ≤ 20000 ∧ (∀ c ∈ cls, c.length ≤ 2000) ∧ d = stepD x cls
theorem plain_all {ds : List PD} (h : PyData.plain (.tuple ds) = true) : ∀ d ∈ ds, d.plain = true := by
  have h' : PyData.plainAll ds = true := by simpa [PyData.plain] using h
  induction ds with
  | nil => intro d hd; cases hd
  | cons x r ih =>
    simp only [PyData.plainAll, Bool.and_eq_true] at h'
    intro d hd
    rcases List.mem_cons.mp hd with e | hd
    · rw [e]; exact h'.1
    · exact ih (by simp [PyData.plain, h'.2]) h'.2 d hd
theorem at_nat {α : Type} {xs : List α} {k : Nat} {x : α} (h : xs[k]? = some x) : atI xs (k : Int) = some x := atI_nat h
theorem below_of {x : PD} {k : Nat} (h : belowD x k = true) : ∃ i : Nat, x = .int (i : Int) ∧ i < k := by
  cases x with
  | int i =>
    obtain ⟨h1, h2⟩ := Bool.and_eq_true_iff.mp (show (decide (0 ≤ i) && decide (i < (k : Int))) = true from h)
    have h1 := of_decide_eq_true h1
    have h2 := of_decide_eq_true h2
    exact ⟨i.toNat, by rw [Int.toNat_of_nonneg h1], by omega⟩
  | _ => cases h
theorem ok_cstep {k : Nat} (hk : 1 ≤ k) (F : FnP K "_clause_of_step" sCS f fd) (GC : FnOk P w K mg base CX0 k fC dC ["thing"] (spD K GClause)) (GB : FnOk P w K mg base CX0 1 fB dB ["thing", "count"] (spD K GBe)) (GM : FnOk P w K mg base CX0 k fM dM ["first", "second", "name"] (spD K GMe)) (T0 : Me K mg fO fB fM fC dO dB dM dC) : FnOk P w K mg base CX0 (k + 1) f fd ["step", "ahead"] (spD K GCS) := by
  refine F.ok scCS (fun vs H Q E h => ?_) (fun cdv A outer s H vs Q E hr h => ?_)
  · obtain ⟨ds, d, hv, ⟨x, cls, rfl, _⟩, _⟩ := h
    rw [dpa_len hv]
    rfl
  obtain ⟨ds, d, hv, ⟨x, cls, rfl, hf, hp, hl, hcl, rfl⟩, q⟩ := h
  cases hv with
  | @cons v1 _ _ _ h1 hv =>
  cases hv with
  | @cons v2 _ _ _ h2 hv =>
  cases hv
  have hu64 := hr.units
  have hr1 : Room 1 _ := hr.mono hk
  refine ⟨_, PSs.nox (pss_cons (ps_if (pt_not (pt_val (pe_callB call_isi (by rfl) T0.misinstance (by decide +kernel) (pa_cons (pv 0) (pa_cons (pe_bltn (v := V.ty "tuple") (by rfl) T0.mtuple (by decide +kernel) rfl) pa_nil)))))
 (pss_one (ps_ret pe_non)) pss_nil)
 (pss_cons (ps_if (PW.pt (pw_and (pt_cmpR op_eq (pe_callB call_len_seq (by rfl) T0.mlen PySem.boot_len (pa_cons (pv 0) pa_nil)) pe_int (nomark _)) (pw_and (pt_cmpR (op_eqP hu64) (pe_ix ix_tup (pv 0) pe_int (fun _ _ => rfl)) pe_str (nomark _)) (pw_and1 (pt_val (pe_call GC hr (by rfl) T0.gC T0.kC T0.bC .nil pass0 (pa_cons (pe_ix ix_tup (pv 0) pe_int (fun _ _ => rfl)) pa_nil)))))))
 (pss_one (ps_ret (pe_ix ix_tup (pv 0) pe_int (fun _ _ => rfl)))) pss_nil)
 (pss_cons (ps_if (PW.pt (pw_and (pt_cmpR op_eq (pe_callB call_len_seq (by rfl) T0.mlen PySem.boot_len (pa_cons (pv 0) pa_nil)) pe_int (nomark _)) (pw_and (pt_cmpR (op_eqP hu64) (pe_ix ix_tup (pv 0) pe_int (fun _ _ => rfl)) pe_str (nomark _)) (pw_and (pt_val (pe_call GB hr1 (by rfl) T0.gB T0.kB T0.bB .nil pass0 (pa_cons (pe_ix ix_tup (pv 0) pe_int (fun _ _ => rfl)) (pa_cons (pe_callB call_len_seq (by rfl) T0.mlen PySem.boot_len (pa_cons (pv 1) pa_nil)) pa_nil)))) (pw_and1 (pt_val (pe_call GB hr1 (by rfl) T0.gB T0.kB T0.bB .nil pass0 (pa_cons (pe_ix ix_tup (pv 0) pe_int (fun _ _ => rfl)) (pa_cons (pe_callB call_len_seq (by rfl) T0.mlen PySem.boot_len (pa_cons (pv 1) pa_nil)) pa_nil)))))))))
 (pss_one (ps_ret (pe_call GM hr (by rfl) T0.gM T0.kM T0.bM .nil pass0 (pa_cons (pe_ix ix_list (pv 1) (pe_ix ix_tup (pv 0) pe_int (fun _ _ => rfl)) (fun _ _ => rfl)) (pa_cons (pe_ix ix_list (pv 1) (pe_ix ix_tup (pv 0) pe_int (fun _ _ => rfl)) (fun _ _ => rfl)) (pa_cons (pe_ix ix_tup (pv 0) pe_int (fun _ _ => rfl)) pa_nil)))))) pss_nil)
 (pss_one (ps_ret pe_non))))), ?_⟩
  cases e : isTup x with
  | false =>
    refine s_if Same (K := K) (bt_not (bt_B (de_isi (de_var rfl h1) (kit_tup x)))) (fun h H1 s1 => ?_) (fun h => by rw [e] at h; cases h)
    have ew : stepD x cls = .none := by cases x <;> first | rfl | cases e
    rw [ew] at q
    exact s_ret Same de_non fun v H2 s2 h2 => q v H2 (s1.trans s2) h2
  | true =>
    obtain ⟨ds, rfl⟩ : ∃ z, x = .tuple z := by cases x <;> first | exact ⟨_, rfl⟩ | cases e
    obtain ⟨hlen, hfs⟩ := few_tup hf
    have hps := plain_all hp
    refine s_if Same (K := K) (bt_not (bt_B (de_isi (de_var rfl h1) (kit_tup _)))) (fun h => by cases h) (fun _ H1 s1 => ?_)
    have g1 := dpk s1 h1
    have g2 := dpk s1 h2
    have deq : ∀ (w : PD) (u : Str), min w.depth (PyData.depth (.str u)) ≤ 60 := fun w u => Nat.le_trans (Nat.min_le_right _ _) (by simp [PyData.depth])
    by_cases l2 : ds.length = 2
    · obtain ⟨w, c, rfl⟩ : ∃ a b, ds = [a, b] := by
        match ds, l2 with
        | [a, b], _ => exact ⟨a, b, rfl⟩
      have hw := hps w List.mem_cons_self
      refine s_if Same (K := K) (bt_and (bt_test (de_op (de_cb (da_cons (de_var rfl g1) da_nil) rc_lenT) de_int rd_eqI)) fun _ => bt_and (bt_test (de_op (de_op (de_var rfl g1) de_int (rd_ixT (f := w) rfl)) de_str (rd_eqP hw rfl (deq w _)))) fun _ => bt_B (de_call (da_cons (de_op (de_var rfl g1) de_int (rd_ixT (f := c) rfl)) da_nil) ⟨_, rfl, hfs c (by simp), rfl⟩)) (fun h H2 s2 => ?_) (fun h H2 s2 => ?_)
      · have ew : stepD (.tuple [w, c]) cls = c := if_pos h
        rw [ew] at q
        exact s_ret Same (de_op (de_var rfl (dpk s2 g1)) de_int (rd_ixT (f := c) rfl)) fun v H3 s3 h3 => q v H3 ((s1.trans s2).trans s3) h3
      · have ew : stepD (.tuple [w, c]) cls = .none := if_neg (by rw [show (PyData.eqv w (.str "given") && clauseB c) = false from h]; exact Bool.false_ne_true)
        rw [ew] at q
        refine s_if Same (K := K) (b := false) (bt_is (bt_and (c := false) (bt_test (de_op (de_cb (da_cons (de_var rfl (dpk s2 g1)) da_nil) rc_lenT) de_int rd_eqI)) fun h => absurd (of_decide_eq_true h) (by show ¬ ((2 : Int) = 4); decide)) (Bool.and_false _)) (fun h => by cases h) (fun _ H3 s3 => ?_)
        dsimp only [tNext]
        refine s_ret Same (K := K) de_non ?_
        exact fun v H4 s4 h4 => q v H4 (((s1.trans s2).trans s3).trans s4) h4
    · refine s_if Same (K := K) (b := false) (bt_is (bt_and (c := false) (bt_test (de_op (de_cb (da_cons (de_var rfl g1) da_nil) rc_lenT) de_int rd_eqI)) fun h => absurd (of_decide_eq_true h) (by omega)) (Bool.and_false _)) (fun h => by cases h) (fun _ H2 s2 => ?_)
      have g1 := dpk s2 g1
      have g2 := dpk s2 g2
      by_cases l4 : ds.length = 4
      · obtain ⟨w, i, j, n, rfl⟩ : ∃ a b c d, ds = [a, b, c, d] := by
          match ds, l4 with
          | [a, b, c, d], _ => exact ⟨a, b, c, d, rfl⟩
        have hw := hps w List.mem_cons_self
        have hnp := hps n (by simp)
        refine s_if Same (K := K) (bt_and (bt_test (de_op (de_cb (da_cons (de_var rfl g1) da_nil) rc_lenT) de_int rd_eqI)) fun _ => bt_and (bt_test (de_op (de_op (de_var rfl g1) de_int (rd_ixT (f := w) rfl)) de_str (rd_eqP hw rfl (deq w _)))) fun _ => bt_and (bt_B (de_call (da_cons (de_op (de_var rfl g1) de_int (rd_ixT (f := i) rfl)) (da_cons (de_cb (da_cons (de_var rfl g2) da_nil) rc_lenL) da_nil)) ⟨i, cls.length, by rw [List.length_map], rfl⟩)) fun _ => bt_B (de_call (da_cons (de_op (de_var rfl g1) de_int (rd_ixT (f := j) rfl)) (da_cons (de_cb (da_cons (de_var rfl g2) da_nil) rc_lenL) da_nil)) ⟨j, cls.length, by rw [List.length_map], rfl⟩)) (fun h H3 s3 => ?_) (fun h H3 s3 => ?_)
        · have h' : (PyData.eqv w (.str "met") && (belowD i cls.length && belowD j cls.length)) = true := h
          have ew : stepD (.tuple [w, i, j, n]) cls = optC (meetD (cls.getD (natD i) []) (cls.getD (natD j) []) n) := if_pos h'
          rw [ew] at q
          obtain ⟨_, h3⟩ := Bool.and_eq_true_iff.mp h'
          obtain ⟨b1, b2⟩ := Bool.and_eq_true_iff.mp h3
          obtain ⟨a, rfl, ha⟩ := below_of b1
          obtain ⟨b, rfl, hb⟩ := below_of b2
          have ea : cls[a]? = some (cls.getD a []) := by rw [List.getD_eq_getElem?_getD, List.getElem?_eq_getElem ha]; rfl
          have eb : cls[b]? = some (cls.getD b []) := by rw [List.getD_eq_getElem?_getD, List.getElem?_eq_getElem hb]; rfl
          have fa : (cls.map clD)[a]? = some (clD (cls.getD a [])) := by rw [List.getElem?_map, ea]; rfl
          have fb : (cls.map clD)[b]? = some (clD (cls.getD b [])) := by rw [List.getElem?_map, eb]; rfl
          have g1 := dpk s3 g1
          have g2 := dpk s3 g2
          exact s_ret Same (de_call (da_cons (de_op (de_var rfl g2) (de_op (de_var rfl g1) de_int (rd_ixT (f := .int (a : Int)) rfl)) (rd_ixL (at_nat fa))) (da_cons (de_op (de_var rfl g2) (de_op (de_var rfl g1) de_int (rd_ixT (f := .int (b : Int)) rfl)) (rd_ixL (at_nat fb))) (da_cons (de_op (de_var rfl g1) de_int (rd_ixT (f := n) rfl)) da_nil))) ⟨_, _, _, rfl, hcl _ (List.mem_of_getElem? ea), hcl _ (List.mem_of_getElem? eb), hnp, rfl⟩) fun v H4 s4 h4 => q v H4 (((s1.trans s2).trans s3).trans s4) h4
        · have ew : stepD (.tuple [w, i, j, n]) cls = .none := if_neg (by rw [show (PyData.eqv w (.str "met") && (belowD i cls.length && belowD j cls.length)) = false from h]; exact Bool.false_ne_true)
          rw [ew] at q
          dsimp only [tNext]
          refine s_ret Same (K := K) de_non ?_
          exact fun v H4 s4 h4 => q v H4 (((s1.trans s2).trans s3).trans s4) h4
      · have ew : stepD (.tuple ds) cls = .none := by
          match ds, l2, l4 with
          | [], _, _ => rfl
          | [_], _, _ => rfl
          | [_, _], h, _ => exact absurd rfl h
          | [_, _, _], _, _ => rfl
          | [_, _, _, _], _, h => exact absurd rfl h
          | _ :: _ :: _ :: _ :: _ :: _, _, _ => rfl
        rw [ew] at q
        refine s_if Same (K := K) (b := false) (bt_is (bt_and (c := false) (bt_test (de_op (de_cb (da_cons (de_var rfl g1) da_nil) rc_lenT) de_int rd_eqI)) fun h => absurd (of_decide_eq_true h) (by omega)) (Bool.and_false _)) (fun h => by cases h) (fun _ H3 s3 => ?_)
        dsimp only [tNext]
        refine s_ret Same (K := K) de_non ?_
        exact fun v H4 s4 h4 => q v H4 (((s1.trans s2).trans s3).trans s4) h4
end
end My

namespace My
open PySem PySem.Spec PyProof.Rows L2
/-- a def that may raise, called where it doesn't -/
theorem fnok_calm {P : Program} {w : World} {K : PySem.W.Frag} {mg : Str → Option Value} {base : Heap} {k : Nat} {f : Addr} {fd : FuncData} {ps : List Str} {sp : Sp} (F : FnOk P w K mg base (L2.CX P w) k f fd ps sp) :
    FnOk P w K mg base CX0 k f fd ps (fun vs H Q _ => sp vs H Q fun _ _ _ => False) :=
  ⟨fun vs H Q _ h => F.len vs H Q _ h, fun A outer s H args us vs Q E hr he hb hv h Γ p hc hB => by
    refine wpCode_mono (fun r s' q => ?_) (F.run A outer s H args us vs Q _ hr he hb hv h Γ p hc hB)
    cases r with
    | error e =>
      obtain ⟨_, _, _, _, _, _, _, _, _, _, _, _, z⟩ := q
      exact z.elim
    | ok v => cases v <;> exact q⟩
end My

set_option maxRecDepth 100000
set_option maxHeartbeats 4000000
namespace My
open PySem PySem.Spec PyProof.Rows L2 Dl
abbrev sIn : Stmt := inClass (top 19) 0
abbrev sSt : Stmt := inClass (top 19) 1
abbrev sCs : Stmt := inClass (top 19) 2
abbrev sLa : Stmt := inClass (top 19) 3
abbrev sLn : Stmt := inClass (top 19) 5
abbrev sEq : Stmt := inClass (top 19) 6
theorem scIn : FnScope ["self", "steps", "clauses", "number", "step", "clause"] ["self", "steps"] (defScope sIn) := ⟨rfl, rfl, rfl, by decide +kernel, rfl, by decide +kernel, by decide +kernel⟩
theorem scSt : FnScope ["self"] ["self"] (defScope sSt) := ⟨rfl, rfl, rfl, by decide +kernel, rfl, by decide +kernel, by decide +kernel⟩
theorem scCs : FnScope ["self"] ["self"] (defScope sCs) := ⟨rfl, rfl, rfl, by decide +kernel, rfl, by decide +kernel, by decide +kernel⟩
theorem scLa : FnScope ["self"] ["self"] (defScope sLa) := ⟨rfl, rfl, rfl, by decide +kernel, rfl, by decide +kernel, by decide +kernel⟩
theorem scLn : FnScope ["self"] ["self"] (defScope sLn) := ⟨rfl, rfl, rfl, by decide +kernel, rfl, by decide +kernel, by decide +kernel⟩
theorem scEq : FnScope ["self", "other"] ["self", "other"] (defScope sEq) := ⟨rfl, rfl, rfl, by decide +kernel, rfl, by decide +kernel, by decide +kernel⟩
abbrev FnM (K : PySem.W.Frag) (x q : Str) (st : Stmt) (f : Addr) (fd : FuncData) : Prop := FunD K x q (defArgs st) (defBody st) (defScope st) [] [] f fd
/-! ### a chain's clauses by its steps -/
def litOf : PD → Lit
  | .tuple [.str n, .bool b] => (n, b)
  | _ => (Str.empty, false)
def clOf : PD → Cl
  | .tuple ds => ds.map litOf
  | _ => []
theorem lit_litOf {x : PD} (h : litB x = true) : litD (litOf x) = x := by
  obtain ⟨n, b, rfl, _⟩ := lit_of h
  rfl
theorem cl_clOf {x : PD} (h : clauseB x = true) : clD (clOf x) = x := by
  cases x with
  | tuple ds =>
    have h' : (ds.all litB && risesD ds) = true := h
    have h1 := List.all_eq_true.mp (Bool.and_eq_true_iff.mp h').1
    show PyData.tuple ((ds.map litOf).map litD) = _
    rw [List.map_map]
    congr 1
    conv => rhs; rw [← List.map_id ds]
    exact List.map_congr_left fun x hx => lit_litOf (h1 x hx)
  | _ => cases h
def stepO (x : PD) (cls : List Cl) : Option Cl := match x with
  | .tuple [w, c] => if (PyData.eqv w (.str "given") && clauseB c) = true then some (clOf c) else none
  | .tuple [w, i, j, n] => if (PyData.eqv w (.str "met") && (belowD i cls.length && belowD j cls.length)) = true then meetD (cls.getD (natD i) []) (cls.getD (natD j) []) n else none
  | _ => none
theorem stepD_O (x : PD) (cls : List Cl) : stepD x cls = optC (stepO x cls) := by
  cases x with
  | tuple ds =>
    match ds with
    | [] => rfl
    | [_] => rfl
    | [w, c] =>
      show (if (PyData.eqv w (.str "given") && clauseB c) = true then c else .none) = optC (if (PyData.eqv w (.str "given") && clauseB c) = true then some (clOf c) else none)
      by_cases h : (PyData.eqv w (.str "given") && clauseB c) = true
      · rw [if_pos h, if_pos h]
        exact (cl_clOf (Bool.and_eq_true_iff.mp h).2).symm
      · rw [if_neg h, if_neg h]
        rfl
    | [_, _, _] => rfl
    | [w, i, j, n] =>
      show (if (PyData.eqv w (.str "met") && (belowD i cls.length && belowD j cls.length)) = true then optC (meetD (cls.getD (natD i) []) (cls.getD (natD j) []) n) else .none) = optC (if (PyData.eqv w (.str "met") && (belowD i cls.length && belowD j cls.length)) = true then meetD (cls.getD (natD i) []) (cls.getD (natD j) []) n else none)
      by_cases h : (PyData.eqv w (.str "met") && (belowD i cls.length && belowD j cls.length)) = true
      · rw [if_pos h, if_pos h]
      · rw [if_neg h, if_neg h]
        rfl
    | _ :: _ :: _ :: _ :: _ :: _ => rfl
  | _ => rfl
def runF (cls : List Cl) (p : PD) : Option (List Cl) := (stepO p cls).map fun c => cls ++ [c]
def runO (ps : List PD) : Option (List Cl) := ps.foldlM runF []
theorem runO_app (ps qs : List PD) : runO (ps ++ qs) = (runO ps).bind fun cls => qs.foldlM runF cls := by
  unfold runO
  rw [List.foldlM_append]
  rfl
theorem runO_next {ps : List PD} {i : Nat} {p : PD} (h : ps[i]? = some p) : runO (ps.take (i + 1)) = (runO (ps.take i)).bind fun cls => runF cls p := by
  rw [List.take_add_one, h]
  show runO (ps.take i ++ [p]) = _
  rw [runO_app]
  congr 1
  funext cls
  show (runF cls p).bind _ = _
  cases runF cls p <;> rfl
theorem run_len : ∀ (ps : List PD) (acc cls : List Cl), ps.foldlM runF acc = some cls → cls.length = acc.length + ps.length
  | [], acc, cls, h => by
    cases h
    rfl
  | p :: r, acc, cls, h => by
    rw [List.foldlM_cons] at h
    have h' : (runF acc p).bind (fun a => r.foldlM runF a) = some cls := h
    unfold runF at h'
    cases e : stepO p acc with
    | none => rw [e] at h'; cases h'
    | some c =>
      rw [e] at h'
      have := run_len r (acc ++ [c]) cls h'
      rw [List.length_append] at this
      simp only [List.length_cons, List.length_nil] at this ⊢
      omega
theorem runO_len {ps : List PD} {cls : List Cl} (h : runO ps = some cls) : cls.length = ps.length := by
  have := run_len ps [] cls h
  rw [List.length_nil] at this
  omega
/-! ### the object -/
section
variable {K : PySem.W.Frag} {H : Hp} {p C dx a : Addr} {fs : List (Str × V)} {o : HO} {xs : List V}
theorem ne_ins (hp : H p = some (.ins C dx fs)) {u : HO} (h : H a = some u) (n : ∀ C dx fs, u ≠ .ins C dx fs) : a ≠ p := fun z => by
  rw [z, hp] at h
  exact n _ _ _ (Option.some.inj h).symm
theorem sql_ins (hp : H p = some (.ins C dx fs)) (h : SqL K H a xs) : SqL K (upd H p o) a xs := by
  rcases h with (h | ⟨o', h⟩) | h
  · exact .inl (.inl (by rw [upd_ne (ne_ins hp h fun _ _ _ z => nomatch z)]; exact h))
  · exact .inl (.inr ⟨o', by rw [upd_ne (ne_ins hp h fun _ _ _ z => nomatch z)]; exact h⟩)
  · exact .inr h
theorem sqt_ins (hp : H p = some (.ins C dx fs)) (h : SqT K H a xs) : SqT K (upd H p o) a xs := by
  rcases h with (h | ⟨o', h⟩) | h
  · exact .inl (.inl (by rw [upd_ne (ne_ins hp h fun _ _ _ z => nomatch z)]; exact h))
  · exact .inl (.inr ⟨o', by rw [upd_ne (ne_ins hp h fun _ _ _ z => nomatch z)]; exact h⟩)
  · exact .inr h
theorem dp_ins {v : V} {d : PD} (hp : H p = some (.ins C dx fs)) (h : Dp K H v d) : Dp K (upd H p o) v d := dp_go (fun _ _ => sql_ins hp) (fun _ _ => sqt_ins hp) d v h
theorem s_fld {R : Hp → Hp → Prop} [Edg R] {σ : L2.St} {tv : TE} {i : Nat} {f : Str} {D : Ends} {d : PD} (h : DE R K tv σ H d) (ho : σ[i]? = some (some (.ref p))) (hp : H p = some (.ins C dx fs)) (cl : Cls K C) (na : NoAttr K C f) (hl : fs.length < 1000)
    (k : ∀ y H1, Same H H1 → Dp K H1 y d → D.nx σ (upd H1 p (.ins C dx (putF f y fs)))) : sFld K (tVar i) tv f D σ H := h H (Edg.refl H) _ fun y H1 s hy => ⟨_, ho, p, C, dx, fs, rfl, s _ _ hp, cl, na, hl, k y H1 s hy⟩
theorem lt_ins {ds : List PD} (hp : H p = some (.ins C dx fs)) (h : Lt K H a ds) : Lt K (upd H p o) a ds := by
  obtain ⟨vs, e, q⟩ := h
  exact ⟨vs, by rw [upd_ne (ne_ins hp e fun _ _ _ z => nomatch z)]; exact e, dpa_go (fun _ _ => sql_ins hp) (fun _ _ => sqt_ins hp) ds vs q⟩
end
def fldsC (a b : V) : List (Str × V) := putF "_clauses" b (putF "_steps" a [])
theorem ks_ne : ¬ (("_steps" : Str) = "_clauses") := by decide +kernel
theorem fldsC_s (a b : V) : (fldsC a b).lookup ("_steps" : Str) = some a := by
  unfold fldsC
  rw [lookup_putF, if_neg ks_ne, lookup_putF, if_pos rfl]
theorem fldsC_c (a b : V) : (fldsC a b).lookup ("_clauses" : Str) = some b := by
  unfold fldsC
  rw [lookup_putF, if_pos rfl]
theorem fldsC_no (a b : V) {m : Str} (h1 : ¬ m = "_clauses") (h2 : ¬ m = "_steps") : (fldsC a b).lookup m = none := by
  unfold fldsC
  rw [lookup_putF, if_neg h1, lookup_putF, if_neg h2]
  rfl
/-- at p a Chain of the steps ps, their clauses cls -/
def ChainAt (K : PySem.W.Frag) (C : Addr) (H : Hp) (p : Addr) (ps : List PD) (cls : List Cl) : Prop := ∃ dx a b, H p = some (.ins C dx (fldsC a b)) ∧ Dp K H a (.tuple ps) ∧ Dp K H b (.tuple (cls.map clD))
theorem ChainAt.keep {K : PySem.W.Frag} {C : Addr} {R : Hp → Hp → Prop} [Edg R] {H H' : Hp} {p : Addr} {ps : List PD} {cls : List Cl} (c : ChainAt K C H p ps cls) (r : R H H') : ChainAt K C H' p ps cls := by
  obtain ⟨dx, a, b, h, h1, h2⟩ := c
  exact ⟨dx, a, b, Edg.k r h (fun _ z => nomatch z), dpk r h1, dpk r h2⟩
/-- kept by whatever keeps the object and all tuples -/
theorem ChainAt.tk {K : PySem.W.Frag} {C : Addr} {H H' : Hp} {p : Addr} {ps : List PD} {cls : List Cl} (c : ChainAt K C H p ps cls) (t : Tk H H') (k : ∀ o, H p = some o → H' p = some o) (n : nlA ps = true) : ChainAt K C H' p ps cls := by
  obtain ⟨dx, a, b, h, h1, h2⟩ := c
  exact ⟨dx, a, b, k _ h, dp_tk t _ _ (by unfold nl; exact n) h1, dp_tk t _ _ (by unfold nl; exact nlA_map (fun x => by show nlA (x.map litD) = true; exact nlA_map fun _ => rfl)) h2⟩
structure Ch (K : PySem.W.Frag) (mg : Str → Option Value) (C fIC CN fIN fS : Addr) (dS : FuncData) (bmB : List Value) (newId : String) : Prop where
  cl : Cls K C
  nS : NoAttr K C "_steps"
  nC : NoAttr K C "_clauses"
  gC : mg "Chain" = some (.ref C)
  cc : PySem.W.findIn K (.ref C) "__class__" = some (some (.builtin "object.__class__"))
  cs : PySem.W.specialIn K (.builtin "object.__class__") "__get__" = some (some (.builtin "getset_descriptor.__get__"))
  ct : PySem.W.takesIn K (.builtin "object.__class__") = some true
  cm : PySem.W.mroIn K C (.type "object") = some true
  ck : PySem.W.kitOne K (.ref C) (.ref C) = some true
  err : XE.Err K CN fIN .step bmB newId
  tyN : PySem.W.typeIn K (.ref CN) = some (.type "type")
  gN : mg "NoStep" = some (.ref CN)
  gS : mg "_clause_of_step" = some (.ref fS)
  kS : PySem.W.keepIn K (.ref fS) = true
  bS : Binds K dS ["step", "ahead"] []
  misinstance : mg "isinstance" = none
  mlist : mg "list" = none
  mtuple : mg "tuple" = none
  menumerate : mg "enumerate" = none
  mlen : mg "len" = none
/-- what is asked of the steps -/
structure Fits (ps : List PD) : Prop where
  ne : ps ≠ []
  len : ps.length ≤ 20000
  few : ∀ p ∈ ps, fewD p = true
  pl : ∀ p ∈ ps, p.plain = true
  cl : ∀ k cls, runO (ps.take k) = some cls → ∀ c ∈ cls, c.length ≤ 2000
def spInit (K : PySem.W.Frag) (C CN : Addr) : Sp := fun vs H Q E => ∃ (p dx : Addr) (v : V) (ps : List PD), vs = [.ref p, v] ∧ H p = some (.ins C dx []) ∧ Dp K H v (.list ps) ∧ Fits ps ∧
  (∀ cls, runO ps = some cls → ∀ H', (∀ b o, H b = some o → b ≠ p → H' b = some o) → ChainAt K C H' p ps cls → Q .non H') ∧
  (∀ k cls x, runO (ps.take k) = some cls → ps[k]? = some x → stepO x cls = none → ∀ d H', Same H H' → H d = none → H' d = some (exd d [("step", .int (k : Int))]) → E (.ref CN) (some d) H')
section
variable {P : Program} {w : World} {K : PySem.W.Frag} {mg : Str → Option Value} {base : Heap} {f C fIC CN fIN fS : Addr} {fd dS : FuncData} {bmB : List Value} {newId : String}
theorem ok_init {k : Nat} (F : FnM K "__init__" "Chain.__init__" sIn f fd) (GS : FnOk P w K mg base CX0 k fS dS ["step", "ahead"] (spD K GCS)) (T0 : Ch K mg C fIC CN fIN fS dS bmB newId) : FnOk P w K mg base (L2.CX P w) (k + 1) f fd ["self", "steps"] (spInit K C CN) := by
  refine F.ok scIn (fun vs H Q E h => ?_) (fun cdv A outer s H vs Q E hr h => ?_)
  · obtain ⟨p, dx, v, ps, rfl, _⟩ := h
    rfl
  obtain ⟨p, dx, v, ps, rfl, hp, hd, fi, q, qe⟩ := h
  have hu := hu_of hr
  have hu64 := hr.units
  refine ⟨_, (pss_cons (ps_if (PW.pt (pw_or (pt_not (pt_val (pe_callB call_isiT (by rfl) T0.misinstance (by decide +kernel) (pa_cons (pv 1) (pa_cons (pe_tup (pa_cons (pe_bltn (v := V.ty "list") (by rfl) T0.mlist (by decide +kernel) rfl) (pa_cons (pe_bltn (v := V.ty "tuple") (by rfl) T0.mtuple (by decide +kernel) rfl) pa_nil))) pa_nil))))) (pw_or1 (pt_not (pt_truth (pv 1) (by intro _; rfl))))))
 (pss_one (ps_raise rfl (takes_of rfl rfl rfl rfl) (pmk_err T0.err T0.tyN hr (T0.gN) (pa_cons pe_int pa_nil)))) pss_nil)
 (pss_cons (ps_set (i := 2) scIn.nd rfl (Or.inl rfl) (pe_lst pa_nil))
 (pss_cons (ps_for (passes_of rfl) rfl (pi_enum (by rfl) T0.menumerate (pa_cons (pv 1) pa_nil)) (pg_tup (by rfl) (pgs_cons (pg_name (i := 3) scIn.nd rfl (Or.inl rfl)) (pgs_cons (pg_name (i := 4) scIn.nd rfl (Or.inl rfl)) pgs_nil)))
 (pss_cons (ps_set (i := 5) scIn.nd rfl (Or.inl rfl) (pe_call GS hr (by rfl) T0.gS T0.kS T0.bS .nil pass0 (pa_cons (pv 4) (pa_cons (pv 2) pa_nil))))
 (pss_cons (ps_if (pt_cmpR op_isN (pv 5) pe_non (nomark _))
 (pss_one (ps_raise rfl (takes_of rfl rfl rfl rfl) (pmk_err T0.err T0.tyN hr (T0.gN) (pa_cons (pv 3) pa_nil)))) pss_nil)
 (pss_one (ps_expr (pe_bm PySem.F.plainAttrs_list PySem.F.slot_list_append PySem.F.type_list_append mt_append (pv 2) (pa_cons (pv 5) pa_nil)))))))
 (pss_cons (ps_fld (pv 0) (pe_callTy call_tuple_of (by rfl) T0.mtuple (by decide +kernel) (pa_cons (pv 1) pa_nil)) rfl)
 (pss_one (ps_fld (pv 0) (pe_callTy call_tuple_of (by rfl) T0.mtuple (by decide +kernel) (pa_cons (pv 2) pa_nil)) rfl)))))), ?_⟩
  refine s_if Same (K := K) (bt_or (bt_not (bt_B (de_isi2 (b := true) (c := false) (de_var rfl hd) (kit_list _) (kit_tup _)))) fun _ => bt_not (bt_tru (de_var rfl hd) tru_lst)) (fun h => ?_) (fun _ H1 s1 => ?_)
  · cases ps with
    | nil => exact absurd rfl fi.ne
    | cons x r => cases h
  have hd1 := dpk s1 hd
  refine s_setL Same (K := K) (le_lst da_nil (by decide)) fun L H2 nL s2 l2 => ?_
  have s12 := s1.trans s2
  have nL0 : H L = none := s1.free nL
  have hp2 := s12 _ _ hp
  refine s_forV2 Same Same (H0 := H) (xs := ps.zipIdx) (e1 := fun x => .int (x.2 : Int)) (e2 := fun x => x.1) s12 (srcV_enum rfl hd) (fun i σ' H' => ∃ (cls : List Cl) (u1 u2 u3 : Option V), runO (ps.take i) = some cls ∧ Lt K H' L (cls.map clD) ∧ Same H H' ∧ σ' = [some (.ref p), some v, some (.ref L), u1, u2, u3]) ⟨[], none, none, none, rfl, l2, s12, rfl⟩ (fun i σ' H' ⟨_, _, _, _, _, _, k, _⟩ => k) ?_ ?_
  · rintro i ⟨x, j⟩ w1 w2 σ' H3 H4 hx ⟨cls, u1, u2, u3, hrun, hL, hk, rfl⟩ s34 hw1 hw2
    rw [List.getElem?_zipIdx] at hx
    cases ex : ps[i]? with
    | none => rw [ex] at hx; cases hx
    | some x0 =>
    rw [ex] at hx
    cases hx
    have e0 : 0 + i = i := Nat.zero_add i
    rw [e0] at hw1
    have hi := (List.getElem?_eq_some_iff.mp ex).1
    have hmem := List.mem_of_getElem? ex
    have hlc := runO_len hrun
    rw [List.length_take] at hlc
    have hL4 := ltk s34 hL
    have h04 := hk.trans s34
    refine s_set Same (K := K) (de_call (da_cons (de_var rfl hw2) (da_cons (de_var rfl hL4.dp) da_nil)) ⟨x, cls, rfl, fi.few _ hmem, fi.pl _ hmem, by have := fi.len; omega, fi.cl _ _ hrun, rfl⟩) fun c H5 s5 hc => ?_
    rw [stepD_O] at hc
    have hL5 := ltk s5 hL4
    have hw5 := dpk s5 hw1
    have h05 := h04.trans s5
    have hnx := runO_next ex
    rw [hrun] at hnx
    cases eo : stepO x cls with
    | none =>
      rw [eo] at hc
      cases hc
      refine ⟨_, rfl, rfl, _, rfl, ?_⟩
      rw [decide_eq_true rfl]
      refine iteT ?_
      cases hw5
      refine ⟨_, rfl, _, rfl, fun d hdn => ?_⟩
      exact qe i cls x hrun ex eo d _ (h05.trans (same_newD hdn _)) (h05.free hdn) upd_same
    | some c0 =>
      rw [eo] at hc
      have hnn : c ≠ .non := fun z => by
        rw [z] at hc
        obtain ⟨a, xs, e, _⟩ := dp_tupI hc
        cases e
      refine ⟨_, rfl, rfl, _, rfl, ?_⟩
      rw [decide_eq_false hnn]
      refine iteF ?_
      refine s_app Same hL5 rfl (de_var rfl hc) (by rw [List.length_map]; have := fi.len; omega) (nlA_map (fun x => by show nlA (x.map litD) = true; exact nlA_map fun _ => rfl)) (by show nlA (c0.map litD) = true; exact nlA_map fun _ => rfl) fun H6 s6 o l6 tk => ⟨cls ++ [c0], _, _, _, ?_, ?_, ?_, rfl⟩
      · rw [hnx]
        show Option.map _ (stepO x cls) = _
        rw [eo]
        rfl
      · rw [List.map_append]
        exact l6
      · exact same_mut (h05.trans s6) nL0
  · rintro σ' H3 ⟨cls, u1, u2, u3, hrun, hL, hk, rfl⟩
    have hz : ps.zipIdx.length = ps.length := List.length_zipIdx
    rw [hz, List.take_length] at hrun
    have hd3 := dpk hk hd
    have hp3 := hk _ _ hp
    refine s_fld (R := Same) (de_cb (da_cons (de_var rfl hd3) da_nil) rc_tupL) rfl hp3 T0.cl T0.nS (by decide) fun a H4 s4 ha => ?_
    have hL4 := ltk s4 hL
    have hp4 := s4 _ _ hp3
    have l5 : Lt K (upd H4 p (.ins C dx (putF "_steps" a []))) L (cls.map clD) := lt_ins hp4 hL4
    have a5 : Dp K (upd H4 p (.ins C dx (putF "_steps" a []))) a (.tuple ps) := dp_ins hp4 ha
    have k5 : ∀ b o, H b = some o → b ≠ p → (upd H4 p (.ins C dx (putF "_steps" a []))) b = some o := fun b o h n => by
      rw [upd_ne n]
      exact s4 _ _ (hk _ _ h)
    have hp5 : (upd H4 p (.ins C dx (putF "_steps" a []))) p = some (.ins C dx (putF "_steps" a [])) := upd_same
    generalize upd H4 p (.ins C dx (putF "_steps" a [])) = H5 at l5 a5 k5 hp5 ⊢
    refine s_fld (R := Same) (de_cb (da_cons (de_var rfl l5.dp) da_nil) rc_tupL) rfl hp5 T0.cl T0.nC (show 1 < 1000 by decide) fun b H6 s6 hb => ?_
    have hp6 := s6 _ _ hp5
    refine q cls hrun _ (fun c o h n => ?_) ⟨dx, a, b, upd_same, dp_ins hp6 (dpk s6 a5), dp_ins hp6 hb⟩
    rw [upd_ne n]
    exact s6 _ _ (k5 c o h n)
theorem de_neg {R : Hp → Hp → Prop} [Edg R] {σ : L2.St} {H : Hp} {te : TE} {i : Int} (h : DE R K te σ H (.int i)) : DE R K (tUn (rU fun i => V.int (-i)) te) σ H (.int (-i)) := fun H1 g Q q => h H1 g _ fun v H2 s hv => by
  cases hv
  exact ⟨i, rfl, q _ H2 s (.int _)⟩
/-! ### its methods -/
/-- self.f -/
theorem de_self {R : Hp → Hp → Prop} [Edg R] {σ : L2.St} {H : Hp} {i : Nat} {p dx : Addr} {g : Str} {fs : List (Str × V)} {v : V} {d : PD} (ho : σ[i]? = some (some (.ref p))) (hp : H p = some (.ins C dx fs)) (cl : Cls K C) (na : NoAttr K C g) (hl : fs.lookup g = some v) (hd : Dp K H v d) : DE R K (tFld K (tVar i) g) σ H d := fun H1 r Q q =>
  ⟨_, ho, p, C, dx, fs, v, rfl, Edg.k r hp (fun _ z => nomatch z), cl, na, hl, q v H1 (Same.refl _) (dpk r hd)⟩
def spCSteps (K : PySem.W.Frag) (C : Addr) : Sp := fun vs H Q _ => ∃ (p : Addr) (ps : List PD) (cls : List Cl), vs = [.ref p] ∧ ChainAt K C H p ps cls ∧ ∀ a H', H a = none → Same H H' → Lt K H' a ps → Q (.ref a) H'
theorem ok_steps {k : Nat} (F : FnM K "steps" "Chain.steps" sSt f fd) (T0 : Ch K mg C fIC CN fIN fS dS bmB newId) : FnOk P w K mg base CX0 (k + 1) f fd ["self"] (spCSteps K C) := by
  refine F.ok scSt (fun vs H Q E h => ?_) (fun cdv A outer s H vs Q E hr h => ?_)
  · obtain ⟨p, ps, cls, rfl, _⟩ := h
    rfl
  obtain ⟨p, ps, cls, rfl, ⟨dx, a, b, hp, ha, hb⟩, q⟩ := h
  refine ⟨_, PSs.nox (pss_one (ps_ret (pe_callTy call_list_of (by rfl) T0.mlist (by decide +kernel) (pa_cons (pe_fld (pv 0) rfl) pa_nil)))), ?_⟩
  exact s_retL Same (le_cb (da_cons (de_self rfl hp T0.cl T0.nS (fldsC_s _ _) ha) da_nil) rcl_listT) q
def spCClauses (K : PySem.W.Frag) (C : Addr) : Sp := fun vs H Q _ => ∃ (p : Addr) (ps : List PD) (cls : List Cl), vs = [.ref p] ∧ ChainAt K C H p ps cls ∧ ∀ a H', H a = none → Same H H' → Lt K H' a (cls.map clD) → Q (.ref a) H'
theorem ok_clauses {k : Nat} (F : FnM K "clauses" "Chain.clauses" sCs f fd) (T0 : Ch K mg C fIC CN fIN fS dS bmB newId) : FnOk P w K mg base CX0 (k + 1) f fd ["self"] (spCClauses K C) := by
  refine F.ok scCs (fun vs H Q E h => ?_) (fun cdv A outer s H vs Q E hr h => ?_)
  · obtain ⟨p, ps, cls, rfl, _⟩ := h
    rfl
  obtain ⟨p, ps, cls, rfl, ⟨dx, a, b, hp, ha, hb⟩, q⟩ := h
  refine ⟨_, PSs.nox (pss_one (ps_ret (pe_callTy call_list_of (by rfl) T0.mlist (by decide +kernel) (pa_cons (pe_fld (pv 0) rfl) pa_nil)))), ?_⟩
  exact s_retL Same (le_cb (da_cons (de_self rfl hp T0.cl T0.nC (fldsC_c _ _) hb) da_nil) rcl_listT) q
theorem at_last {α : Type} {xs : List α} {x : α} (h : xs.getLast? = some x) : atI xs (-1) = some x := by
  unfold atI
  have hl : 0 < xs.length := by
    cases xs with
    | nil => cases h
    | cons _ _ => exact Nat.succ_pos _
  have e : ixN xs.length (-1) = some (xs.length - 1) := by
    unfold ixN
    simp
    omega
  rw [e]
  rw [List.getLast?_eq_getElem?] at h
  exact h
def spCLast (K : PySem.W.Frag) (C : Addr) : Sp := fun vs H Q _ => ∃ (p : Addr) (ps : List PD) (cls : List Cl) (c : Cl), vs = [.ref p] ∧ ChainAt K C H p ps cls ∧ cls.getLast? = some c ∧ ∀ v H', Same H H' → Dp K H' v (clD c) → Q v H'
theorem ok_last {k : Nat} (F : FnM K "last" "Chain.last" sLa f fd) (T0 : Ch K mg C fIC CN fIN fS dS bmB newId) : FnOk P w K mg base CX0 (k + 1) f fd ["self"] (spCLast K C) := by
  refine F.ok scLa (fun vs H Q E h => ?_) (fun cdv A outer s H vs Q E hr h => ?_)
  · obtain ⟨p, ps, cls, c, rfl, _⟩ := h
    rfl
  obtain ⟨p, ps, cls, c, rfl, ⟨dx, a, b, hp, ha, hb⟩, hc, q⟩ := h
  refine ⟨_, PSs.nox (pss_one (ps_ret (pe_ix ix_tup (pe_fld (pv 0) rfl) (pe_un un_neg pe_int) (fun _ _ => rfl)))), ?_⟩
  exact s_ret Same (de_op (de_self rfl hp T0.cl T0.nC (fldsC_c _ _) hb) (de_neg de_int) (rd_ixT (at_last (x := clD c) (by rw [List.getLast?_map, hc]; rfl)))) q
def spCLen (K : PySem.W.Frag) (C : Addr) : Sp := fun vs H Q _ => ∃ (p : Addr) (ps : List PD) (cls : List Cl), vs = [.ref p] ∧ ChainAt K C H p ps cls ∧ ∀ H', Same H H' → Q (.int (ps.length : Int)) H'
theorem ok_len {k : Nat} (F : FnM K "__len__" "Chain.__len__" sLn f fd) (T0 : Ch K mg C fIC CN fIN fS dS bmB newId) : FnOk P w K mg base CX0 (k + 1) f fd ["self"] (spCLen K C) := by
  refine F.ok scLn (fun vs H Q E h => ?_) (fun cdv A outer s H vs Q E hr h => ?_)
  · obtain ⟨p, ps, cls, rfl, _⟩ := h
    rfl
  obtain ⟨p, ps, cls, rfl, ⟨dx, a, b, hp, ha, hb⟩, q⟩ := h
  refine ⟨_, PSs.nox (pss_one (ps_ret (pe_callB call_len_seq (by rfl) T0.mlen PySem.boot_len (pa_cons (pe_fld (pv 0) rfl) pa_nil)))), ?_⟩
  refine s_ret Same (de_cb (da_cons (de_self rfl hp T0.cl T0.nS (fldsC_s _ _) ha) da_nil) rc_lenT) fun v H1 s1 h1 => ?_
  cases h1
  exact q H1 s1
/-- == of two Chains -/
def spCEq (K : PySem.W.Frag) (C : Addr) : Sp := fun vs H Q _ => ∃ (p p' : Addr) (ps ps' : List PD) (cls cls' : List Cl), vs = [.ref p, .ref p'] ∧ ChainAt K C H p ps cls ∧ ChainAt K C H p' ps' cls' ∧ PyData.plain (.tuple ps) = true ∧ PyData.plain (.tuple ps') = true ∧ PyData.depth (.tuple ps) ≤ 60 ∧ ∀ H', Same H H' → Q (.bl (PyData.eqv (.tuple ps) (.tuple ps'))) H'
theorem ok_eq {k : Nat} (F : FnM K "__eq__" "Chain.__eq__" sEq f fd) (T0 : Ch K mg C fIC CN fIN fS dS bmB newId) : FnOk P w K mg base CX0 (k + 1) f fd ["self", "other"] (spCEq K C) := by
  refine F.ok scEq (fun vs H Q E h => ?_) (fun cdv A outer s H vs Q E hr h => ?_)
  · obtain ⟨p, p', ps, ps', cls, cls', rfl, _⟩ := h
    rfl
  obtain ⟨p, p', ps, ps', cls, cls', rfl, ⟨dx, a, b, hp, ha, hb⟩, ⟨dx', a', b', hp', ha', hb'⟩, p1, p2, p3, q⟩ := h
  have hu64 := hr.units
  refine ⟨_, PSs.nox (pss_one (ps_ret (pe_and (pe_callB call_isi (by rfl) T0.misinstance (by decide +kernel) (pa_cons (pv 1) (pa_cons (pe_glob (v := V.ref C) (by rfl) T0.gC rfl) pa_nil))) (pe_one (pe_cmpR (op_eqP hu64) (pe_fld (pv 0) rfl) (pe_fld (pv 1) rfl) (nomark _)))))), ?_⟩
  have hisi : DE Same K (tCB (rIsi K) (tCons (tVar 1) (tCons (tC (.ref C)) tNil))) (L2.start ["self", "other"] [V.ref p, V.ref p']) H (.bool true) := fun H1 r Q q =>
    ⟨_, rfl, .ref p', .ref C, .ref C, .ref C, true, rfl, .own C, .base (.ins (r _ _ hp') T0.cl T0.cc T0.cs T0.ct T0.cm), T0.ck, q _ H1 (Same.refl _) (.bl true)⟩
  refine s_ret Same (de_andV hisi fun _ => de_op (de_self rfl hp T0.cl T0.nS (fldsC_s _ _) ha) (de_self rfl hp' T0.cl T0.nS (fldsC_s _ _) ha') (rd_eqP p1 p2 (Nat.le_trans (Nat.min_le_left _ _) p3))) fun v H1 s1 h1 => ?_
  cases h1
  rw [Bool.true_and]
  exact q H1 s1
end
end My

set_option maxRecDepth 100000
set_option maxHeartbeats 4000000
namespace My
open PySem PySem.Spec PyProof.Rows L2 Dl
/-! ### words: small letters, unlike -/
abbrev lets : List Nat := abc.cps.toList
theorem lets_len : lets.length = 26 := by decide +kernel
theorem lets_nd : lets.Nodup := by decide +kernel
theorem str_ext {a b : Str} (h : a.cps.toList = b.cps.toList) : a = b := by
  obtain ⟨⟨a⟩⟩ := a
  obtain ⟨⟨b⟩⟩ := b
  exact congrArg (fun l => Str.mk (Array.mk l)) h
theorem toL_app (a b : Str) : (a ++ b).cps.toList = a.cps.toList ++ b.cps.toList := by
  show (a.cps ++ b.cps).toList = _
  exact Array.toList_append
theorem len_toL (a : Str) : a.length = a.cps.toList.length := by
  show a.cps.size = _
  exact Array.length_toList.symm
theorem cut_toL (z : Str) (k : Nat) : (cutS z none (some (k : Int))).cps.toList = z.cps.toList.take k := by
  unfold cutS
  rw [HT.sIx_nat, HT.sIx_none, List.drop_zero, Nat.sub_zero]
  show ((z.cps.toList.take (min k z.length)).toArray).toList = _
  rw [len_toL, List.take_eq_take_min (i := k)]
theorem cut_toL7 (z : Str) : (cutS z none (some 7)).cps.toList = z.cps.toList.take 7 := cut_toL z 7
theorem cut_toL8 (z : Str) : (cutS z none (some 8)).cps.toList = z.cps.toList.take 8 := cut_toL z 8
/-- letters alone -/
def Low (z : Str) : Prop := ∀ c ∈ z.cps.toList, c ∈ lets
structure Shp (z : Str) : Prop where
  lo : 1 ≤ z.length
  hi : z.length ≤ 8
  low : Low z
theorem low_app {a b : Str} (h1 : Low a) (h2 : Low b) : Low (a ++ b) := fun c h => by
  rw [toL_app] at h
  exact (List.mem_append.mp h).elim (h1 c) (h2 c)
theorem low_one {c : Nat} (h : c ∈ lets) : Low ⟨#[c]⟩ := fun d hd => by
  rw [List.mem_singleton.mp (show d ∈ [c] from hd)]
  exact h
theorem low_cut {z : Str} {k : Nat} (h : Low z) : Low (cutS z none (some (k : Int))) := fun c hc => by
  rw [cut_toL] at hc
  exact h c (List.mem_of_mem_take hc)
theorem word_shp {z : Str} (s : Shp z) (n : z ∉ barred) : wordB z = true := by
  unfold wordB
  rw [decide_eq_true (show (1 : Int) ≤ (z.length : Int) by have := s.lo; omega), decide_eq_true (show (z.length : Int) ≤ 8 by have := s.hi; omega), decide_eq_false n]
  show (z.cps.toList.all fun c => decide (c ∈ abc.cps.toList)) = true
  exact List.all_eq_true.mpr fun c hc => decide_eq_true (s.low c hc)
theorem shp_word {z : Str} (h : wordB z = true) : Shp z ∧ z ∉ barred := by
  unfold wordB at h
  simp only [Bool.and_eq_true, decide_eq_true_eq, Bool.not_eq_true', decide_eq_false_iff_not, List.all_eq_true] at h
  obtain ⟨⟨h1, h2⟩, h3, h4⟩ := h
  exact ⟨⟨by omega, by omega, h4⟩, h3⟩
def Bad (ws : List Str) (x : Str) : Prop := x ∈ ws ∨ x ∈ barred
instance (ws : List Str) (x : Str) : Decidable (Bad ws x) := by unfold Bad; infer_instance
def stepW (ws : List Str) (x : Str) (c : Nat) : Str := if Bad ws x then cutS x none (some 7) ++ ⟨#[c]⟩ else x
theorem step_shp {ws : List Str} {x : Str} {c : Nat} (s : Shp x) (h : c ∈ lets) : Shp (stepW ws x c) := by
  unfold stepW
  by_cases b : Bad ws x
  · rw [if_pos b]
    refine ⟨?_, ?_, low_app (low_cut (k := 7) s.low) (low_one h)⟩
    · rw [len_toL, toL_app, List.length_append]
      show 1 ≤ _ + 1
      omega
    · rw [len_toL, toL_app, List.length_append, cut_toL7, List.length_take]
      show _ + 1 ≤ 8
      omega
  · rw [if_neg b]
    exact s
theorem fold_shp {ws : List Str} : ∀ (l : List Nat) {x : Str}, Shp x → (∀ c ∈ l, c ∈ lets) → Shp (l.foldl (stepW ws) x)
  | [], _, s, _ => s
  | c :: l, _, s, h => fold_shp l (step_shp s (h c List.mem_cons_self)) fun d hd => h d (List.mem_cons_of_mem _ hd)
theorem good_stays {ws : List Str} {x : Str} (g : ¬ Bad ws x) : ∀ l : List Nat, l.foldl (stepW ws) x = x
  | [] => rfl
  | c :: l => by
    rw [List.foldl_cons, show stepW ws x c = x from if_neg g]
    exact good_stays g l
theorem nd_len : ∀ (l m : List Str), l.Nodup → (∀ z ∈ l, z ∈ m) → l.length ≤ m.length
  | [], _, _, _ => Nat.zero_le _
  | x :: r, m, nd, hm => by
    obtain ⟨nx, nr⟩ := List.nodup_cons.mp nd
    have hx := hm x List.mem_cons_self
    have ih := nd_len r (m.erase x) nr fun z hz => (List.mem_erase_of_ne fun e => nx (by rw [← e]; exact hz)).mpr (hm z (List.mem_cons_of_mem _ hz))
    have e := List.length_erase_of_mem hx
    have pos := List.length_pos_of_mem hx
    rw [List.length_cons]
    omega
theorem last_good {ws : List Str} {x : Str} (hws : ws.length ≤ 11) (hx : 1 ≤ x.length) : ¬ Bad ws (lets.foldl (stepW ws) x) := by
  intro hb
  let W : Nat → Str := fun j => (lets.take j).foldl (stepW ws) x
  have all : ∀ j, Bad ws (W j) := fun j => by
    refine Decidable.by_contra fun g => ?_
    have e : lets.foldl (stepW ws) x = (lets.drop j).foldl (stepW ws) (W j) := by
      show _ = (lets.drop j).foldl (stepW ws) ((lets.take j).foldl (stepW ws) x)
      rw [← List.foldl_append, List.take_append_drop]
    rw [good_stays g] at e
    rw [e] at hb
    exact g hb
  have nx : ∀ j c, lets[j]? = some c → W (j + 1) = cutS (W j) none (some 7) ++ ⟨#[c]⟩ := fun j c e => by
    show (lets.take (j + 1)).foldl (stepW ws) x = _
    rw [List.take_add_one, e]
    show (lets.take j ++ [c]).foldl (stepW ws) x = _
    rw [List.foldl_append]
    show stepW ws (W j) c = _
    exact if_pos (all j)
  have at_ : ∀ j, j < 26 → ∃ c, lets[j]? = some c := fun j h => ⟨_, List.getElem?_eq_getElem (by rw [lets_len]; exact h)⟩
  have ln : ∀ j, j ≤ 26 → min 8 (1 + j) ≤ (W j).cps.toList.length := by
    intro j
    induction j with
    | zero =>
      intro _
      show min 8 1 ≤ x.cps.toList.length
      rw [← len_toL]
      omega
    | succ j ih =>
      intro h
      obtain ⟨c, e⟩ := at_ j h
      have := ih (by omega)
      rw [nx j c e, toL_app, List.length_append, cut_toL7, List.length_take]
      show _ ≤ _ + 1
      omega
  have pf : ∀ k, 7 + k ≤ 26 → (W (7 + k)).cps.toList.take 7 = (W 7).cps.toList.take 7 := by
    intro k
    induction k with
    | zero => intro _; rfl
    | succ k ih =>
      intro h
      obtain ⟨c, e⟩ := at_ (7 + k) (by omega)
      have hl := ln (7 + k) (by omega)
      have i := ih (by omega)
      show (W (7 + k + 1)).cps.toList.take 7 = _
      rw [nx (7 + k) c e, toL_app, cut_toL7, List.take_append_of_le_length (by rw [List.length_take]; omega), List.take_take]
      exact i
  have cand : ∀ c ∈ lets.drop 7, cutS (W 7) none (some 7) ++ ⟨#[c]⟩ ∈ ws ++ barred := fun c hc => by
    obtain ⟨k, e⟩ := List.mem_iff_getElem?.mp hc
    rw [List.getElem?_drop] at e
    have hk : 7 + k < 26 := by
      have := (List.getElem?_eq_some_iff.mp e).1
      rw [lets_len] at this
      exact this
    have h1 := all (7 + k + 1)
    have e2 : W (7 + k + 1) = cutS (W 7) none (some 7) ++ ⟨#[c]⟩ := by
      rw [nx (7 + k) c e]
      refine str_ext ?_
      rw [toL_app, toL_app, cut_toL7, cut_toL7, pf k (by omega)]
    rw [e2] at h1
    exact List.mem_append.mpr h1
  have nd : ((lets.drop 7).map fun c => cutS (W 7) none (some 7) ++ (⟨#[c]⟩ : Str)).Nodup := by
    have h0 : (lets.drop 7).Nodup := List.Nodup.sublist (List.drop_sublist 7 lets) lets_nd
    refine List.pairwise_map.mpr (List.Pairwise.imp (fun {a b} hab e => hab ?_) h0)
    have e2 := congrArg (fun z : Str => z.cps.toList) e
    simp only [toL_app] at e2
    have e3 := List.append_cancel_left e2
    exact (List.cons.inj (show [a] = [b] from e3)).1
  have l1 := nd_len _ _ nd fun z hz => by
    obtain ⟨c, hc, rfl⟩ := List.mem_map.mp hz
    exact cand c hc
  rw [List.length_map, List.length_drop, lets_len, List.length_append] at l1
  have : barred.length = 7 := rfl
  omega
/-- the word behind the loop -/
theorem last_word {ws : List Str} {x : Str} (hws : ws.length ≤ 11) (s : Shp x) : wordB (lets.foldl (stepW ws) x) = true ∧ lets.foldl (stepW ws) x ∉ ws := by
  have g := last_good hws s.lo
  have s2 := fold_shp lets (ws := ws) s fun _ h => h
  exact ⟨word_shp s2 fun h => g (.inr h), fun h => g (.inl h)⟩
/-! figures behind a word -/
theorem rstrip_toL (x y : Str) : (Txt.rstripChars x y).cps.toList = x.cps.toList.take (x.cps.toList.length - (x.cps.toList.reverse.takeWhile fun c => y.cps.contains c).length) := by
  unfold Txt.rstripChars
  rw [stripBy_eq]
  unfold stripLo stripHi Builtin.Str.strSub
  simp [Str.length]
  have e : (fun c => decide (c ∈ y.cps)) = y.cps.contains := by
    funext c
    rw [Bool.eq_iff_iff]
    simp
  rw [e]
theorem rstrip_word {z f : Str} (s : Shp z) (hf : ∀ c ∈ f.cps.toList, c ∈ figs.cps.toList) : Txt.rstripChars (z ++ f) figs = z := by
  refine str_ext ?_
  rw [rstrip_toL, toL_app]
  have e1 : ((z.cps.toList ++ f.cps.toList).reverse.takeWhile fun c => figs.cps.contains c) = f.cps.toList.reverse := by
    rw [List.reverse_append, List.takeWhile_append_of_pos (fun c hc => by
      have := hf c (List.mem_reverse.mp hc)
      exact Array.contains_iff.mpr (Array.mem_toList_iff.mp this))]
    have e2 : (z.cps.toList.reverse.takeWhile fun c => figs.cps.contains c) = [] := by
      cases e : z.cps.toList.reverse with
      | nil => rfl
      | cons c r =>
        have hc : c ∈ lets := s.low c (List.mem_reverse.mp (by rw [e]; exact List.mem_cons_self))
        have hn : figs.cps.contains c = false := by
          have key : ∀ d ∈ lets, figs.cps.contains d = false := by decide +kernel
          exact key c hc
        rw [List.takeWhile_cons, hn]
        rfl
    rw [e2, List.append_nil]
  rw [e1, List.length_reverse, List.length_append, Nat.add_sub_cancel, List.take_left']
  rfl
end My

set_option maxRecDepth 100000
set_option maxHeartbeats 4000000
namespace My
open PySem PySem.Spec PyProof.Rows L2 Dl
abbrev sTape : Stmt := top 30
abbrev sDraw : Stmt := top 31
abbrev sWords : Stmt := top 32
theorem scTape : FnScope ["_law_script"] ["_law_script"] (defScope sTape) := ⟨rfl, rfl, rfl, by decide +kernel, rfl, by decide +kernel, by decide +kernel⟩
theorem scDraw : FnScope ["_law_tape_here", "_law_many", "_law_found", "_law_spot", "_law_cells", "_law_cell", "_law_primes", "_law_prime", "_law_seed"] ["_law_tape_here", "_law_many"] (defScope sDraw) := ⟨rfl, rfl, rfl, by decide +kernel, rfl, by decide +kernel, by decide +kernel⟩
section
variable {P : Program} {w : World} {K : PySem.W.Frag} {mg : Str → Option Value} {base : Heap} {f : Addr} {fd : FuncData}
theorem ok_tape {k : Nat} (F : FnP K "_law_tape" sTape f fd) : FnOk P w K mg base CX0 (k + 1) f fd ["_law_script"] (spTape K) := by
  refine F.ok scTape (fun vs H Q E h => ?_) (fun cdv A outer s H vs Q E hr h => ?_)
  · obtain ⟨a, ns, rfl, _⟩ := h
    rfl
  obtain ⟨a, ns, rfl, hS, q⟩ := h
  refine ⟨_, PSs.nox (pss_one (ps_ret (pe_disp (pps_cons pe_str (pe_slice sl_list (pv 0) po_none (po_some pe_int)) (pps_cons pe_str pe_int (pps_cons pe_str pe_int pps_nil))) (by rfl) (by rfl) (fun z => by cases z) (by decide)))), ?_⟩
  refine fun p np => ⟨.ref a, rfl, ?_⟩
  have s1 : Same H (upd H p (.dK [])) := same_new np _
  refine ⟨63, rfl, a, _, rfl, s1.seq hS, fun c nc => ?_⟩
  have s2 := same_new nc (.lst (cutV (ns.map V.int) none (some 63)))
  have ncp : p ≠ c := fun e => by
    rw [← e, upd_same] at nc
    cases nc
  obtain ⟨ms, em, lm⟩ := cut63 ns
  refine ⟨by rw [upd_ne ncp, upd_same], [(kC, .ref c), (kS, .int 0), (kL, .int 0)], rfl, (by show 3 ≤ 15; decide), ?_⟩
  refine q _ p c ⟨ms, 0, 0, ⟨?_, ?_⟩, Int.le_refl 0, Int.le_refl 0, lm⟩ ?_ np (s1.free nc)
  · rw [upd_same]
    rfl
  · rw [upd_ne ncp.symm, upd_same, em]
  · intro b o h
    have hb : b ≠ p := ne_of_none h np
    rw [upd_ne hb]
    exact s2 _ _ (s1 _ _ h)
theorem ok_draw {n : Nat} (hn : n ≤ 20) (F : FnP K "_law_draw" sDraw f fd) (G : FnOk P w K mg base CX0 n f fd ["_law_tape_here", "_law_many"] (spDraw n)) (b : Binds K fd ["_law_tape_here", "_law_many"] []) (gD : mg "_law_draw" = some (.ref f)) (ml : mg "len" = none) :
    FnOk P w K mg base CX0 (n + 1) f fd ["_law_tape_here", "_law_many"] (spDraw (n + 1)) := by
  refine F.ok scDraw (fun vs H Q E h => ?_) (fun cdv A outer s H vs Q E hr h => ?_)
  · obtain ⟨T, L, m, B, rfl, _⟩ := h
    rfl
  obtain ⟨T, L, m, B, rfl, hm1, hm2, hB, hT, q⟩ := h
  have hu := hu_of hr
  refine ⟨_, PSs.nox (pss_cons (ps_if (pt_cmpR op_gt (pe_dget hu (pv 0) pe_str (fun _ _ => rfl)) pe_int (nomark _))
 (pss_cons (ps_set (i := 2) scDraw.nd rfl (Or.inl rfl) (pe_op op_modN (pe_dget hu (pv 0) pe_str (fun _ _ => rfl)) (pv 1)))
 (pss_cons (ps_dput hu (pv 0) pe_str (pe_op op_fdivW (pe_dget hu (pv 0) pe_str (fun _ _ => rfl)) (pv 1)) rfl)
 (pss_one (ps_ret (pv 2))))) pss_nil)
 (pss_cons (ps_set (i := 3) scDraw.nd rfl (Or.inl rfl) (pe_dget hu (pv 0) pe_str (fun _ _ => rfl)))
 (pss_cons (ps_dput hu (pv 0) pe_str (pe_op op_add (pv 3) pe_int) rfl)
 (pss_cons (ps_set (i := 4) scDraw.nd rfl (Or.inl rfl) (pe_orT (pe_dget hu (pv 0) pe_str (fun _ _ => rfl)) (pe_one (pe_lst (pa_cons pe_int pa_nil)))))
 (pss_cons (ps_set (i := 5) scDraw.nd rfl (Or.inl rfl) (pe_ix ix_list (pv 4) (pe_op op_modN (pv 3) (pe_callB call_len_seq (by rfl) ml PySem.boot_len (pa_cons (pv 4) pa_nil))) (fun _ _ => rfl)))
 (pss_cons (ps_if (PW.pt (pw_and (pt_cmpR op_ge (pv 5) (pe_op op_pow pe_int pe_int) (nomark _)) (pw_and1 (pt_cmpR op_lt (pv 3) (pe_callB call_len_seq (by rfl) ml PySem.boot_len (pa_cons (pv 4) pa_nil)) (nomark _)))))
 (pss_cons (ps_dput hu (pv 0) pe_str (pe_op op_fdivW (pe_op op_sub (pv 5) (pe_op op_pow pe_int pe_int)) (pv 1)) rfl)
 (pss_one (ps_ret (pe_op op_modN (pe_op op_sub (pv 5) (pe_op op_pow pe_int pe_int)) (pv 1))))) pss_nil)
 (pss_cons (ps_set (i := 6) scDraw.nd rfl (Or.inl rfl) (pe_lst (pa_cons pe_int (pa_cons pe_int (pa_cons pe_int (pa_cons pe_int (pa_cons pe_int (pa_cons pe_int (pa_cons pe_int pa_nil)))))))))
 (pss_cons (ps_set (i := 7) scDraw.nd rfl (Or.inl rfl) (pe_ix ix_list (pv 6) (pe_op op_modN (pv 3) pe_int) (fun _ _ => rfl)))
 (pss_cons (ps_set (i := 8) scDraw.nd rfl (Or.inl rfl) (pe_op op_modN (pe_op op_add (pe_op op_add (pe_op op_add (pe_op op_mulW (pe_op op_modN (pv 5) (pv 7)) pe_int) (pe_op op_mulW (pe_op op_mulW pe_int (pv 3)) (pv 3))) (pe_op op_mulW pe_int (pv 3))) pe_int) (pv 7)))
 (pss_cons (ps_set (i := 8) scDraw.nd rfl (Or.inl rfl) (pe_op op_modN (pe_op op_mulW (pv 8) (pe_op op_add (pv 8) pe_int)) (pe_ix ix_list (pv 6) (pe_op op_modN (pe_op op_add (pv 3) pe_int) pe_int) (fun _ _ => rfl))))
 (pss_cons (ps_set (i := 2) scDraw.nd rfl (Or.inl rfl) (pe_op op_fdivW (pe_op op_modN (pe_op op_mulW (pv 8) (pv 8)) (pv 7)) pe_int))
 (pss_cons (ps_if (pt_cmpR op_gt (pv 1) (pe_op op_pow pe_int pe_int) (nomark _))
 (pss_one (ps_set (i := 2) scDraw.nd rfl (Or.inl rfl) (pe_op op_add (pe_op op_modN (pv 2) (pe_op op_pow pe_int pe_int)) (pe_op op_mul (pe_op op_pow pe_int pe_int) (pe_call G hr (by rfl) gD F.kp b .nil pass0 (pa_cons (pv 0) (pa_cons (pe_op op_add (pe_op op_fdivW (pv 1) (pe_op op_pow pe_int pe_int)) pe_int) pa_nil))))))) pss_nil)
 (pss_one (ps_ret (pe_op op_modN (pv 2) (pv 1)))))))))))))))), ?_⟩
  obtain ⟨ns, s0, l, ht, h0, hB1, hlen⟩ := hT
  have hdv : ∀ i : Int, CDivW i m := fun i => wide_div (b := 19 * (n + 1)) (by omega) hm2 (by omega) (by omega)
  have hm0 : m ≠ 0 := by omega
  have hmp : 0 < m := by omega
  have hBn : B + ((n + 1 : Nat) : Int) = B + n + 1 := by omega
  rw [hBn] at q
  -- the number kept
  refine ⟨_, rfl, T, _, rfl, ht.gL, _, _, rfl, rfl, _, rfl, ite2 (fun c => ?_) (fun c => ?_)⟩
  · refine ⟨_, rfl, T, _, rfl, ht.gL, _, rfl, _, _, rfl, rfl, hm0, ?_⟩
    refine ⟨_, rfl, T, _, rfl, ht.gL, _, rfl, _, _, rfl, rfl, hdv _, _, rfl, T, _, rfl, ht.pL, _, rfl, ?_⟩
    exact q _ _ (fm hmp).1 (fm hmp).2 ⟨ns, s0, l / m, ht.put, h0, by omega, hlen⟩ keep_put
  -- a cell
  refine ⟨_, rfl, T, _, rfl, ht.gS, ?_⟩
  refine ⟨_, rfl, _, _, rfl, rfl, _, rfl, T, _, rfl, ht.pS, ?_⟩
  have t1 : TapeAt (upd H T (.dK (tkv L (s0 + 1) l))) T L ns (s0 + 1) l := ht.put
  refine or_cells rfl t1 hlen _ (fun C cs H2 hC hc1 hc2 sm => ?_)
  have t2 := t1.same sm
  have k2 : Keep T H H2 := Keep.trans keep_put (Keep.of sm)
  have hcl : ((cs.map V.int).length : Int) ≠ 0 := by
    rw [List.length_map]
    omega
  obtain ⟨cell, hcell⟩ := at_mod hc1 s0
  refine ⟨_, rfl, _, rfl, _, rfl, C, _, rfl, .inl hC, _, _, rfl, rfl, hcl, C, _, _, _, rfl, rfl, hC, hcell, ?_⟩
  have cp : CPow 10 18 := ⟨by decide, by decide, by decide⟩
  have cp6 : CPow 10 6 := ⟨by decide, by decide, by decide⟩
  apply cutR
  case k =>
    intro rest
    refine ⟨_, rfl, _, _, rfl, rfl, cp, _, _, rfl, rfl, _, rfl, ite2 (fun _ => ⟨_, rfl, _, rfl, C, _, rfl, .inl hC, _, _, rfl, rfl, _, rfl, ite2 (fun _ => ?ka) (fun _ => ?kb)⟩) (fun _ => ?kc)⟩
    case kb => exact rest
    case kc => exact iteF rest
    case ka =>
      refine ⟨_, rfl, _, _, rfl, rfl, cp, _, _, rfl, rfl, _, rfl, _, _, rfl, rfl, hdv _, _, rfl, T, _, rfl, t2.pL, ?_⟩
      refine ⟨_, rfl, _, _, rfl, rfl, cp, _, _, rfl, rfl, _, rfl, _, _, rfl, rfl, hm0, ?_⟩
      exact q _ _ (fm hmp).1 (fm hmp).2 ⟨ns, s0 + 1, _, t2.put, by omega, by omega, hlen⟩ (k2.trans keep_put)
  refine ⟨(by show 7 ≤ sizeLine; decide), fun p np => ?_⟩
  have sp := same_new np (.lst sevenP)
  have t3 := t2.same sp
  have k3 := k2.trans (Keep.of sp)
  have hp : SqL K (upd H2 p (.lst sevenP)) p sevenP := SqL.of upd_same
  obtain ⟨pr, e1, b1, b2⟩ := prime_at (fm (i := s0) (show (0 : Int) < 7 by decide)).1 (fm (show (0 : Int) < 7 by decide)).2
  obtain ⟨p2, e2, b3, b4⟩ := prime_at (fm (i := s0 + 3) (show (0 : Int) < 7 by decide)).1 (fm (show (0 : Int) < 7 by decide)).2
  have h7 : (7 : Int) ≠ 0 := by decide
  have pr0 : pr ≠ 0 := by omega
  have p20 : p2 ≠ 0 := by omega
  have prp : 0 < pr := by omega
  have p2p : 0 < p2 := by omega
  -- prime
  refine ⟨_, rfl, _, rfl, _, _, rfl, rfl, h7, p, _, _, _, rfl, rfl, hp, e1, ?_⟩
  -- seed
  have hs := hB1
  refine ⟨_, rfl, _, rfl, _, _, rfl, rfl, pr0, _, _, rfl, rfl, mul64 (fm prp).1 (by have := (fm (i := cell) prp).2; omega) (by decide) (by decide), _, rfl, _, _, rfl, rfl, mul64 (by decide) (by decide) h0 (by omega), _, rfl, _, _, rfl, rfl,
    mul64 (by omega) (by omega) h0 (by omega), _, _, rfl, rfl, _, rfl, _, _, rfl, rfl, mul64 (by decide) (by decide) h0 (by omega), _, _, rfl, rfl, _, _, rfl, rfl, _, rfl, _, _, rfl, rfl, pr0, ?_⟩
  have z1 := fm (i := cell.fmod pr * 48271 + 7919 * s0 * s0 + 69621 * s0 + 1) prp
  refine ⟨_, rfl, _, rfl, _, _, rfl, rfl, _, _, rfl, rfl, mul64 z1.1 (by omega) (by omega) (by omega), _, rfl, _, rfl, _, _, rfl, rfl, _, _, rfl, rfl, h7, p, _, _, _, rfl, rfl, hp, e2, _, _, rfl, rfl, p20, ?_⟩
  have z2 := fm (i := (cell.fmod pr * 48271 + 7919 * s0 * s0 + 69621 * s0 + 1).fmod pr * ((cell.fmod pr * 48271 + 7919 * s0 * s0 + 69621 * s0 + 1).fmod pr + 16807)) p2p
  refine ⟨_, rfl, _, rfl, _, _, rfl, rfl, mul64 z2.1 (by omega) z2.1 (by omega), _, rfl, _, _, rfl, rfl, pr0, _, _, rfl, rfl, wide_div (b := 7) (by decide) (by decide) (by decide) (by decide), ?_⟩
  have e6 : (10 : Int) ^ (6 : Int).toNat = 1000000 := by decide
  have n6 : (10 : Int) ^ (6 : Int).toNat ≠ 0 := by decide
  have d6 : ∀ i : Int, CDivW i ((10 : Int) ^ (6 : Int).toNat) := fun i => wide_div (b := 20) (by decide) (by decide) (by decide) (by decide)
  refine ⟨_, rfl, _, _, rfl, rfl, cp6, _, _, rfl, rfl, _, rfl, ite2 (fun c => ?_) (fun c => ?_)⟩
  · have c' : 1000000 < m := by
      have c2 := of_decide_eq_true c
      rw [e6] at c2
      exact c2
    obtain ⟨l1, l2⟩ := less_draw c' hm2
    rw [← e6] at l1 l2
    refine ⟨_, rfl, _, _, rfl, rfl, cp6, _, _, rfl, rfl, n6, _, _, rfl, rfl, cp6, _, rfl, _, rfl, _, _, rfl, rfl, cp6, _, _, rfl, rfl, d6 _, _, _, rfl, rfl, ?_⟩
    refine ⟨T, L, _, B + 1, rfl, l1, l2, by omega, ⟨ns, s0 + 1, l, t3, by omega, by omega, hlen⟩, fun H3 r r0 r1 t4 k4 => ?_⟩
    refine ⟨_, _, rfl, rfl, .inl ⟨by decide, by decide⟩, _, _, rfl, rfl, ?_⟩
    refine ⟨_, rfl, _, rfl, _, _, rfl, rfl, hm0, ?_⟩
    exact q _ _ (fm hmp).1 (fm hmp).2 (t4.more (by omega)) (k3.trans k4)
  · refine ⟨_, rfl, _, rfl, _, _, rfl, rfl, hm0, ?_⟩
    exact q _ _ (fm hmp).1 (fm hmp).2 ⟨ns, s0 + 1, l, t3, by omega, by omega, hlen⟩ k3
theorem no_draw : FnOk P w K mg base CX0 0 f fd ["_law_tape_here", "_law_many"] (spDraw 0) := by
  have no : ∀ vs H Q E, ¬ spDraw 0 vs H Q E := fun vs H Q E h => by
    obtain ⟨T, L, m, B, _, h1, h2, _⟩ := h
    have h3 : m.natAbs < 1 := h2
    omega
  exact ⟨fun vs H Q E h => absurd h (no vs H Q E), fun A outer s H args us vs Q E _ _ _ _ h => absurd h (no vs H Q E)⟩
theorem all_draw (F : FnP K "_law_draw" sDraw f fd) (b : Binds K fd ["_law_tape_here", "_law_many"] []) (gD : mg "_law_draw" = some (.ref f)) (ml : mg "len" = none) :
    ∀ n : Nat, n ≤ 20 → FnOk P w K mg base CX0 n f fd ["_law_tape_here", "_law_many"] (spDraw n)
  | 0, _ => no_draw
  | n + 1, h => ok_draw (by omega) F (all_draw F b gD ml n (by omega)) b gD ml
end
theorem scWords : FnScope ["_law_tape_here", "_law_many", "_law_letters", "_law_own", "_law_k", "_law_base", "_law_found", "_law_letter", "_law_some", "_law_word", "_law_more"] ["_law_tape_here", "_law_many"] (defScope sWords) := ⟨rfl, rfl, rfl, by decide +kernel, rfl, by decide +kernel, by decide +kernel⟩
def own8 : List Str := Txt.split ("nota andy org isa yesno given noa same" : Str) (" " : Str)
theorem own8_len : own8.length = 8 := by decide +kernel
theorem own8_ok : ∀ z ∈ own8, 1 ≤ z.length ∧ z.length ≤ 8 ∧ ∀ c ∈ z.cps.toList, c ∈ lets := by decide +kernel
theorem join_toL : ∀ ys : List Str, (Str.join ("" : Str) ys).cps.toList = ys.flatMap fun z => z.cps.toList
  | [] => rfl
  | [x] => by
    show x.cps.toList = x.cps.toList ++ []
    rw [List.append_nil]
  | x :: y :: r => by
    have e : Str.join ("" : Str) (x :: y :: r) = x ++ ("" : Str) ++ Str.join ("" : Str) (y :: r) := rfl
    rw [e, toL_app, toL_app, join_toL (y :: r), List.flatMap_cons]
    show (_ ++ []) ++ _ = _
    rw [List.append_nil, List.flatMap_cons, List.flatMap_cons]
theorem sum_le : ∀ ys : List Str, (∀ z ∈ ys, z.length ≤ 1) → (ys.map (fun x => x.length)).sum ≤ ys.length
  | [], _ => Nat.le_refl _
  | x :: r, h => by
    have i := sum_le r (fun z hz => h z (List.mem_cons_of_mem _ hz))
    have g := h x List.mem_cons_self
    rw [List.map_cons, List.sum_cons, List.length_cons]
    omega
theorem join_shp {cs : List Nat} (h : ∀ c ∈ cs, c ∈ lets) : (Str.join ("" : Str) (cs.map fun c => (⟨#[c]⟩ : Str))).cps.toList = cs := by
  rw [join_toL]
  induction cs with
  | nil => rfl
  | cons c r ih =>
    rw [List.map_cons, List.flatMap_cons, ih (fun d hd => h d (List.mem_cons_of_mem _ hd))]
    rfl
theorem cut7 (z : Str) : (cutS z none (some 7)).length ≤ 7 := by
  rw [len_toL, cut_toL7, List.length_take]
  omega
theorem abc_at {r : Int} (h0 : 0 ≤ r) (h1 : r < 26) : ∃ c, c ∈ lets ∧ atI abc.cps.toList r = some c := at_in (xs := lets) h0 (by rw [lets_len]; exact h1)
theorem small {n : Nat} (h : n ≤ 1000) : n ≤ sizeLine := Nat.le_of_lt (small1000 h)
theorem cut_shp {z : Str} (h1 : 1 ≤ z.length) (h : Low z) : Shp (cutS z none (some 8)) := ⟨by rw [len_toL, cut_toL8, List.length_take]; rw [len_toL] at h1; omega, by rw [len_toL, cut_toL8, List.length_take]; omega, low_cut (k := 8) h⟩
theorem nd_snoc {ws : List Str} {x : Str} (h : ws.Nodup) (n : x ∉ ws) : (ws ++ [x]).Nodup := by
  rw [List.nodup_append]
  exact ⟨h, List.nodup_cons.mpr ⟨(by intro h; cases h), List.nodup_nil⟩, fun a ha b hb e => n (by rw [← List.mem_singleton.mp hb, ← e]; exact ha)⟩
theorem fold_next {ws : List Str} {x : Str} {j c : Nat} (e : lets[j]? = some c) : (lets.take (j + 1)).foldl (stepW ws) x = stepW ws ((lets.take j).foldl (stepW ws) x) c := by
  rw [List.take_add_one, e, List.foldl_append]
  rfl
def spWords (K : PySem.W.Frag) : Sp := fun vs H Q _ => ∃ (T L : Addr) (n : Nat) (B : Int), vs = [.ref T, .int n] ∧ n ≤ 12 ∧ B + 2000 ≤ 1000000 ∧ Tape H T L B ∧
  ∀ (H' : Hp) (p : Addr) (ws : List Str), ws.length = n → ws.Nodup → (∀ z ∈ ws, wordB z = true) → H' p = some (.lst (ws.map V.str)) → H p = none → Tape H' T L (B + 1000) → Keep T H H' → Q (.ref p) H'
section
variable {P : Program} {w : World} {K : PySem.W.Frag} {mg : Str → Option Value} {base : Heap} {f fD : Addr} {fd fdD : FuncData}
theorem ok_words {k : Nat} (hk : 11 ≤ k) (F : FnP K "_law_words" sWords f fd) (G : FnOk P w K mg base CX0 11 fD fdD ["_law_tape_here", "_law_many"] (spDraw 11)) (b : Binds K fdD ["_law_tape_here", "_law_many"] []) (gD : mg "_law_draw" = some (.ref fD)) (kD : PySem.W.keepIn K (.ref fD) = true) (mr : mg "range" = none) :
    FnOk P w K mg base CX0 (k + 1) f fd ["_law_tape_here", "_law_many"] (spWords K) := by
  refine F.ok scWords (fun vs H Q E h => ?_) (fun cdv A outer s H vs Q E hr0 h => ?_)
  · obtain ⟨T, L, n, B, rfl, _⟩ := h
    rfl
  obtain ⟨T, L, n, B, rfl, hn, hB, hT, q⟩ := h
  have hu := hu_of hr0
  have hr : Room 11 _ := hr0.mono hk
  refine ⟨_, PSs.nox (pss_cons (ps_set (i := 2) scWords.nd rfl (Or.inr rfl) pe_str)
 (pss_cons (ps_set (i := 3) scWords.nd rfl (Or.inl rfl) (pe_split pe_str pe_str))
 (pss_cons (ps_set (i := 5) scWords.nd rfl (Or.inl rfl) (pe_join pe_str (pe_lc (own := [("_law_k", 4)]) (g := gName 4) (tt := tYes) (by rfl) scWords.nd (pi_range1 (by rfl) mr (pa_cons (pe_op op_add pe_int (pe_call G hr (by rfl) gD kD b .nil pass0 (pa_cons (pv 0) (pa_cons pe_int pa_nil)))) pa_nil)) (blkOk_by (own := [("_law_k", 4)]) (N := ["_law_tape_here", "_law_many", "_law_letters", "_law_own", "_law_k", "_law_base", "_law_found", "_law_letter", "_law_some", "_law_word", "_law_more"]) (sc := defScope sWords) (by decide +kernel)) (fun _ _ _ _ _ => pg_name (i := 4) scWords.nd rfl (Or.inl rfl)) (fun _ _ _ _ _ => pts_nil) (fun _ _ _ _ _ => (pe_ix ix_str (pv 2) (pe_call G hr (by rfl) gD kD b .nil pass0 (pa_cons (pv 0) (pa_cons pe_int pa_nil))) (fun _ _ => rfl))))))
 (pss_cons (ps_set (i := 6) scWords.nd rfl (Or.inl rfl) (pe_lst pa_nil))
 (pss_cons (ps_for PassesOwn.never rfl (pi_range1 (by rfl) mr (pa_cons (pv 1) pa_nil)) (pg_name (i := 4) scWords.nd rfl (Or.inl rfl))
 (pss_cons (ps_set (i := 7) scWords.nd rfl (Or.inl rfl) (pe_ix ix_str (pv 2) (pe_call G hr (by rfl) gD kD b .nil pass0 (pa_cons (pv 0) (pa_cons pe_int pa_nil))) (fun _ _ => rfl)))
 (pss_cons (ps_set (i := 8) scWords.nd rfl (Or.inl rfl) (pe_lst (pa_cons (pv 5) (pa_cons (pe_op op_add_str (pv 5) (pv 7)) (pa_cons (pe_op op_add_str (pv 7) (pv 5)) (pa_cons (pv 7) (pa_cons (pe_op op_add_str (pe_op op_add_str (pv 5) (pv 7)) (pv 7)) (pa_cons (pe_ix ix_list (pv 3) (pe_call G hr (by rfl) gD kD b .nil pass0 (pa_cons (pv 0) (pa_cons pe_int pa_nil))) (fun _ _ => rfl)) pa_nil))))))))
 (pss_cons (ps_set (i := 9) scWords.nd rfl (Or.inl rfl) (pe_slice sl_str (pe_ix ix_list (pv 8) (pe_call G hr (by rfl) gD kD b .nil pass0 (pa_cons (pv 0) (pa_cons pe_int pa_nil))) (fun _ _ => rfl)) po_none (po_some pe_int)))
 (pss_cons (ps_for PassesOwn.never rfl (pi_str (pv 2)) (pg_name (i := 10) scWords.nd rfl (Or.inl rfl))
 (pss_one (ps_if (PW.pt (pw_or (pt_cmpR op_in_seq (pv 9) (pv 6) rfl) (pw_or1 (pt_cmpR op_in_seq (pv 9) (pe_tup (pa_cons pe_str (pa_cons pe_str (pa_cons pe_str (pa_cons pe_str (pa_cons pe_str (pa_cons pe_str (pa_cons pe_str pa_nil)))))))) rfl))))
 (pss_one (ps_set (i := 9) scWords.nd rfl (Or.inl rfl) (pe_op op_add_str (pe_slice sl_str (pv 9) po_none (po_some pe_int)) (pv 10)))) pss_nil)))
 (pss_one (ps_expr (pe_bm PySem.F.plainAttrs_list PySem.F.slot_list_append PySem.F.type_list_append mt_append (pv 6) (pa_cons (pv 9) pa_nil)))))))))
 (pss_one (ps_ret (pv 6)))))))), ?_⟩
  have habc : abc.length ≤ sizeLine := by decide +kernel
  refine ⟨⟨_, rfl⟩, _, _, rfl, rfl, (by decide +kernel), (by decide +kernel), fun pO nO => ?_⟩
  have sO : Same H (upd H pO (.lst (own8.map V.str))) := same_new nO _
  have tO := hT.same sO
  have oT : pO ≠ T := hT.nT nO
  have oL : pO ≠ L := hT.nL nO
  -- base
  refine ⟨⟨_, rfl⟩, _, rfl, T, L, 6, B, rfl, by decide, by decide, by omega, tO, fun H1 r r0 r1 t1 k1 => ?_⟩
  have e1 : H1 pO = some (.lst (own8.map V.str)) := k1 _ _ upd_same oT
  refine ⟨_, _, rfl, rfl, _, rfl, by omega, by omega, fun D nD => lc_range (lo := 0) (n := (1 + r).toNat) (fun i H' => ∃ cs : List Nat, H' D = some (.lst ((cs.map fun c => (⟨#[c]⟩ : Str)).map V.str)) ∧ cs.length = i ∧ (∀ c ∈ cs, c ∈ lets) ∧
    Tape H' T L (B + 11 + 11 * i) ∧ Keep T H H' ∧ H' pO = some (.lst (own8.map V.str))) ?_ ?_ ?_⟩
  · refine ⟨[], upd_same, rfl, (fun z hz => by cases hz), (t1.same (same_new nD _)).more (by omega), ((Keep.of sO).trans k1).trans (Keep.of (same_new nD _)), same_new nD _ _ _ e1⟩
  · rintro i H2 hi ⟨cs, eD, hl, hz, tp, kp, eO⟩
    have dT : D ≠ T := t1.nT nD
    have dL : D ≠ L := t1.nL nD
    refine ⟨rfl, ?_⟩
    refine ⟨_, rfl, _, rfl, T, L, 26, _, rfl, by decide, by decide, by omega, tp, fun H3 r3 a0 a1 t3 k3 => ?_⟩
    obtain ⟨c, cin, hc⟩ := abc_at a0 a1
    have dO : pO ≠ D := ne_of_none e1 nD
    refine ⟨_, _, c, rfl, rfl, habc, hc, _, k3 _ _ eD dT, (by rw [List.length_map, List.length_map]; exact small1000 (by omega)), cs ++ [c], ?_, ?_, ?_, (t3.put dT dL).more (by omega), ?_, ?_⟩
    · rw [upd_same, List.map_append, List.map_append]
      rfl
    · rw [List.length_append, hl]
      rfl
    · intro z hz'
      rcases List.mem_append.mp hz' with h | h
      · exact hz z h
      · rw [List.mem_singleton.mp h]
        exact cin
    · intro b o h n
      have hb : b ≠ D := fun z => by
        have y : H1 b = some o := k1 _ _ (sO _ _ h) n
        rw [z, nD] at y
        cases y
      rw [upd_ne hb]
      exact k3 _ _ (kp _ _ h n) n
    · rw [upd_ne dO]
      exact k3 _ _ eO oT
  rintro H2 ⟨cs, eD, hl, hz, t2, k2, e2⟩
  have hcs : cs.length ≤ 7 ∧ 1 ≤ cs.length := by omega
  have h1s : ∀ z ∈ (cs.map fun c => (⟨#[c]⟩ : Str)), z.length ≤ 1 := fun z hz' => by
    obtain ⟨c, _, rfl⟩ := List.mem_map.mp hz'
    exact Nat.le_refl _
  refine ⟨_, D, (cs.map fun c => (⟨#[c]⟩ : Str)), rfl, rfl, .inl (SqL.of eD), ?_, ?_⟩
  · have z0 : (("" : Str)).length = 0 := by decide
    have y := sum_le _ h1s
    rw [List.length_map] at y
    rw [z0]
    simp only [List.length_map]
    omega
  have hb0 : (Txt.join ("" : Str) (cs.map fun c => (⟨#[c]⟩ : Str))).cps.toList = cs := by
    rw [TL.join_eq]
    exact join_shp hz
  generalize Txt.join ("" : Str) (cs.map fun c => (⟨#[c]⟩ : Str)) = bse at hb0
  have hbl : bse.length ≤ 7 := by rw [len_toL, hb0]; omega
  have hb1 : 1 ≤ bse.length := by rw [len_toL, hb0]; omega
  have hbL : Low bse := fun c hc => hz c (by rw [← hb0]; exact hc)
  -- found = []
  refine ⟨Nat.zero_le _, fun pF nF => ?_⟩
  have fT : pF ≠ T := t2.nT nF
  have fL : pF ≠ L := t2.nL nF
  have fO : pO ≠ pF := ne_of_none e2 nF
  have nF0 : H pF = none := k2.free nF fT
  have s2 := same_new nF (.lst [])
  have hn2 : ((n : Nat) : Int).toNat = n := Int.toNat_natCast n
  refine ⟨_, rfl, _, rfl, by omega, by omega, for_range (lo := 0) (n := ((n : Nat) : Int).toNat) (fun i σ H' => ∃ (kk l sm wd mo : Option V) (ws : List Str),
    σ = [some (.ref T), some (.int n), some (.str abc), some (.ref pO), kk, some (.str bse), some (.ref pF), l, sm, wd, mo] ∧ ws.length = i ∧ ws.Nodup ∧ (∀ z ∈ ws, wordB z = true) ∧
    H' pF = some (.lst (ws.map V.str)) ∧ H' pO = some (.lst (own8.map V.str)) ∧ Tape H' T L (B + 100 + 33 * i) ∧ Keep T H H') ?_ ?_ ?_⟩
  · exact ⟨_, _, _, _, _, [], rfl, rfl, List.nodup_nil, (fun z hz => by cases hz), upd_same, s2 _ _ e2, (t2.same s2).more (by omega), k2.trans (Keep.of s2)⟩
  · rintro i σ H3 hi ⟨kk, l, sm, wd, mo, ws, rfl, hl, hnd, hw, eF, eO, tp, kp⟩
    have hin : i < n := by rw [hn2] at hi; exact hi
    have hwn : ws.length ≤ 11 := by omega
    -- letter
    refine ⟨_, rfl, _, rfl, T, L, 26, _, rfl, by decide, by decide, by omega, tp, fun H4 r4 a0 a1 t4 k4 => ?_⟩
    obtain ⟨c, cin, hc⟩ := abc_at a0 a1
    refine ⟨_, _, c, rfl, rfl, habc, hc, ?_⟩
    have lc1 := low_one cin
    have l1 : (⟨#[c]⟩ : Str).length = 1 := rfl
    have z1 : bse.length + (⟨#[c]⟩ : Str).length ≤ sizeLine := small (by omega)
    have z2 : (⟨#[c]⟩ : Str).length + bse.length ≤ sizeLine := small (by omega)
    have z3 : (bse ++ (⟨#[c]⟩ : Str)).length + (⟨#[c]⟩ : Str).length ≤ sizeLine := by
      rw [strLen_append]
      exact small (by omega)
    refine ⟨_, rfl, _, rfl, _, rfl, _, _, rfl, rfl, z1, _, rfl, _, rfl, _, _, rfl, rfl, z2, _, rfl, _, rfl, _, rfl, _, _, rfl, rfl, z1, _, rfl, _, _, rfl, rfl, z3, ?_⟩
    refine ⟨_, rfl, _, rfl, T, L, 8, _, rfl, by decide, by decide, by omega, t4, fun H5 r5 a2 a3 t5 k5 => ?_⟩
    have eO5 := k5 _ _ (k4 _ _ eO oT) oT
    have eF5 := k5 _ _ (k4 _ _ eF fT) fT
    obtain ⟨vo, ho1, ho2⟩ := at_in (xs := own8.map V.str) a2 (by rw [List.length_map, own8_len]; exact a3)
    obtain ⟨o1, ho3, rfl⟩ := List.mem_map.mp ho1
    refine ⟨pO, _, _, _, rfl, rfl, SqL.of eO5, ho2, (by show 6 ≤ sizeLine; decide), fun pS nS => ?_⟩
    have s5 := same_new nS (.lst [.str bse, .str (bse ++ (⟨#[c]⟩ : Str)), .str ((⟨#[c]⟩ : Str) ++ bse), .str ⟨#[c]⟩, .str (bse ++ (⟨#[c]⟩ : Str) ++ (⟨#[c]⟩ : Str)), .str o1])
    -- word
    refine ⟨_, rfl, _, rfl, T, L, 6, _, rfl, by decide, by decide, by omega, t5.same s5, fun H6 r6 a4 a5 t6 k6 => ?_⟩
    have sT : pS ≠ T := t5.nT nS
    have eS6 := k6 _ _ upd_same sT
    have eO6 := k6 _ _ (s5 _ _ eO5) oT
    have eF6 := k6 _ _ (s5 _ _ eF5) fT
    have k06 : Keep T H H6 := (((kp.trans k4).trans k5).trans (Keep.of s5)).trans k6
    have six : ∃ z : Str, atI ([.str bse, .str (bse ++ (⟨#[c]⟩ : Str)), .str ((⟨#[c]⟩ : Str) ++ bse), .str ⟨#[c]⟩, .str (bse ++ (⟨#[c]⟩ : Str) ++ (⟨#[c]⟩ : Str)), .str o1] : List V) r6 = some (.str z) ∧ z.length ≤ 16 ∧ 1 ≤ z.length ∧ Low z := by
      obtain ⟨g1, g2, g3⟩ := own8_ok o1 ho3
      have c6 : r6 = 0 ∨ r6 = 1 ∨ r6 = 2 ∨ r6 = 3 ∨ r6 = 4 ∨ r6 = 5 := by omega
      rcases c6 with rfl | rfl | rfl | rfl | rfl | rfl
      · exact ⟨_, rfl, by omega, hb1, hbL⟩
      · exact ⟨_, rfl, by rw [strLen_append]; omega, by rw [strLen_append]; omega, low_app hbL lc1⟩
      · exact ⟨_, rfl, by rw [strLen_append]; omega, by rw [strLen_append]; omega, low_app lc1 hbL⟩
      · exact ⟨_, rfl, by omega, by omega, lc1⟩
      · exact ⟨_, rfl, by rw [strLen_append, strLen_append]; omega, by rw [strLen_append, strLen_append]; omega, low_app (low_app hbL lc1) lc1⟩
      · exact ⟨_, rfl, by omega, g1, g3⟩
    obtain ⟨z, hz1, hz2, hz3, hz4⟩ := six
    refine ⟨pS, _, _, _, rfl, rfl, SqL.of eS6, hz1, 8, rfl, z, rfl, small (by omega), ?_⟩
    have zl := cut_shp hz3 hz4
    generalize cutS z none (some 8) = wd0 at zl
    -- for more in letters
    refine ⟨_, rfl, _, rfl, for_it walk_str (fun j σ H' => ∃ (wd : Str) (mo : Option V), σ = [some (.ref T), some (.int n), some (.str abc), some (.ref pO), some (.int (0 + i)), some (.str bse), some (.ref pF), some (.str ⟨#[c]⟩), some (.ref pS), some (.str wd), mo] ∧ wd = (lets.take j).foldl (stepW ws) wd0 ∧ Same H6 H') ?_ (fun _ _ _ _ _ => trivial) ?_ ?_⟩
    · exact ⟨wd0, mo, rfl, rfl, Same.refl _⟩
    · rintro j x σ H7 H8 hj ⟨wd1, mo1, rfl, wl0, sm7⟩ ⟨rfl, c2, hc2, rfl⟩
      have ec2 : lets[j]? = some c2 := by rw [← Array.getElem?_toList] at hc2; exact hc2
      have wn := fold_next (ws := ws) (x := wd0) ec2
      have wl : wd1.length ≤ 8 := by
        rw [wl0]
        exact (fold_shp (lets.take j) zl fun d hd => List.mem_of_mem_take hd).hi
      rw [← wl0] at wn
      have eF7 := sm7 _ _ eF6
      refine ⟨_, rfl, _, rfl, pF, _, rfl, .inl (SqL.of eF7), rfl, flat_strs ws, _, rfl, ?_⟩
      have y1 : (cutS wd1 none (some 7)).length + (⟨#[c2]⟩ : Str).length ≤ 8 := by
        have := cut7 wd1
        have e : (⟨#[c2]⟩ : Str).length = 1 := rfl
        omega
      have ei : (if false = true then !inV (V.str wd1) (List.map V.str ws) else inV (V.str wd1) (List.map V.str ws)) = decide (wd1 ∈ ws) := inv_strs wd1 ws
      rw [ei]
      refine ite2 (fun cw => ?_) (fun cw => ?_)
      · refine iteT ?_
        have wt : stepW ws wd1 c2 = cutS wd1 none (some 7) ++ ⟨#[c2]⟩ := if_pos (.inl (of_decide_eq_true cw))
        refine ⟨_, rfl, 7, rfl, _, rfl, small (by omega), _, rfl, _, _, rfl, rfl, small (by omega), _, _, rfl, (wn.trans wt).symm, sm7⟩
      · refine ⟨_, rfl, (by show 7 ≤ sizeLine; decide), fun pT nT => ⟨pT, barred.map V.str, rfl, .inr (SqT.of upd_same), rfl, flat_strs barred, _, rfl, ?_⟩⟩
        rw [inv_strs]
        have s8 := same_new nT (.tup [.str "not", .str "and", .str "or", .str "gives", .str "is", .str "yes", .str "no"])
        refine ite2 (fun cb => ?_) (fun cb => ?_)
        · have wt : stepW ws wd1 c2 = cutS wd1 none (some 7) ++ ⟨#[c2]⟩ := if_pos (.inr (of_decide_eq_true cb))
          refine ⟨_, rfl, 7, rfl, _, rfl, small (by omega), _, rfl, _, _, rfl, rfl, small (by omega), _, _, rfl, (wn.trans wt).symm, sm7.trans s8⟩
        · have wt : stepW ws wd1 c2 = wd1 := if_neg (fun h => h.elim (fun h => by rw [decide_eq_true h] at cw; exact cw rfl) fun h => by rw [decide_eq_true h] at cb; exact cb rfl)
          exact ⟨wd1, _, rfl, (wn.trans wt).symm, sm7.trans s8⟩
    · rintro σ H7 ⟨wd1, mo1, rfl, wl0, sm7⟩
      have el : abc.cps.size = lets.length := Array.length_toList.symm
      rw [el, List.take_length] at wl0
      obtain ⟨wg, wnew⟩ := last_word hwn zl
      rw [← wl0] at wg wnew
      have eF7 := sm7 _ _ eF6
      refine ⟨_, rfl, .inl ⟨rfl, _, SqL.of eF7⟩, _, rfl, pF, _, _, rfl, rfl, eF7, (by rw [List.length_map]; exact small1000 (by omega)), ?_⟩
      refine ⟨_, _, _, _, _, ws ++ [wd1], rfl, (by rw [List.length_append, hl]; rfl), nd_snoc hnd wnew, ?_, ?_, ?_, ?_, ?_⟩
      · intro y hy
        rcases List.mem_append.mp hy with h | h
        · exact hw y h
        · rw [List.mem_singleton.mp h]
          exact wg
      · rw [upd_same, List.map_append]
        rfl
      · rw [upd_ne fO]
        exact sm7 _ _ eO6
      · exact ((t6.same sm7).put fT fL).more (by omega)
      · intro b o h m
        rw [upd_ne (ne_of_none h nF0)]
        exact sm7 _ _ (k06 _ _ h m)
  · rintro σ H3 ⟨kk, l, sm, wd, mo, ws, rfl, hl, hnd, hw, eF, eO, tp, kp⟩
    refine ⟨_, rfl, q H3 pF ws (by omega) hnd hw eF nF0 (tp.more (by omega)) kp⟩
end
end My

set_option maxRecDepth 100000
set_option maxHeartbeats 4000000
namespace My
open PySem PySem.Spec PyProof.Rows L2 Dl
/-! ### clauses: sorted by name, no name twice -/
abbrev nl1 (l : Lit) : List Nat := l.1.cps.toList
def Ris (c : Cl) : Prop := c.Pairwise fun a b => nl1 a < nl1 b
theorem lt_tri {a b : List Nat} (h1 : ¬ a < b) (h2 : ¬ b < a) : a = b := List.le_antisymm (List.not_lt.mp h2) (List.not_lt.mp h1)
theorem le_lit {a b : Lit} (ne : a.1 ≠ b.1) (h : PySem.W.dataLe false litD a b = true) : nl1 a < nl1 b := by
  have h1 : (!PySem.W.dataLt (litD b) (litD a)) = true := h
  have h2 : PySem.W.dataLt (litD b) (litD a) = decide (nl1 b < nl1 a) := by
    show PySem.W.dataLt (.tuple [.str b.1, .bool b.2]) (.tuple [.str a.1, .bool a.2]) = _
    rw [PySem.W.dataLt_pair (by simp [PySem.W.alike]) (by simp [PySem.W.alike]), PySem.W.dataLt_str]
    have : PyData.eqv (.str b.1) (.str a.1) = false := by
      simp [PyData.eqv]
      exact fun e => ne e.symm
    rw [this]
    rfl
  rw [h2] at h1
  have h3 : ¬ nl1 b < nl1 a := by simpa using h1
  refine Decidable.by_contra fun h4 => ne ?_
  exact str_ext (lt_tri h4 h3)
theorem srt_perm (ls : List Lit) : (srtL ls).Perm ls := List.mergeSort_perm _ _
theorem mem_srt {ls : List Lit} {l : Lit} : l ∈ srtL ls ↔ l ∈ ls := (srt_perm ls).mem_iff
theorem srt_ris {ls : List Lit} (nd : (ls.map Prod.fst).Nodup) : Ris (srtL ls) := by
  have T : PySem.W.TotalLe (PySem.W.dataLe false litD) := PySem.W.sortLe_total _ _ _
  have h1 : (srtL ls).Pairwise fun a b => PySem.W.dataLe false litD a b = true := List.pairwise_mergeSort (fun a b c => T.trans a b c) (fun a b => (by rw [Bool.or_eq_true]; exact T.total a b)) ls
  have h2 : ((srtL ls).map Prod.fst).Nodup := ((srt_perm ls).map Prod.fst).nodup_iff.mpr nd
  have h3 : (srtL ls).Pairwise fun a b => a.1 ≠ b.1 := List.pairwise_map.mp h2
  exact (h3.and h1).imp fun ⟨n, h⟩ => le_lit n h
theorem ris_nodup {c : Cl} (h : Ris c) : c.Nodup := h.imp fun {a b} h e => by
  rw [e] at h
  exact List.lt_irrefl _ h
theorem ris_names {c : Cl} (h : Ris c) : (c.map Prod.fst).Nodup := List.pairwise_map.mpr (h.imp fun {a b} h e => by
  unfold nl1 at h
  rw [e] at h
  exact List.lt_irrefl _ h)
theorem ris_uniq {c e : Cl} (h1 : Ris c) (h2 : Ris e) (h : ∀ l, l ∈ c ↔ l ∈ e) : c = e := by
  have p : c.Perm e := (List.perm_ext_iff_of_nodup (ris_nodup h1) (ris_nodup h2)).mpr h
  exact List.Perm.eq_of_pairwise (le := fun a b => nl1 a < nl1 b) (fun a b _ _ x y => absurd (List.lt_trans x y) (List.lt_irrefl _)) h1 h2 p
theorem srt_self {c : Cl} (h : Ris c) : srtL c = c := ris_uniq (srt_ris (ris_names h)) h fun _ => mem_srt
theorem ris_one {c : Cl} (h : Ris c) {n : Str} {b b' : Bool} (h1 : (n, b) ∈ c) (h2 : (n, b') ∈ c) : b = b' := by
  have nd := ris_names h
  have key : ∀ {l : Cl}, (l.map Prod.fst).Nodup → (n, b) ∈ l → (n, b') ∈ l → b = b' := by
    intro l
    induction l with
    | nil => intro _ h; cases h
    | cons x r ih =>
      intro nd h1 h2
      obtain ⟨nx, nr⟩ := List.nodup_cons.mp nd
      rcases List.mem_cons.mp h1 with e1 | m1
      · rcases List.mem_cons.mp h2 with e2 | m2
        · rw [← e2] at e1
          exact (Prod.mk.inj e1).2
        · exact absurd (List.mem_map.mpr ⟨_, m2, by rw [← e1]⟩) nx
      · rcases List.mem_cons.mp h2 with e2 | m2
        · exact absurd (List.mem_map.mpr ⟨_, m1, by rw [← e2]⟩) nx
        · exact ih nr m1 m2
  exact key nd h1 h2
theorem lookup_mem {acc : List Lit} {n : Str} {b : Bool} (h : acc.lookup n = some b) : (n, b) ∈ acc := by
  induction acc with
  | nil => cases h
  | cons x r ih =>
    obtain ⟨m, c⟩ := x
    rw [List.lookup_cons] at h
    by_cases e : n = m
    · subst e
      have : (n == n) = true := by simp
      rw [this] at h
      cases h
      exact List.mem_cons_self
    · have : (n == m) = false := by simp [e]
      rw [this] at h
      exact List.mem_cons_of_mem _ (ih h)
theorem lookup_no {acc : List Lit} {n : Str} (h : acc.lookup n = none) : n ∉ acc.map Prod.fst := by
  induction acc with
  | nil => intro h; cases h
  | cons x r ih =>
    obtain ⟨m, c⟩ := x
    rw [List.lookup_cons] at h
    by_cases e : n = m
    · subst e
      have : (n == n) = true := by simp
      rw [this] at h
      cases h
    · have : (n == m) = false := by simp [e]
      rw [this] at h
      intro h2
      rcases List.mem_cons.mp (show n ∈ m :: r.map Prod.fst from h2) with h3 | h3
      · exact e h3
      · exact ih h h3
theorem gather_ok {c : Cl} (hc : Ris c) : ∀ (ls acc : List Lit), (acc.map Prod.fst).Nodup → (∀ l ∈ acc, l ∈ c) → (∀ l ∈ ls, l ∈ c) → ∃ a, gather acc ls = some a ∧ (a.map Prod.fst).Nodup ∧ ∀ l, l ∈ a ↔ (l ∈ acc ∨ l ∈ ls)
  | [], acc, nd, _, _ => ⟨acc, rfl, nd, fun l => ⟨.inl, fun h => h.elim id fun h => by cases h⟩⟩
  | (n, b) :: r, acc, nd, ha, hl => by
    unfold gather
    cases e : acc.lookup n with
    | some b' =>
      have m1 := lookup_mem e
      have eb : b' = b := ris_one hc (ha _ m1) (hl _ List.mem_cons_self)
      subst eb
      obtain ⟨a, h1, h2, h3⟩ := gather_ok hc r acc nd ha fun l h => hl l (List.mem_cons_of_mem _ h)
      refine ⟨a, ?_, h2, fun l => ?_⟩
      · show (if b' = b' then gather acc r else none) = _
        rw [if_pos rfl]
        exact h1
      · rw [h3]
        refine ⟨fun h => h.imp id (List.mem_cons_of_mem _), fun h => h.elim .inl fun h => ?_⟩
        rcases List.mem_cons.mp h with h | h
        · rw [h]; exact .inl m1
        · exact .inr h
    | none =>
      have nn := lookup_no e
      obtain ⟨a, h1, h2, h3⟩ := gather_ok hc r (acc ++ [(n, b)]) (by
        rw [List.map_append, List.nodup_append]
        exact ⟨nd, List.nodup_cons.mpr ⟨(by intro h; cases h), List.nodup_nil⟩, fun x hx y hy e => nn (by rw [← List.mem_singleton.mp (show y ∈ [n] from hy), ← e]; exact hx)⟩)
        (fun l h => (List.mem_append.mp h).elim (ha l) fun h => by rw [List.mem_singleton.mp h]; exact hl _ List.mem_cons_self) fun l h => hl l (List.mem_cons_of_mem _ h)
      refine ⟨a, h1, h2, fun l => ?_⟩
      rw [h3, List.mem_append, List.mem_singleton, List.mem_cons]
      constructor
      · rintro ((h | h) | h)
        · exact .inl h
        · exact .inr (.inl h)
        · exact .inr (.inr h)
      · rintro (h | h | h)
        · exact .inl (.inl h)
        · exact .inl (.inr h)
        · exact .inr h
theorem clauseOf_eq {ls : List Lit} {c : Cl} (hc : Ris c) (h : ∀ l, l ∈ ls ↔ l ∈ c) : clauseOf ls = some c := by
  obtain ⟨a, h1, h2, h3⟩ := gather_ok hc ls [] List.nodup_nil (fun l h => by cases h) fun l hl => (h l).mp hl
  unfold clauseOf
  rw [h1]
  refine congrArg some (ris_uniq (srt_ris h2) hc fun l => ?_)
  rw [mem_srt, h3, ← h]
  exact ⟨fun z => z.elim (fun z => by cases z) id, .inr⟩
theorem ris_rises {c : Cl} (h : Ris c) : risesD (c.map litD) = true := by
  induction c with
  | nil => rfl
  | cons x r ih =>
    cases r with
    | nil => rfl
    | cons y r =>
      have h1 := List.pairwise_cons.mp h
      show (decide (nl1 x < nl1 y) && risesD ((y :: r).map litD)) = true
      rw [decide_eq_true (h1.1 y List.mem_cons_self), Bool.true_and]
      exact ih h1.2
structure GoodC (c : Cl) : Prop where
  ris : Ris c
  nm : ∀ l ∈ c, nameB l.1 = true
theorem good_clause {c : Cl} (g : GoodC c) : clauseB (clD c) = true := by
  show ((c.map litD).all litB && risesD (c.map litD)) = true
  rw [ris_rises g.ris, Bool.and_true, List.all_map]
  refine List.all_eq_true.mpr fun l hl => ?_
  show (nameD (.str l.1) && isBool (.bool l.2)) = true
  rw [show nameD (.str l.1) = nameB l.1 from rfl, g.nm l hl]
  rfl
/-- a clause met of two that were made of it -/
theorem meet_grow {c A B : Cl} {n : Str} (hc : Ris c) (hn : n ∉ c.map Prod.fst) (hA : ∀ l ∈ A, l ∈ c) (hB : ∀ l ∈ B, l ∈ c) (hAB : ∀ l ∈ c, l ∈ A ∨ l ∈ B) : meet (srtL (A ++ [(n, true)])) (srtL (B ++ [(n, false)])) n = some c := by
  unfold meet
  rw [if_pos ⟨mem_srt.mpr (List.mem_append.mpr (.inr (List.mem_singleton.mpr rfl))), mem_srt.mpr (List.mem_append.mpr (.inr (List.mem_singleton.mpr rfl)))⟩]
  have nn : ∀ l ∈ c, ¬ l.1 = n := fun l hl e => hn (List.mem_map.mpr ⟨l, hl, e⟩)
  refine clauseOf_eq hc fun l => ?_
  rw [List.mem_filter, List.mem_append, mem_srt, mem_srt, List.mem_append, List.mem_append, List.mem_singleton, List.mem_singleton]
  constructor
  · rintro ⟨(h | h) | (h | h), q⟩
    · exact hA l h
    · rw [h] at q; simp at q
    · exact hB l h
    · rw [h] at q; simp at q
  · intro h
    exact ⟨(hAB l h).imp .inl .inl, by simp [nn l h]⟩
/-- part of a clause and a literal more -/
theorem grow_good {c A : Cl} {n : Str} {b : Bool} (g : GoodC c) (hn : n ∉ c.map Prod.fst) (nb : nameB n = true) (hA : A.Sublist c) : GoodC (srtL (A ++ [(n, b)])) := by
  refine ⟨srt_ris ?_, fun l h => ?_⟩
  · rw [List.map_append, List.nodup_append]
    refine ⟨(hA.map Prod.fst).nodup (ris_names g.ris), List.nodup_cons.mpr ⟨(by intro h; cases h), List.nodup_nil⟩, fun x hx y hy e => hn ?_⟩
    rw [← List.mem_singleton.mp (show y ∈ [n] from hy), ← e]
    exact (hA.map Prod.fst).subset hx
  · rcases List.mem_append.mp (mem_srt.mp h) with h | h
    · exact g.nm l (hA.subset h)
    · rw [List.mem_singleton.mp h]
      exact nb
/-! ### steps -/
inductive Stp where
  | giv (c : Cl)
  | met (i j : Nat) (n : Str)
deriving DecidableEq
def Stp.d : Stp → PD
  | .giv c => .tuple [.str "given", clD c]
  | .met i j n => .tuple [.str "met", .int (i : Int), .int (j : Int), .str n]
def stepC (s : Stp) (cls : List Cl) : Option Cl := match s with
  | .giv c => if clauseB (clD c) = true then some c else none
  | .met i j n => match cls[i]?, cls[j]? with
    | some a, some b => meet a b n
    | _, _ => none
theorem clOf_clD (c : Cl) : clOf (clD c) = c := by
  show (c.map litD).map litOf = c
  rw [List.map_map]
  conv => rhs; rw [← List.map_id c]
  exact List.map_congr_left fun _ _ => rfl
theorem stepO_d (s : Stp) (cls : List Cl) : stepO s.d cls = stepC s cls := by
  cases s with
  | giv c =>
    show (if (PyData.eqv (.str "given") (.str "given") && clauseB (clD c)) = true then some (clOf (clD c)) else none) = if clauseB (clD c) = true then some c else none
    have e : PyData.eqv (.str "given") (.str "given") = true := by simp [PyData.eqv]
    rw [e, Bool.true_and, clOf_clD]
  | met i j n =>
    show (if (PyData.eqv (.str "met") (.str "met") && (belowD (.int (i : Int)) cls.length && belowD (.int (j : Int)) cls.length)) = true then meet (cls.getD (i : Int).toNat []) (cls.getD (j : Int).toNat []) n else none) = match cls[i]?, cls[j]? with
      | some a, some b => meet a b n
      | _, _ => none
    have e : PyData.eqv (.str "met") (.str "met") = true := by simp [PyData.eqv]
    have hb : ∀ k : Nat, belowD (.int (k : Int)) cls.length = decide (k < cls.length) := fun k => by
      show (decide ((0 : Int) ≤ (k : Int)) && decide ((k : Int) < (cls.length : Int))) = _
      rw [decide_eq_true (Int.natCast_nonneg k), Bool.true_and]
      exact decide_eq_decide.mpr (by omega)
    rw [e, Bool.true_and, hb, hb, Int.toNat_natCast, Int.toNat_natCast]
    by_cases h1 : i < cls.length
    · by_cases h2 : j < cls.length
      · rw [decide_eq_true h1, decide_eq_true h2, if_pos (show (true && true) = true from rfl), List.getElem?_eq_getElem h1, List.getElem?_eq_getElem h2]
        simp [List.getD_eq_getElem?_getD, h1, h2]
      · rw [decide_eq_true h1, decide_eq_false h2, if_neg (by decide), List.getElem?_eq_getElem h1, List.getElem?_eq_none (by omega : cls.length ≤ j)]
    · rw [decide_eq_false h1, if_neg (by simp), List.getElem?_eq_none (by omega : cls.length ≤ i)]
def ssD (ss : List Stp) : List PD := ss.map Stp.d
/-- the steps ss have the clauses cs -/
def Runs (ss : List Stp) (cs : List Cl) : Prop := runO (ssD ss) = some cs
theorem runs_nil : Runs [] [] := rfl
theorem runs_snoc {ss : List Stp} {cs : List Cl} {s : Stp} {c : Cl} (h : Runs ss cs) (e : stepC s cs = some c) : Runs (ss ++ [s]) (cs ++ [c]) := by
  unfold Runs ssD at *
  rw [List.map_append, runO_app, h]
  show (runF cs s.d).bind _ = _
  unfold runF
  rw [stepO_d, e]
  rfl
theorem runs_len {ss : List Stp} {cs : List Cl} (h : Runs ss cs) : cs.length = ss.length := by
  have := runO_len h
  unfold ssD at this
  rw [List.length_map] at this
  exact this
theorem runs_pre {ss : List Stp} {cs : List Cl} (h : Runs ss cs) : ∀ k, Runs (ss.take k) (cs.take k) := by
  have key : ∀ (n : Nat) (ss : List Stp) (cs : List Cl), ss.length = n → Runs ss cs → ∀ k, Runs (ss.take k) (cs.take k) := by
    intro n
    induction n with
    | zero =>
      intro ss cs hn h k
      have := runs_len h
      rw [List.length_eq_zero_iff.mp hn, List.length_eq_zero_iff.mp (show cs.length = 0 by omega)]
      simp [runs_nil]
    | succ n ih =>
      intro ss cs hn h k
      have hl := runs_len h
      by_cases hk : k ≤ n
      · have hne : ss ≠ [] := fun e => by rw [e] at hn; cases hn
        have es : ss = ss.take n ++ [ss.getLast hne] := by
          have := List.dropLast_concat_getLast hne
          rw [List.dropLast_eq_take, hn] at this
          exact this.symm
        have h2 : (runO (ssD (ss.take n))).bind (fun cls => runF cls (ss.getLast hne).d) = some cs := by
          have h3 := h
          unfold Runs ssD at h3
          rw [es, List.map_append, runO_app] at h3
          rw [← h3]
          congr 1
          funext cls
          show _ = (runF cls _).bind _
          cases runF cls (ss.getLast hne).d <;> rfl
        cases e : runO (ssD (ss.take n)) with
        | none => rw [e] at h2; cases h2
        | some cs0 =>
          rw [e] at h2
          have h4 : runF cs0 (ss.getLast hne).d = some cs := h2
          unfold runF at h4
          cases e5 : stepO (ss.getLast hne).d cs0 with
          | none => rw [e5] at h4; cases h4
          | some c =>
            rw [e5] at h4
            have h6 : cs0 ++ [c] = cs := Option.some.inj h4
            have l0 : cs0.length = n := by
              have := runs_len (ss := ss.take n) (cs := cs0) e
              rw [List.length_take] at this
              omega
            have := ih (ss.take n) cs0 (by rw [List.length_take]; omega) e k
            rw [List.take_take, Nat.min_eq_left hk] at this
            rw [← h6, List.take_append_of_le_length (by omega)]
            exact this
      · rw [List.take_of_length_le (by omega), List.take_of_length_le (by omega)]
        exact h
  exact key _ ss cs rfl h
theorem nl_stp (s : Stp) : nl s.d = true := by
  cases s with
  | giv c =>
    show (true && (nlA (c.map litD) && true)) = true
    rw [nlA_map (fun _ => rfl)]
    rfl
  | met i j n => rfl
theorem nl_clD (c : Cl) : nl (clD c) = true := nlA_map (fun _ => rfl)
theorem plain_stp (s : Stp) : s.d.plain = true := by
  cases s with
  | giv c =>
    show PyData.plain (.tuple [.str "given", clD c]) = true
    simp [PyData.plain, PyData.plainAll, plain_cl]
  | met i j n => simp [Stp.d, PyData.plain, PyData.plainAll]
theorem depth_stp (s : Stp) : s.d.depth ≤ 3 := by
  cases s with
  | giv c =>
    have := depth_cl c
    show PyData.depth (.tuple [.str "given", clD c]) ≤ 3
    simp only [PyData.depth, PyData.depthAll]
    omega
  | met i j n => simp [Stp.d, PyData.depth, PyData.depthAll]
theorem plain_ss (ss : List Stp) : PyData.plainAll (ssD ss) = true := by
  unfold ssD
  induction ss with
  | nil => simp [PyData.plainAll]
  | cons s r ih => simp [PyData.plainAll, plain_stp, ih]
theorem depth_ss (ss : List Stp) : PyData.depthAll (ssD ss) ≤ 3 := by
  unfold ssD
  induction ss with
  | nil => simp [PyData.depthAll]
  | cons s r ih =>
    have := depth_stp s
    simp only [List.map_cons, PyData.depthAll]
    omega
mutual
theorem eqv_refl : ∀ d : PD, d.plain = true → PyData.eqv d d = true
  | .none, _ => by simp [PyData.eqv]
  | .bool _, _ => by simp [PyData.eqv]
  | .int _, _ => by simp [PyData.eqv]
  | .str _, _ => by simp [PyData.eqv]
  | .list xs, h => by simp [PyData.eqv, eqvA_refl xs (by simpa [PyData.plain] using h)]
  | .tuple xs, h => by simp [PyData.eqv, eqvA_refl xs (by simpa [PyData.plain] using h)]
  | .dict _, h => by simp [PyData.plain] at h
theorem eqvA_refl : ∀ xs : List PD, PyData.plainAll xs = true → PyData.eqvAll xs xs = true
  | [], _ => by simp [PyData.eqvAll]
  | x :: xs, h => by
    have h' : x.plain = true ∧ PyData.plainAll xs = true := by simpa [PyData.plainAll] using h
    simp [PyData.eqvAll, eqv_refl x h'.1, eqvA_refl xs h'.2]
end
theorem eqv_cl (a b : Cl) (h : PyData.eqv (clD a) (clD b) = true) : a = b := by
  have h' : PyData.eqvAll (a.map litD) (b.map litD) = true := by simpa [clD, PyData.eqv] using h
  clear h
  induction a generalizing b with
  | nil =>
    cases b with
    | nil => rfl
    | cons y r => simp [PyData.eqvAll] at h'
  | cons x a ih =>
    cases b with
    | nil => simp [PyData.eqvAll] at h'
    | cons y b =>
      obtain ⟨h1, h2⟩ := Bool.and_eq_true_iff.mp (show (PyData.eqv (litD x) (litD y) && PyData.eqvAll (a.map litD) (b.map litD)) = true by simpa [PyData.eqvAll] using h')
      have e : x = y := of_decide_eq_true ((eqv_lit x y.1 y.2).symm.trans h1)
      rw [e, ih b h2]
end My

set_option maxRecDepth 100000
set_option maxHeartbeats 4000000
namespace My
open PySem PySem.Spec PyProof.Rows L2 Dl
section
variable {T L : Addr} {n m k : Nat} {K : PySem.W.Frag} {σ : L2.St} {H H' : Hp} {ta tb te tx : TE} {tt tu : TT} {x y z v : V} {d e f : PD} {ds es fs : List PD} {b c : Bool} {a : Addr} {φ ψ χ : PD → Prop} {Φ Ψ : List PD → Prop} {B : Int}
theorem td_is (h : TD T L n K te σ H φ) (i : ∀ d, φ d → d = e) : TD T L n K te σ H (fun x => x = e) := h.imp i
theorem ta_one (h : TD T L n K te σ H φ) : TA T L n K (tCons te tNil) σ H (fun ds => ∃ d, ds = [d] ∧ φ d) := fun B H1 g t hB Q q =>
  h B H1 g t hB _ fun v d H2 k2 t2 hd pd => q _ _ H2 k2 t2 (.cons hd .nil) ⟨d, rfl, pd⟩
theorem paired_len {α β : Type} {F : α → β → Prop} {xs : List α} {ys : List β} (h : Paired F xs ys) : xs.length = ys.length := by
  induction h with
  | nil => rfl
  | cons _ _ ih => rw [List.length_cons, List.length_cons, ih]
theorem paired_mem {α β : Type} {F : α → β → Prop} {xs : List α} {ys : List β} (h : Paired F xs ys) {y : β} (hy : y ∈ ys) : ∃ x ∈ xs, F x y := by
  induction h with
  | nil => cases hy
  | cons h1 _ ih =>
    rcases List.mem_cons.mp hy with e | hy
    · rw [e]
      exact ⟨_, List.mem_cons_self, h1⟩
    · obtain ⟨x, hx, hf⟩ := ih hy
      exact ⟨x, List.mem_cons_of_mem _ hx, hf⟩
/-- [e for x in xs], e draws -/
theorem tl_map {α : Type} {xs : List α} {enc : α → PD} {i : Nat} {vs : List Nat} {wi : TI} (hs : Src (Kd T) K wi σ H (xs.map enc)) (hn : xs.length ≤ 50000) (hw : ∀ w : V, wipe ((wipe σ vs).set i (some w)) vs = wipe σ vs) (F : α → PD → Prop)
    (hb : ∀ x ∈ xs, ∀ w H', Kd T H H' → Dp K H' w (enc x) → TD T L n K te ((wipe σ vs).set i (some w)) H' (F x)) (hf : ∀ x d, F x d → nl d = true) :
    TL T L (n * xs.length) K (tLc wi (gName i) tYes te vs) σ H (fun ds => Paired F xs ds) := fun B H1 g t hB Q q => hs H1 g _ fun J H2 G s2 hG W D hD => by
  have hl : (xs.map enc).length = xs.length := List.length_map ..
  have t2 := t.same s2
  have nDT : D ≠ T := t2.nT hD
  have nDL : D ≠ L := t2.nL hD
  refine lc_it W (fun j H' => ∃ ds, Paired F (xs.take j) ds ∧ Kd T H2 H' ∧ Tape H' T L (B + ((n * j : Nat) : Int)) ∧ Lt K H' D ds) ⟨[], .nil, kd_same (same_newD hD _), (t2.same (same_newD hD _)).more (by omega), [], upd_same, .nil⟩ (fun j H' _ ⟨_, _, k, _⟩ => hG (Kd T) H' k) ?_ ?_
  · rintro j w H3 H4 hj ⟨ds, hp, hk, ht, hL⟩ ⟨s34, hY⟩
    obtain ⟨d, ed, hd⟩ := hY (Kd T) hk
    rw [List.getElem?_map] at ed
    cases ex : xs[j]? with
    | none => rw [ex] at ed; cases ed
    | some x =>
      rw [ex] at ed
      cases ed
      have hj' : j < xs.length := (List.getElem?_eq_some_iff.mp ex).1
      have hmul : n * (j + 1) = n * j + n := Nat.mul_succ n j
      have hle : n * (j + 1) ≤ n * xs.length := Nat.mul_le_mul_left n hj'
      have h4 : Kd T H2 H4 := Edg.trans hk (kd_same s34)
      refine ⟨hw w, ?_⟩
      dsimp only [tYes]
      rw [if_pos rfl]
      refine hb x (List.mem_of_getElem? ex) w H4 (Edg.trans g (Edg.trans (kd_same s2) h4)) hd (B + ((n * j : Nat) : Int)) H4 (Edg.refl _) (ht.same s34) (by omega) _ fun v e H5 k5 t5 he pe => ?_
      have hL5 := ltk k5 (ltk (kd_same (T := T) s34) hL)
      obtain ⟨acc, eD, ha⟩ := hL5
      have hlen := paired_len hp
      have hal := dpa_len ha
      have nls : nlA ds = true := nlA_iff.mpr fun d' hd' => by
        obtain ⟨x', _, hf'⟩ := paired_mem hp hd'
        exact hf x' d' hf'
      refine ⟨acc, eD, szs (by rw [List.length_take] at hlen; omega), ds ++ [e], ?_, edg_mut (Edg.trans h4 k5) hD, ((t5.put nDT nDL)).more (by omega), _, upd_same, ?_⟩
      · rw [List.take_add_one, ex]
        exact hp.snoc pe
      · have tk : Tk H5 (upd H5 D (.lst (acc ++ [v]))) := Tk.putL eD
        exact dpa_app (dpa_tk tk _ _ nls ha) (.cons (dp_tk tk _ _ (hf x e pe) he) .nil)
  · rintro H' ⟨ds, hp, hk, ht, hL⟩
    rw [hl, List.take_length] at hp
    rw [hl] at ht
    exact q D ds H' (s2.free hD) (Edg.trans (kd_same s2) hk) ht hL hp
/-! loops that draw -/
variable {D : Ends} {tu' tw : TS} {H0 : Hp}
/-- xs.pop(i), xs one's own, data without lists -/
def rPopD : V → List V → Hp → VK → Prop := fun x vs H Q => ∃ l xs i k y, x = .ref l ∧ vs = [.int i] ∧ H l = some (.lst xs) ∧ -(2 ^ 63) ≤ i ∧ i < 2 ^ 63 ∧ seqIndex? i xs.length = some k ∧ xs[k]? = some y ∧ Q y (upd H l (.lst (xs.eraseIdx k)))
theorem dpa_erase {H : Hp} {vs : List V} {ds : List PD} {i : Nat} (h : DpAll K H vs ds) : DpAll K H (vs.eraseIdx i) (ds.eraseIdx i) := by
  induction ds generalizing vs i with
  | nil => cases h; exact .nil
  | cons x ds ih =>
    cases h with
    | cons h1 h3 =>
      cases i with
      | zero => exact h3
      | succ i => exact .cons h1 (ih h3)
variable {i : Nat}
theorem sidx {i : Int} {n : Nat} (h0 : 0 ≤ i) (h1 : i < (n : Int)) : seqIndex? i n = some i.toNat := by
  unfold seqIndex?
  simp
  omega
theorem ne_T {T L l : Addr} {B : Int} {H : Hp} {ds : List PD} (t : Tape H T L B) (hl : Lt K H l ds) : l ≠ T := fun z => by
  obtain ⟨ns, s, l', a, _⟩ := t
  obtain ⟨vs, e, _⟩ := hl
  rw [z, a.d] at e
  cases e
/-- what one list's change leaves -/
theorem lt_other {l p : Addr} {H1 : Hp} {o : HO} {ds es : List PD} (hl : Lt K H1 l es) (hp : Lt K H1 p ds) (n : p ≠ l) (hn : nlA ds = true) : Lt K (upd H1 l o) p ds := by
  obtain ⟨vs, e, _⟩ := hl
  obtain ⟨ws, e2, h2⟩ := hp
  exact ⟨ws, by rw [upd_ne n]; exact e2, dpa_tk (Tk.putL e) _ _ hn h2⟩
/-- xs.append(e), e draws; xs one's own -/
theorem t_app {l : Addr} (t : Tape H T L B) (hl : Lt K H l ds) (nL : l ≠ L) (ha : σ[i]? = some (some (.ref l))) (h : TD T L n K te σ H φ) (hB : B + n ≤ 1000000) (hz : ds.length < 100000) (n1 : nlA ds = true) (n2 : ∀ d, φ d → nl d = true)
    (k : ∀ d H1 o, Kd T H H1 → φ d → Lt K H1 l ds → Tape (upd H1 l o) T L (B + n) → Lt K (upd H1 l o) l (ds ++ [d]) → Tk H1 (upd H1 l o) → D.nx σ (upd H1 l o)) : tDrop (tBM K "list" rAppend (tVar i) (tCons te tNil)) D σ H := by
  have nT := ne_T t hl
  obtain ⟨vs, e, hv⟩ := id hl
  refine ⟨_, ha, .inl ⟨rfl, _, SqL.of e⟩, ?_⟩
  refine h B H (Edg.refl H) t hB _ fun v d H1 k1 t1 h1 p1 => ⟨l, vs, v, rfl, rfl, Edg.k k1 e (fun _ z => nomatch z), szs (by rw [dpa_len hv]; exact hz), ?_⟩
  have e1 : H1 l = some (.lst vs) := Edg.k k1 e (fun _ z => nomatch z)
  have tk : Tk H1 (upd H1 l (.lst (vs ++ [v]))) := Tk.putL e1
  exact k d H1 _ k1 p1 (ltk k1 hl) (t1.put nT nL) ⟨_, upd_same, dpa_app (dpa_tk tk _ _ n1 (dpak k1 hv)) (.cons (dp_tk tk _ _ (n2 d p1) h1) .nil)⟩ tk
/-- y = xs.pop(e), e draws; xs one's own -/
theorem t_pop {l : Addr} {j : Nat} (t : Tape H T L B) (hl : Lt K H l ds) (nL : l ≠ L) (ha : σ[i]? = some (some (.ref l))) (h : TD T L n K te σ H φ) (hB : B + n ≤ 1000000) (hz : ds.length ≤ 100000) (n1 : nlA ds = true) (n2 : ∀ d, φ d → ∃ r : Int, d = .int r ∧ 0 ≤ r ∧ r < (ds.length : Int))
    (k : ∀ m d v H1 o, Kd T H H1 → Lt K H1 l ds → ds[m]? = some d → Dp K (upd H1 l o) v d → Tape (upd H1 l o) T L (B + n) → Lt K (upd H1 l o) l (ds.eraseIdx m) → Tk H1 (upd H1 l o) → D.nx (σ.set j (some v)) (upd H1 l o)) : tAsg (tBM K "list" rPopAt (tVar i) (tCons te tNil)) (gName j) D σ H := by
  have nT := ne_T t hl
  obtain ⟨vs, e, hv⟩ := id hl
  refine ⟨_, ha, .inl ⟨rfl, _, SqL.of e⟩, ?_⟩
  refine h B H (Edg.refl H) t hB _ fun w d H1 k1 t1 h1 p1 => ?_
  obtain ⟨r, rfl, r0, r1⟩ := n2 d p1
  cases h1
  have e1 : H1 l = some (.lst vs) := Edg.k k1 e (fun _ z => nomatch z)
  have hv1 := dpak k1 hv
  have hlen := dpa_len hv
  have hm : r.toNat < ds.length := by omega
  obtain ⟨y, ey, hy⟩ := dpa_get hv1 (List.getElem?_eq_getElem hm)
  have tk : Tk H1 (upd H1 l (.lst (vs.eraseIdx r.toNat))) := Tk.putL e1
  have ny : nl ds[r.toNat] = true := nlA_iff.mp n1 _ (List.getElem_mem hm)
  have ne : nlA (ds.eraseIdx r.toNat) = true := nlA_iff.mpr fun d hd => nlA_iff.mp n1 d (List.mem_of_mem_eraseIdx hd)
  exact ⟨l, vs, r, r.toNat, y, rfl, rfl, e1, by omega, by omega, sidx r0 (by rw [hlen]; exact r1), ey, k r.toNat _ y H1 _ k1 (ltk k1 hl) (List.getElem?_eq_getElem hm) (dp_tk tk _ _ ny hy) (t1.put nT nL) ⟨_, upd_same, dpa_tk tk _ _ ne (dpa_erase hv1)⟩ tk⟩
end
end My

set_option maxRecDepth 100000
set_option maxHeartbeats 4000000
namespace My
open PySem PySem.Spec PyProof.Rows L2 Dl
abbrev sFr : Stmt := top 35
abbrev sLC : Stmt := top 33
theorem scFr : FnScope ["_law_tape_here", "_law_many", "_law_words_here", "_law_word"] ["_law_tape_here", "_law_many"] (defScope sFr) := ⟨rfl, rfl, rfl, by decide +kernel, rfl, by decide +kernel, by decide +kernel⟩
theorem scLC : FnScope ["_law_tape_here", "_law_names", "_law_few", "_law_left", "_law_found", "_law_k", "_law_name"] ["_law_tape_here", "_law_names", "_law_few"] (defScope sLC) := ⟨rfl, rfl, rfl, by decide +kernel, rfl, by decide +kernel, by decide +kernel⟩
structure Dr (P : Program) (w : World) (K : PySem.W.Frag) (mg : Str → Option Value) (base : Heap) (fD fW : Addr) (dD dW : FuncData) : Prop where
  GD : FnOk P w K mg base CX0 11 fD dD ["_law_tape_here", "_law_many"] (spDraw 11)
  gD : mg "_law_draw" = some (.ref fD)
  kD : PySem.W.keepIn K (.ref fD) = true
  bD : Binds K dD ["_law_tape_here", "_law_many"] []
  GW : FnOk P w K mg base CX0 12 fW dW ["_law_tape_here", "_law_many"] (spWords K)
  gW : mg "_law_words" = some (.ref fW)
  kW : PySem.W.keepIn K (.ref fW) = true
  bW : Binds K dW ["_law_tape_here", "_law_many"] []
  mlist : mg "list" = none
  mtuple : mg "tuple" = none
  mrange : mg "range" = none
  mlen : mg "len" = none
  msorted : mg "sorted" = none
def six : List Str := ["", "", "0", "1", "10", "9"]
theorem six_ok : ∀ f ∈ six, f.length ≤ 2 ∧ ∀ c ∈ f.cps.toList, c ∈ figs.cps.toList := by decide +kernel
theorem cut8_self {z : Str} (h : z.length ≤ 8) : cutS z none (some 8) = z := str_ext (by rw [cut_toL8, List.take_of_length_le (by rw [← len_toL]; exact h)])
/-- the names told: each a word, with figures behind or without -/
structure Nms (zs : List Str) : Prop where
  nd : zs.Nodup
  nm : ∀ z ∈ zs, nameB z = true
  le : ∀ z ∈ zs, z.length ≤ 10
theorem names_of_words : ∀ {ws : List Str} {ds : List PD}, Paired (fun (x : Str) (d : PD) => ∃ f ∈ six, d = .str (x ++ f)) ws ds → (∀ z ∈ ws, wordB z = true) → ∃ zs : List Str, ds = zs.map .str ∧ zs.length = ws.length ∧ (zs.map fun z => Txt.rstripChars z figs) = ws ∧ ∀ z ∈ zs, nameB z = true ∧ z.length ≤ 10
  | _, _, .nil, _ => ⟨[], rfl, rfl, rfl, fun _ h => by cases h⟩
  | x :: r, _, .cons ⟨f, hf, e⟩ t, hw => by
    obtain ⟨zs, rfl, h1, h2, h3⟩ := names_of_words t fun z hz => hw z (List.mem_cons_of_mem _ hz)
    have wx := hw x List.mem_cons_self
    have sx := (shp_word wx).1
    obtain ⟨f1, f2⟩ := six_ok f hf
    have hr := rstrip_word sx f2
    have hl : (x ++ f).length ≤ 10 := by
      have := sx.hi
      rw [strLen_append]
      omega
    refine ⟨(x ++ f) :: zs, by rw [e]; rfl, by rw [List.length_cons, List.length_cons, h1], by rw [List.map_cons, hr, h2], fun z hz => ?_⟩
    rcases List.mem_cons.mp hz with rfl | hz
    · refine ⟨?_, hl⟩
      unfold nameB
      rw [hr, wx, decide_eq_false (by omega)]
      rfl
    · exact h3 z hz
def GFresh (ds : List PD) (φ : List PD → Prop) : Prop := ∃ m : Nat, m ≤ 12 ∧ ds = [.int (m : Int)] ∧ φ = fun es => ∃ zs : List Str, es = zs.map .str ∧ zs.length = m ∧ Nms zs
def GLClause (ds : List PD) (φ : PD → Prop) : Prop := ∃ (ws : List Str) (few : Nat), few ≤ 12 ∧ ws.Nodup ∧ ws.length ≤ 1000 ∧ ds = [.list (ws.map .str), .int (few : Int)] ∧ φ = fun d => ∃ c : Cl, d = clD c ∧ Ris c ∧ (∀ l ∈ c, l.1 ∈ ws) ∧ c.length ≤ few
theorem srtD_lits (fs : List Lit) : srtD (fs.map litD) = (srtL fs).map litD := by
  unfold srtD srtL
  exact (List.map_mergeSort (f := litD) (r := PySem.W.dataLe false litD) (s := PySem.W.dataLe false id) (l := fs) fun _ _ _ _ => rfl).symm
theorem alike_lits (fs : List Lit) : PySem.W.AllAlike (fs.map litD) := PySem.W.AllAlike.of fun b b' => by simp [litD, PySem.W.alike, PySem.W.alikeAll]
theorem sortable_lits (fs : List Lit) : PySem.W.Sortable (fs.map litD) := PySem.W.Sortable.tuples fun b => ⟨_, _, rfl⟩
theorem dep_lits (fs : List Lit) : ∀ d ∈ fs.map litD, d.depth ≤ 60 := fun d hd => by
  obtain ⟨l, _, rfl⟩ := List.mem_map.mp hd
  simp [litD, PyData.depth, PyData.depthAll]
theorem nl_strs (ws : List Str) : nlA (ws.map .str) = true := nlA_map fun _ => rfl
theorem nl_lits (fs : List Lit) : nlA (fs.map litD) = true := nlA_map fun _ => rfl
/-- tuple(sorted(xs)) -/
theorem de_tsort {R : Hp → Hp → Prop} [Edg R] {K : PySem.W.Frag} {σ : L2.St} {H : Hp} {te : TE} {fs : List Lit} (h : DE R K te σ H (.list (fs.map litD))) : DE R K (tCB (fun xs H Q => ∃ p ys, xs = [V.ref p] ∧ ((SqL K H p ys ∧ ∀ l, H l = none → Q (.ref l) (upd H l (.tup ys))) ∨ (SqT K H p ys ∧ Q (.ref p) H))) (tCons (tCB (rSrtD K) (tCons te tNil)) tNil)) σ H (clD (srtL fs)) :=
  de_cb (da_cons (de_le (le_is (le_cb (da_cons h da_nil) (rcl_srtD (alike_lits fs) (sortable_lits fs) (dep_lits fs))) (srtD_lits fs))) da_nil) rc_tupL
section
variable {P : Program} {w : World} {K : PySem.W.Frag} {mg : Str → Option Value} {base : Heap} {f fD fW : Addr} {fd dD dW : FuncData}
theorem ok_fresh (F : FnP K "_law_fresh" sFr f fd) (T0 : Dr P w K mg base fD fW dD dW) : FnOk P w K mg base CX0 13 f fd ["_law_tape_here", "_law_many"] (spTL K 2000 GFresh) := by
  refine F.ok scFr (fun vs H Q E h => ?_) (fun cdv A outer s H vs Q E hr h => ?_)
  · obtain ⟨T, L, B, us, ds, φ, rfl, _, _, hu, ⟨m, _, rfl, _⟩, _⟩ := h
    have := dpa_len hu
    show us.length + 1 = 2
    rw [this]
    rfl
  obtain ⟨T, L, B, us, ds, φ, rfl, t, hB, hus, ⟨m, hm, rfl, rfl⟩, q⟩ := h
  cases hus with
  | cons h1 h2 =>
  cases h1
  cases h2
  have hu := hu_of hr
  have hr12 : Room 12 _ := hr
  have hr11 : Room 11 _ := hr.mono (by omega)
  refine ⟨_, PSs.nox (pss_cons (ps_set (i := 2) scFr.nd rfl (Or.inl rfl) (pe_call T0.GW hr12 (by rfl) T0.gW T0.kW T0.bW .nil pass0 (pa_cons (pv 0) (pa_cons (pv 1) pa_nil))))
 (pss_one (ps_ret (pe_lc (own := [("_law_word", 3)]) (g := gName 3) (tt := tYes) (by rfl) scFr.nd (pi_list (pv 2)) (blkOk_by (own := [("_law_word", 3)]) (N := ["_law_tape_here", "_law_many", "_law_words_here", "_law_word"]) (sc := defScope sFr) (by decide +kernel)) (fun _ _ _ _ _ => pg_name (i := 3) scFr.nd rfl (Or.inl rfl)) (fun _ _ _ _ _ => pts_nil) (fun _ _ _ _ _ => (pe_op op_add_str (pe_slice sl_str (pv 3) po_none (po_some pe_int)) (pe_ix (show IxR _ (rIxL K) from ix_list) (pe_lst (pa_cons pe_str (pa_cons pe_str (pa_cons pe_str (pa_cons pe_str (pa_cons pe_str (pa_cons pe_str pa_nil))))))) (pe_call T0.GD hr11 (by rfl) T0.gD T0.kD T0.bD .nil pass0 (pa_cons (pv 0) (pa_cons pe_int pa_nil))) (fun _ _ => rfl)))))))), ?_⟩
  refine ⟨_, rfl, _, rfl, T, L, m, B, rfl, hm, by omega, t, fun H1 p ws hl hnd hw eW nW t1 k1 => ?_⟩
  have hW : Dp K H1 (.ref p) (.list (ws.map .str)) := dp_strL (SqL.of eW)
  have k01 : Kd T H H1 := kd_of t k1
  refine t_retL t1 (tl_map (n := 11) (xs := ws) (enc := PyData.str) (src_list (de_var (by rfl) hW)) (by omega) (fun _ => by rfl) (fun x d => ∃ f ∈ six, d = .str (x ++ f)) (fun x hx v H' r hv => ?_) (fun x d ⟨f, _, e⟩ => by rw [e]; rfl)) (by have h132 : 11 * ws.length ≤ 132 := (by omega); omega) fun a ds H2 na k2 t2 hL hp => ?_
  · have sx := (shp_word (hw x hx)).1
    refine (td_op (n := 0) (m := 11) (td_pure (de_slS (de_var rfl hv) do_none (do_some de_int) (by have := sx.hi; omega))) (td_op (n := 0) (m := 11) (td_pure (de_le (le_lst (da_cons de_str (da_cons de_str (da_cons de_str (da_cons de_str (da_cons de_str (da_cons de_str da_nil)))))) (by decide)))) (td_draw (j := 6) rfl de_int (by decide) (by decide)) ?_ (χ := fun d => ∃ f ∈ six, d = .str f)) ?_).more (by decide)
    · rintro d e rfl ⟨r, rfl, r0, r1⟩
      have hlen : (six.map PyData.str).length = 6 := rfl
      obtain ⟨y, hy, ey⟩ := at_in (xs := six.map PyData.str) r0 (by rw [hlen]; exact r1)
      obtain ⟨f, hf, rfl⟩ := List.mem_map.mp hy
      exact ⟨.str f, rd_ixL ey, f, hf, rfl⟩
    · rintro d e rfl ⟨f, hf, rfl⟩
      rw [cut8_self sx.hi]
      exact ⟨.str (x ++ f), rd_catS (by have := sx.hi; have := (six_ok f hf).1; omega), f, hf, rfl⟩
  · obtain ⟨zs, rfl, e1, e2, e3⟩ := names_of_words hp hw
    have nd : zs.Nodup := by
      rw [← e2] at hnd
      exact (List.pairwise_map.mp hnd).imp fun n e => n (congrArg _ e)
    exact q a _ H2 (k1.free na (t1.nT na)) (Edg.trans k01 k2) (t2.more (by have h132 : 11 * ws.length ≤ 132 := (by omega); omega)) hL ⟨zs, rfl, by omega, nd, fun z hz => (e3 z hz).1, fun z hz => (e3 z hz).2⟩
theorem plain_lstr (ws : List Str) : PyData.plain (.list (ws.map .str)) = true := by
  simp only [PyData.plain]
  exact plain_strs ws
theorem perm_pop {left : List Str} {names : List Str} {m : Nat} {x : Str} (h : left[m]? = some x) : (names ++ left).Perm ((names ++ [x]) ++ left.eraseIdx m) := by
  have h1 : left.Perm (x :: left.eraseIdx m) := by
    have hm := (List.getElem?_eq_some_iff.mp h).1
    rw [List.eraseIdx_eq_take_drop_succ]
    have e := (List.getElem?_eq_some_iff.mp h).2
    have h0 : left = left.take m ++ left[m] :: left.drop (m + 1) := by simp
    conv => lhs; rw [h0, e]
    exact List.perm_middle
  have h2 : (names ++ left).Perm (names ++ (x :: left.eraseIdx m)) := h1.append_left names
  refine h2.trans ?_
  rw [List.append_assoc]
  exact List.Perm.refl _
theorem ok_lclause (F : FnP K "_law_clause" sLC f fd) (T0 : Dr P w K mg base fD fW dD dW) : FnOk P w K mg base CX0 12 f fd ["_law_tape_here", "_law_names", "_law_few"] (spT K 300 GLClause) := by
  refine F.ok scLC (fun vs H Q E h => ?_) (fun cdv A outer s H vs Q E hr h => ?_)
  · obtain ⟨T, L, B, us, ds, φ, rfl, _, _, hu, ⟨ws, few, _, _, _, rfl, _⟩, _⟩ := h
    have := dpa_len hu
    show us.length + 1 = 3
    rw [this]
    rfl
  obtain ⟨T, L, B, us, ds, φ, rfl, t, hB, hus, ⟨ws, few, hf, hnd, hwl, rfl, rfl⟩, q⟩ := h
  cases hus with
  | @cons vn _ _ _ h1 h2 =>
  cases h2 with
  | cons h2 h3 =>
  cases h2
  cases h3
  have hu := hu_of hr
  have hu64 := hr.units
  refine ⟨_, PSs.nox (pss_cons (ps_set (i := 3) scLC.nd rfl (Or.inl rfl) (pe_callTy call_list_of (by rfl) T0.mlist (by decide +kernel) (pa_cons (pv 1) pa_nil)))
 (pss_cons (ps_set (i := 4) scLC.nd rfl (Or.inl rfl) (pe_lst pa_nil))
 (pss_cons (ps_for PassesOwn.never rfl (pi_range1 (by rfl) T0.mrange (pa_cons (pe_call T0.GD hr (by rfl) T0.gD T0.kD T0.bD .nil pass0 (pa_cons (pv 0) (pa_cons (pe_op op_add (pv 2) pe_int) pa_nil))) pa_nil)) (pg_name (i := 5) scLC.nd rfl (Or.inl rfl))
 (pss_one (ps_if (pt_cmpR (op_neP hu64) (pv 3) (pe_lst pa_nil) (nomark _))
 (pss_cons (ps_set (i := 6) scLC.nd rfl (Or.inl rfl) (pe_bm PySem.F.plainAttrs_list PySem.F.slot_list_pop PySem.F.type_list_pop mt_popAt (pv 3) (pa_cons (pe_call T0.GD hr (by rfl) T0.gD T0.kD T0.bD .nil pass0 (pa_cons (pv 0) (pa_cons (pe_callB call_len_seq (by rfl) T0.mlen PySem.boot_len (pa_cons (pv 3) pa_nil)) pa_nil))) pa_nil)))
 (pss_one (ps_expr (pe_bm PySem.F.plainAttrs_list PySem.F.slot_list_append PySem.F.type_list_append mt_append (pv 4) (pa_cons (pe_tup (pa_cons (pv 6) (pa_cons (pe_cmpR op_eq (pe_call T0.GD hr (by rfl) T0.gD T0.kD T0.bD .nil pass0 (pa_cons (pv 0) (pa_cons pe_int pa_nil))) pe_int (nomark _)) pa_nil))) pa_nil))))) pss_nil)))
 (pss_one (ps_ret (pe_callTy call_tuple_of (by rfl) T0.mtuple (by decide +kernel) (pa_cons (pe_callB (cr_srtD hu64) (by rfl) T0.msorted (by decide +kernel) (pa_cons (pv 4) pa_nil)) pa_nil))))))), ?_⟩
  refine s_setL (Kd T) (K := K) (le_cb (da_cons (de_var rfl h1) da_nil) rcl_listL) fun pl H1 n1 s1 l1 => ?_
  refine s_setL (Kd T) (K := K) (le_lst da_nil (by decide)) fun pf H2 n2 s2 l2 => ?_
  have t2 := t.same (s1.trans s2)
  have nplL : pl ≠ L := t.nL n1
  have npfL : pf ≠ L := (t.same s1).nL n2
  have npl : pl ≠ pf := fun e => by
    obtain ⟨vs, ev, _⟩ := l1
    rw [e, n2] at ev
    cases ev
  have l12 := ltk s2 l1
  have k2 : Kd T H H2 := kd_same (s1.trans s2)
  have nf0 : H pf = none := s1.free n2
  refine ⟨_, rfl, _, rfl, _, _, rfl, rfl, T, L, ((few : Int) + 1), B, rfl, by omega, (Nat.lt_of_le_of_lt (show ((few : Int) + 1).natAbs ≤ 13 by omega) (by decide)), by omega, t2, fun H3 r r0 r1 t3 k3 => ?_⟩
  have k23 : Kd T H2 H3 := kd_of t2 k3
  refine ⟨_, rfl, by omega, by omega, for_range (lo := 0) (n := r.toNat) (fun j σ' H' => ∃ (left : List Str) (fs : List Lit) (u1 u2 : Option V), Lt K H' pl (left.map .str) ∧ Lt K H' pf (fs.map litD) ∧ (fs.map Prod.fst ++ left).Nodup ∧ (∀ x ∈ fs.map Prod.fst ++ left, x ∈ ws) ∧ fs.length ≤ j ∧ left.length ≤ 1000 ∧ Tape H' T L (B + 11 + 22 * j) ∧ Kd T H H' ∧ σ' = [some (.ref T), some vn, some (.int (few : Int)), some (.ref pl), some (.ref pf), u1, u2]) ?_ ?_ ?_⟩
  · exact ⟨ws, [], none, none, ltk k23 l12, ltk k23 l2, hnd, fun x h => h, Nat.le_refl _, hwl, t3.more (by omega), Edg.trans k2 k23, rfl⟩
  · rintro j σ' H4 hj ⟨left, fs, u1, u2, hl, hfd, hn, hs, hfl, hll, ht, hk, rfl⟩
    have hj12 : j < 12 := by omega
    refine s_if (Kd T) (K := K) (bt_test (de_op (de_var rfl hl.dp) (de_le (le_lst da_nil (by decide))) (rd_neP (plain_lstr left) (by simp [PyData.plain, PyData.plainAll]) (Nat.le_trans (Nat.min_le_right _ _) (by simp [PyData.depth, PyData.depthAll]))))) (fun hb H5 s5 => ?_) (fun hb H5 s5 => ?_)
    · rw [eqv_nil] at hb
      have hl5 := ltk s5 hl
      have hf5 := ltk s5 hfd
      have t5 := ht.same s5
      have hlen : 0 < left.length := by
        cases left with
        | nil => cases hb
        | cons _ _ => exact Nat.succ_pos _
      refine t_pop (n := 11) t5 hl5 nplL rfl (td_draw (j := ((left.map PyData.str).length : Int)) rfl (de_cb (da_cons (de_var rfl hl5.dp) da_nil) rc_lenL) (by rw [List.length_map]; omega) (by rw [List.length_map]; exact Nat.lt_of_le_of_lt (show ((left.length : Nat) : Int).natAbs ≤ 1000 by omega) (by decide))) (by omega) (by rw [List.length_map]; omega) (nl_strs left) (fun d h => h) fun m d v H6 o6 k6 hl6 hm hv t6 hlE tk6 => ?_
      rw [List.getElem?_map] at hm
      cases ex : left[m]? with
      | none => rw [ex] at hm; cases hm
      | some x =>
      rw [ex] at hm
      cases hm
      cases hv
      have hf6 : Lt K (upd H6 pl o6) pf (fs.map litD) := lt_other hl6 (ltk k6 hf5) npl.symm (nl_lits fs)
      have hE : (left.map PyData.str).eraseIdx m = (left.eraseIdx m).map .str := by simp [List.eraseIdx_eq_take_drop_succ]
      rw [hE] at hlE
      have k06 : Kd T H (upd H6 pl o6) := edg_mut (Edg.trans hk (Edg.trans (kd_same s5) k6)) n1
      refine t_app (n := 11) t6 hf6 npfL rfl ((td_tup (ta_cons (n := 0) (td_pure (de_var rfl (.str x))) (ta_cons (n := 11) (m := 0) (td_op (n := 11) (m := 0) (td_draw (j := 2) rfl de_int (by decide) (by decide)) (td_pure de_int) (χ := fun d => ∃ b : Bool, d = .bool b) ?_) ta_nil)) ?_).more (by decide)) (by omega) (by rw [List.length_map]; omega) (nl_lits fs) ?_ fun d H7 o7 k7 pd hf7 t7 hfE tk7 => ?_
      · rintro d e ⟨r, rfl, _, _⟩ rfl
        exact ⟨_, rd_eqI, _, rfl⟩
      · rintro ds ⟨_, _, rfl, _, _, _, rfl, _, rfl⟩
        exact Nat.le_of_ble_eq_true rfl
      · rintro d ⟨ds, rfl, _, _, rfl, rfl, _, _, rfl, ⟨b, rfl⟩, rfl⟩
        rfl
      obtain ⟨ds, rfl, _, _, rfl, rfl, _, _, rfl, ⟨b, rfl⟩, rfl⟩ := pd
      have hl7 : Lt K (upd H7 pf o7) pl ((left.eraseIdx m).map .str) := lt_other hf7 (ltk k7 hlE) npl (nl_strs _)
      have pp := perm_pop (names := fs.map Prod.fst) ex
      have e1 : (fs ++ [(x, b)]).map Prod.fst = fs.map Prod.fst ++ [x] := by rw [List.map_append]; rfl
      refine ⟨left.eraseIdx m, fs ++ [(x, b)], _, _, hl7, ?_, ?_, ?_, ?_, ?_, ?_, edg_mut (Edg.trans k06 k7) nf0, rfl⟩
      · rw [List.map_append]
        exact hfE
      · rw [e1]
        exact pp.nodup_iff.mp hn
      · rw [e1]
        exact fun y hy => hs y (pp.mem_iff.mpr hy)
      · rw [List.length_append]
        simp only [List.length_cons, List.length_nil]
        omega
      · have := List.length_eraseIdx_le left m
        omega
      · exact t7.more (by omega)
    · exact ⟨left, fs, _, u2, ltk s5 hl, ltk s5 hfd, hn, hs, by omega, hll, (ht.same s5).more (by omega), Edg.trans hk (kd_same s5), rfl⟩
  · rintro σ' H4 ⟨left, fs, u1, u2, hl, hfd, hn, hs, hfl, hll, ht, hk, rfl⟩
    refine s_ret (Kd T) (de_tsort (de_var rfl hfd.dp)) fun v H5 s5 hv => ?_
    have hn1 : (fs.map Prod.fst).Nodup := (List.nodup_append.mp hn).1
    refine q v _ H5 (Edg.trans hk (kd_same s5)) ((ht.same s5).more (by omega)) hv ⟨srtL fs, rfl, srt_ris hn1, fun l hl' => hs _ (List.mem_append.mpr (.inl (List.mem_map.mpr ⟨l, mem_srt.mp hl', rfl⟩))), ?_⟩
    rw [(srt_perm fs).length_eq]
    omega
end
end My

set_option maxRecDepth 100000
set_option maxHeartbeats 4000000
namespace My
open PySem PySem.Spec PyProof.Rows L2 Dl
section
variable {R : Hp → Hp → Prop} [Edg R] {T L X : Addr} {n m i j : Nat} {K : PySem.W.Frag} {σ : L2.St} {H H' : Hp} {ta tb te tx to : TE} {tt tu : TT} {x y z v : V} {d e f : PD} {ds es fs : List PD} {b c : Bool} {a l : Addr} {φ ψ χ : PD → Prop} {Φ Ψ : List PD → Prop} {B : Int} {D : Ends}
/-- d[k], d at X a dict that stays -/
theorem de_dget {kvs : List (Key × V)} {k : Key} (hx : σ[i]? = some (some (.ref X))) (hd : ∀ H1, R H H1 → H1 X = some (.dK kvs)) (hg : valV kvs k = some v) (hv : Dp K H v d) : DE R K (tDGet (tVar i) (tC (kV k))) σ H d := fun H1 g Q q =>
  ⟨_, hx, X, v, rfl, by have := DGet.k (k := k) (hd H1 g); rw [hg] at this; exact this, q v H1 (Same.refl _) (dpk g hv)⟩
/-- .. the very value -/
theorem at_dget {kvs : List (Key × V)} {k : Key} (hx : σ[i]? = some (some (.ref X))) (hd : H X = some (.dK kvs)) (hg : valV kvs k = some v) (Q : VK) (q : Q v H) : tDGet (tVar i) (tC (kV k)) σ H Q :=
  ⟨_, hx, X, v, rfl, by have := DGet.k (k := k) hd; rw [hg] at this; exact this, q⟩
/-- o.append(e), o a list of one's own -/
theorem s_appG (R : Hp → Hp → Prop) [Edg R] (hl : Lt K H l ds) (ho : ∀ Q : VK, Q (.ref l) H → to σ H Q) (h : DE R K te σ H d) (hz : ds.length < 100000) (n1 : nlA ds = true) (n2 : nl d = true) (k : ∀ H1, Same H H1 → ∀ o, Lt K (upd H1 l o) l (ds ++ [d]) → Tk H1 (upd H1 l o) → D.nx σ (upd H1 l o)) :
    tDrop (tBM K "list" rAppend to (tCons te tNil)) D σ H := by
  obtain ⟨vs, e, hv⟩ := hl
  refine ho _ ⟨.inl ⟨rfl, _, SqL.of e⟩, ?_⟩
  refine h H (Edg.refl H) _ fun v H1 s h1 => ⟨l, vs, v, rfl, rfl, s _ _ e, szs (by rw [dpa_len hv]; exact hz), ?_⟩
  have tk : Tk H1 (upd H1 l (.lst (vs ++ [v]))) := Tk.putL (s _ _ e)
  exact k H1 s _ ⟨_, upd_same, dpa_app (dpa_tk tk _ _ n1 (dpak s hv)) (.cons (dp_tk tk _ _ n2 h1) .nil)⟩ tk
/-- d[k] = e -/
theorem s_dput (R : Hp → Hp → Prop) [Edg R] {kvs : List (Key × V)} {k : Key} (hx : σ[i]? = some (some (.ref X))) (hd : H X = some (.dK kvs)) (hl : kvs.length < 100000) (h : DE R K te σ H d) (hk : ∀ v H1, Same H H1 → Dp K H1 v d → D.nx σ (upd H1 X (.dK (putK kvs k v)))) : sDPut (tVar i) (tC (kV k)) te D σ H :=
  h H (Edg.refl H) _ fun v H1 s hv => ⟨_, hx, X, _, rfl, DPut.k (s _ _ hd) (szs hl), hk v H1 s hv⟩
end
end My

set_option maxRecDepth 100000
set_option maxHeartbeats 4000000
namespace My
open PySem PySem.Spec PyProof.Rows L2 Dl
abbrev sGn : Stmt := top 36
theorem scGn : FnScope ["_law_tape_here", "_law_box", "_law_clause_here", "_law_deep", "_law_names", "_law_name", "_law_there", "_law_k", "_law_ways", "_law_literal", "_law_one", "_law_other", "_law_i", "_law_j"] ["_law_tape_here", "_law_box", "_law_clause_here", "_law_deep"] (defScope sGn) := ⟨rfl, rfl, rfl, by decide +kernel, rfl, by decide +kernel, by decide +kernel⟩
/-! ### the box -/
abbrev kNm : Key := Sum.inr ("names" : Str)
abbrev kSt : Key := Sum.inr ("steps" : Str)
abbrev kCl : Key := Sum.inr ("clauses" : Str)
abbrev kLf : Key := Sum.inr ("left" : Str)
def bkv (N S C : Addr) (k : Int) : List (Key × V) := [(kNm, .ref N), (kSt, .ref S), (kCl, .ref C), (kLf, .int k)]
theorem bkv_N (N S C : Addr) (k : Int) : valV (bkv N S C k) kNm = some (.ref N) := rfl
theorem bkv_S (N S C : Addr) (k : Int) : valV (bkv N S C k) kSt = some (.ref S) := rfl
theorem bkv_C (N S C : Addr) (k : Int) : valV (bkv N S C k) kCl = some (.ref C) := rfl
theorem bkv_L (N S C : Addr) (k : Int) : valV (bkv N S C k) kLf = some (.int k) := rfl
theorem bkv_put (N S C : Addr) (k k' : Int) : putK (bkv N S C k) kLf (.int k') = bkv N S C k' := rfl
theorem bkv_len (N S C : Addr) (k : Int) : (bkv N S C k).length < 100000 := by
  show 4 < 100000
  decide
/-- where the parts of the box stand -/
structure Bx (T L X N S C : Addr) : Prop where
  xt : X ≠ T
  ns : N ≠ S
  nc : N ≠ C
  sc : S ≠ C
  sl : S ≠ L
  cl : C ≠ L
structure Box (K : PySem.W.Frag) (H : Hp) (X N S C : Addr) (ws : List Str) (ss : List Stp) (cs : List Cl) (k : Int) : Prop where
  d : H X = some (.dK (bkv N S C k))
  n : SqL K H N (ws.map V.str)
  s : Lt K H S (ssD ss)
  c : Lt K H C (cs.map clD)
theorem nlA_ss (ss : List Stp) : nlA (ssD ss) = true := nlA_map nl_stp
theorem nlA_cs (cs : List Cl) : nlA (cs.map clD) = true := nlA_map nl_clD
section
variable {T L X N S C : Addr} {K : PySem.W.Frag} {H H' H'' : Hp} {ws : List Str} {ss : List Stp} {cs : List Cl} {k : Int} {B : Int}
theorem Box.kd (b : Box K H X N S C ws ss cs k) (x : Bx T L X N S C) (r : Kd T H H') : Box K H' X N S C ws ss cs k := ⟨r _ _ b.d fun e => absurd e x.xt, Edg.l r b.n, ltk r b.s, ltk r b.c⟩
/-- all but the tape and the box's own -/
def Kx (T X S C : Addr) (H H' : Hp) : Prop := ∀ b o, H b = some o → b ≠ T → b ≠ X → b ≠ S → b ≠ C → H' b = some o
theorem Kx.trans (a : Kx T X S C H H') (b : Kx T X S C H' H'') : Kx T X S C H H'' := fun c o h n1 n2 n3 n4 => b c o (a c o h n1 n2 n3 n4) n1 n2 n3 n4
theorem Kx.of (r : Kd T H H') : Kx T X S C H H' := fun b o h n _ _ _ => r b o h fun e => absurd e n
theorem Kx.put {o : HO} {p : Addr} (h : p = X ∨ p = S ∨ p = C) : Kx T X S C H (upd H p o) := fun b u e _ n2 n3 n4 => by
  rw [upd_ne (fun z => by subst z; rcases h with h | h | h; exact n2 h; exact n3 h; exact n4 h)]
  exact e
theorem lt_lst {p : Addr} {ds : List PD} (h : Lt K H p ds) : ∃ vs, H p = some (.lst vs) := by
  obtain ⟨vs, e, _⟩ := h
  exact ⟨vs, e⟩
theorem Kx.tk (r : Kx T X S C H H') (t : Tape H T L B) (b : Box K H X N S C ws ss cs k) : Tk H H' := fun p xs h => by
  obtain ⟨vs, e1⟩ := lt_lst b.s
  obtain ⟨us, e2⟩ := lt_lst b.c
  obtain ⟨ns, s, l, a, _⟩ := t
  have go : ∀ o, H p = some o → (∀ kv, o ≠ .dK kv) → (∀ ys, o ≠ .lst ys) → H' p = some o := fun o e nd nl => r p o e
    (fun z => by rw [z, a.d] at e; exact nd _ (Option.some.inj e).symm) (fun z => by rw [z, b.d] at e; exact nd _ (Option.some.inj e).symm)
    (fun z => by rw [z, e1] at e; exact nl _ (Option.some.inj e).symm) (fun z => by rw [z, e2] at e; exact nl _ (Option.some.inj e).symm)
  rcases h with h | ⟨o, h⟩
  · exact .inl (go _ h (fun _ z => nomatch z) fun _ z => nomatch z)
  · exact .inr ⟨o, go _ h (fun _ z => nomatch z) fun _ z => nomatch z⟩
/-- a list of one's own, other than those -/
theorem Kx.lt (r : Kx T X S C H H') (t : Tape H T L B) (b : Box K H X N S C ws ss cs k) {p : Addr} {ds : List PD} (h : Lt K H p ds) (n1 : p ≠ S) (n2 : p ≠ C) (nd : nlA ds = true) : Lt K H' p ds := by
  have tk := r.tk t b
  obtain ⟨vs, e, hv⟩ := id h
  refine ⟨vs, r p _ e (ne_T t h) (fun z => ?_) n1 n2, dpa_tk tk _ _ nd hv⟩
  rw [z, b.d] at e
  cases e
end
/-- clauses of names that are told -/
structure AllG (ws : List Str) (cs : List Cl) : Prop where
  g : ∀ c ∈ cs, GoodC c
  n : ∀ c ∈ cs, ∀ l ∈ c, l.1 ∈ ws
theorem good_len {ws : List Str} {c : Cl} (g : GoodC c) (n : ∀ l ∈ c, l.1 ∈ ws) : c.length ≤ ws.length := by
  have := nd_len (c.map Prod.fst) ws (ris_names g.ris) fun z hz => by
    obtain ⟨l, hl, rfl⟩ := List.mem_map.mp hz
    exact n l hl
  rw [List.length_map] at this
  exact this
def gN : Nat → Nat
  | 0 => 0
  | d + 1 => 200 + 2 * gN d
def gS : Nat → Nat
  | 0 => 0
  | d + 1 => 1 + 2 * gS d
/-- the steps and the clauses so far, and more -/
structure Ext (ws : List Str) (ss : List Stp) (cs : List Cl) (ss' : List Stp) (cs' : List Cl) (n : Nat) : Prop where
  run : Runs ss' cs'
  all : AllG ws cs'
  pc : cs'.take cs.length = cs
  ps : ss'.take ss.length = ss
  len : ss'.length ≤ ss.length + n
def spGrown (K : PySem.W.Frag) (d : Nat) : Sp := fun vs H Q _ => ∃ (T L X N S C : Addr) (B : Int) (v : V) (c : Cl) (deep : Int) (ws : List Str) (ss : List Stp) (cs : List Cl) (k : Int), vs = [.ref T, .ref X, v, .int deep] ∧ Tape H T L B ∧ B + gN d ≤ 1000000 ∧ Bx T L X N S C ∧ Box K H X N S C ws ss cs k ∧
  Dp K H v (clD c) ∧ GoodC c ∧ (∀ l ∈ c, l.1 ∈ ws) ∧ Nms ws ∧ ws.length ≤ 12 ∧ 0 ≤ deep ∧ deep < (d : Int) ∧ Runs ss cs ∧ AllG ws cs ∧ ss.length + gS d ≤ 5000 ∧
  ∀ (r : Nat) ss' cs' k' H', cs'[r]? = some c → (cs = [] → r + 1 = cs'.length) → Ext ws ss cs ss' cs' (gS d) → 0 < ss'.length → Box K H' X N S C ws ss' cs' k' → Tape H' T L (B + gN d) → Kx T X S C H H' → Q (.int (r : Int)) H'
structure Gr (P : Program) (w : World) (K : PySem.W.Frag) (mg : Str → Option Value) (base : Heap) (fD fG : Addr) (dD dG : FuncData) : Prop where
  GD : FnOk P w K mg base CX0 11 fD dD ["_law_tape_here", "_law_many"] (spDraw 11)
  gD : mg "_law_draw" = some (.ref fD)
  kD : PySem.W.keepIn K (.ref fD) = true
  bD : Binds K dD ["_law_tape_here", "_law_many"] []
  gG : mg "_law_grown" = some (.ref fG)
  bG : Binds K dG ["_law_tape_here", "_law_box", "_law_clause_here", "_law_deep"] []
  mtuple : mg "tuple" = none
  mrange : mg "range" = none
  mlen : mg "len" = none
  msorted : mg "sorted" = none
section
variable {P : Program} {w : World} {K : PySem.W.Frag} {mg : Str → Option Value} {base : Heap} {f fD fG : Addr} {fd dD dG : FuncData}
def pick (c : Cl) (p : Nat → Bool) : Cl := ((List.range c.length).filter p).map fun k => c.getD k (Str.empty, false)
theorem range_getD (c : Cl) : (List.range c.length).map (fun k => c.getD k (Str.empty, false)) = c := by
  refine List.ext_getElem (by rw [List.length_map, List.length_range]) fun i h1 h2 => ?_
  rw [List.getElem_map, List.getElem_range, List.getD_eq_getElem?_getD, List.getElem?_eq_getElem h2]
  rfl
theorem pick_sub (c : Cl) (p : Nat → Bool) : (pick c p).Sublist c := by
  have h : (pick c p).Sublist ((List.range c.length).map fun k => c.getD k (Str.empty, false)) := (List.filter_sublist).map _
  rw [range_getD] at h
  exact h
theorem pick_or (c : Cl) (p q : Nat → Bool) (h : ∀ k, k < c.length → p k = true ∨ q k = true) : ∀ l ∈ c, l ∈ pick c p ∨ l ∈ pick c q := fun l hl => by
  obtain ⟨k, hk, e⟩ := List.mem_iff_getElem.mp hl
  have e2 : c.getD k (Str.empty, false) = l := by
    rw [List.getD_eq_getElem?_getD, List.getElem?_eq_getElem hk]
    exact e
  have hm : k ∈ List.range c.length := List.mem_range.mpr hk
  exact (h k hk).imp (fun z => List.mem_map.mpr ⟨k, List.mem_filter.mpr ⟨hm, z⟩, e2⟩) fun z => List.mem_map.mpr ⟨k, List.mem_filter.mpr ⟨hm, z⟩, e2⟩
theorem ints_of {c : Cl} {ds : List PD} (h : Paired (fun (_ : Lit) (d : PD) => ∃ r : Int, d = .int r ∧ 0 ≤ r ∧ r < 3) c ds) : ∃ ys : List Int, ds = ys.map .int ∧ ys.length = c.length := by
  induction h with
  | nil => exact ⟨[], rfl, rfl⟩
  | cons h _ ih =>
    obtain ⟨r, rfl, _⟩ := h
    obtain ⟨ys, rfl, e⟩ := ih
    exact ⟨r :: ys, rfl, by rw [List.length_cons, List.length_cons, e]⟩
section
variable {T L X N S C : Addr} {K : PySem.W.Frag} {H H' H'' : Hp} {ws : List Str} {ss : List Stp} {cs : List Cl} {k k' : Int} {B : Int}
theorem sql_upd {p a : Addr} {o : HO} {xs : List V} (h : SqL K H a xs) (n : a ≠ p) : SqL K (upd H p o) a xs := by
  rcases h with (h | ⟨o', h⟩) | h
  · exact .inl (.inl (by rw [upd_ne n]; exact h))
  · exact .inl (.inr ⟨o', by rw [upd_ne n]; exact h⟩)
  · exact .inr h
theorem sql_updD {a : Addr} {o : HO} {kvs : List (Key × V)} {xs : List V} (hd : H X = some (.dK kvs)) (h : SqL K H a xs) : SqL K (upd H X o) a xs := by
  rcases h with (h | ⟨o', h⟩) | h
  · exact .inl (.inl (by rw [upd_ne (fun z => by rw [z, hd] at h; cases h)]; exact h))
  · exact .inl (.inr ⟨o', by rw [upd_ne (fun z => by rw [z, hd] at h; cases h)]; exact h⟩)
  · exact .inr h
theorem ne_dk {p : Addr} {kvs : List (Key × V)} {ds : List PD} (h : H X = some (.dK kvs)) (l : Lt K H p ds) : p ≠ X := fun z => by
  obtain ⟨vs, e⟩ := lt_lst l
  rw [z, h] at e
  cases e
theorem lt_putD {p : Addr} {kvs : List (Key × V)} {o : HO} {ds : List PD} (h : H X = some (.dK kvs)) (l : Lt K H p ds) (n : nlA ds = true) : Lt K (upd H X o) p ds := by
  have nx := ne_dk h l
  obtain ⟨vs, e, q⟩ := l
  exact ⟨vs, by rw [upd_ne nx]; exact e, dpa_tk (Tk.putD h) _ _ n q⟩
theorem Box.put (b : Box K H X N S C ws ss cs k) : Box K (upd H X (.dK (bkv N S C k'))) X N S C ws ss cs k' :=
  ⟨upd_same, sql_updD b.d b.n, lt_putD b.d b.s (nlA_ss _), lt_putD b.d b.c (nlA_cs _)⟩
theorem tape_put {p : Addr} {o : HO} {kvs : List (Key × V)} (t : Tape H T L B) (h : H p = some (.dK kvs)) (n : p ≠ T) : Tape (upd H p o) T L B := t.put n fun z => by
  obtain ⟨ns, s, l, a, _⟩ := t
  rw [z, a.c] at h
  cases h
/-- box['steps'].append(..) has been done -/
theorem Box.app {o : HO} {s : Stp} (b : Box K H X N S C ws ss cs k) (x : Bx T L X N S C) (l : Lt K (upd H S o) S (ssD ss ++ [s.d])) : Box K (upd H S o) X N S C ws (ss ++ [s]) cs k := by
  refine ⟨?_, sql_upd b.n x.ns, ?_, lt_other b.s b.c x.sc.symm (nlA_cs _)⟩
  · rw [upd_ne (ne_dk b.d b.s).symm]
    exact b.d
  · have e : ssD (ss ++ [s]) = ssD ss ++ [s.d] := by
      unfold ssD
      rw [List.map_append]
      rfl
    rw [e]
    exact l
theorem Box.appC {o : HO} {c : Cl} (b : Box K H X N S C ws ss cs k) (x : Bx T L X N S C) (l : Lt K (upd H C o) C (cs.map clD ++ [clD c])) : Box K (upd H C o) X N S C ws ss (cs ++ [c]) k := by
  refine ⟨?_, sql_upd b.n x.nc, lt_other b.c b.s x.sc (nlA_ss _), ?_⟩
  · rw [upd_ne (ne_dk b.d b.c).symm]
    exact b.d
  · rw [List.map_append]
    exact l
/-- a call with the tape, a thing at X, two data -/
theorem s_call4 {σ : L2.St} {te1 te2 : TE} {d1 d2 : PD} {sp : Sp} {E : XK} {a b j : Nat} {D : Ends} (h0 : σ[a]? = some (some (.ref T))) (h1 : σ[b]? = some (some (.ref X))) (h2 : DE Same K te1 σ H d1) (h3 : DE Same K te2 σ H d2)
    (k : ∀ v1 v2 H1, Same H H1 → Dp K H1 v1 d1 → Dp K H1 v2 d2 → sp [.ref T, .ref X, v1, v2] H1 (fun v H2 => D.nx (σ.set j (some v)) H2) E) : tAsg (tCall sp [] E (tCons (tVar a) (tCons (tVar b) (tCons te1 (tCons te2 tNil))))) (gName j) D σ H :=
  ⟨_, h0, _, h1, h2 H (Same.refl _) _ fun v1 H1 s1 q1 => h3 H1 s1 _ fun v2 H2 s2 q2 => k v1 v2 H2 (s1.trans s2) (dpk s2 q1) q2⟩
theorem take_get {α : Type} {xs ys : List α} {i : Nat} {x : α} (h : ys.take xs.length = xs) (e : xs[i]? = some x) : ys[i]? = some x := by
  rw [← h, List.getElem?_take] at e
  by_cases hi : i < xs.length
  · rw [if_pos hi] at e
    exact e
  · rw [if_neg hi] at e
    cases e
theorem take_take {α : Type} {xs ys zs : List α} (h1 : ys.take xs.length = xs) (h2 : zs.take ys.length = ys) : zs.take xs.length = xs := by
  have hl : xs.length ≤ ys.length := by
    have := congrArg List.length h1
    rw [List.length_take] at this
    omega
  rw [← h2, List.take_take, Nat.min_eq_left hl] at h1
  exact h1
theorem take_snoc {α : Type} {xs ys : List α} {y : α} (h : ys.take xs.length = xs) : (ys ++ [y]).take xs.length = xs := by
  have hl : xs.length ≤ ys.length := by
    have := congrArg List.length h
    rw [List.length_take] at this
    omega
  rw [List.take_append_of_le_length hl]
  exact h
/-- the clause behind its step; how many there are -/
theorem grow_tail {Q : VK} {σ : L2.St} {v : V} {c : Cl} {s : Stp} {ss6 : List Stp} {cs6 : List Cl} {d : Nat} (e1 : σ[1]? = some (some (.ref X))) (e2 : σ[2]? = some (some v)) (t : Tape H T L B) (x : Bx T L X N S C) (b : Box K H X N S C ws (ss6 ++ [s]) cs6 k) (hc : Dp K H v (clD c)) (gc : GoodC c) (hcw : ∀ l ∈ c, l.1 ∈ ws)
    (run : Runs ss6 cs6) (st : stepC s cs6 = some c) (all : AllG ws cs6) (pc : cs6.take cs.length = cs) (ps : ss6.take ss.length = ss) (len : ss6.length ≤ ss.length + 2 * gS d) (few : ss.length + (1 + 2 * gS d) ≤ 5000)
    (q : ∀ (r : Nat) ss' cs' k' H', cs'[r]? = some c → (cs = [] → r + 1 = cs'.length) → Ext ws ss cs ss' cs' (gS (d + 1)) → 0 < ss'.length → Box K H' X N S C ws ss' cs' k' → Tape H' T L B → Kx T X S C H H' → Q (.int (r : Int)) H') :
    tSeq (tDrop (tBM K "list" rAppend (tDGet (tVar 1) (tC (V.str (Str.ofString "clauses")))) (tCons (tVar 2) tNil))) (tRet (tOp (rI0 fun i j => V.int (i - j)) (tCB (fun xs H Q => ∃ p ys, xs = [V.ref p] ∧ (SqL K H p ys ∨ SqT K H p ys) ∧ Q (V.int ys.length) H) (tCons (tDGet (tVar 1) (tC (V.str (Str.ofString "clauses")))) tNil)) (tC (V.int 1)))) { nx := fun _ H' => Q .non H', rt := Q } σ H := by
  have rl := runs_len run
  refine s_appG (Kd T) b.c (fun Q q => at_dget (k := kCl) e1 b.d (bkv_C N S C k) Q q) (de_var e2 hc) (by rw [List.length_map]; omega) (nlA_cs _) (nl_clD c) fun H1 s1 o l1 tk => ?_
  have b1 := b.kd x (kd_same (T := T) s1)
  have b2 := b1.appC x l1
  have t2 : Tape (upd H1 C o) T L B := (t.same s1).put (ne_T (t.same s1) b1.c) x.cl
  have k2 : Kx T X S C H (upd H1 C o) := (Kx.of (kd_same s1)).trans (Kx.put (.inr (.inr rfl)))
  refine s_ret (Kd T) (K := K) (de_op (de_cb (da_cons (de_dget (k := kCl) e1 (fun H' r => (b2.kd x r).d) (bkv_C N S C k) b2.c.dp) da_nil) rc_lenL) de_int rd_i) fun v3 H3 s3 h3 => ?_
  cases h3
  have e : (((cs6 ++ [c]).map clD).length : Int) - 1 = (cs6.length : Int) := by
    rw [List.length_map, List.length_append]
    simp only [List.length_cons, List.length_nil]
    omega
  rw [e]
  refine q cs6.length (ss6 ++ [s]) (cs6 ++ [c]) k H3 ?_ (fun _ => by rw [List.length_append]; rfl) ⟨runs_snoc run st, ⟨fun y hy => ?_, fun y hy => ?_⟩, take_snoc pc, take_snoc ps, ?_⟩ ?_ (b2.kd x (kd_same s3)) (t2.same s3) (k2.trans (Kx.of (kd_same s3)))
  · rw [List.getElem?_append_right (Nat.le_refl _), Nat.sub_self]
    rfl
  · rcases List.mem_append.mp hy with h | h
    · exact all.g y h
    · rw [List.mem_singleton.mp h]; exact gc
  · rcases List.mem_append.mp hy with h | h
    · exact all.n y h
    · rw [List.mem_singleton.mp h]; exact hcw
  · rw [List.length_append]
    show ss6.length + 1 ≤ ss.length + (1 + 2 * gS d)
    omega
  · rw [List.length_append]
    exact Nat.succ_pos _
end
theorem plain_nats (th : List Nat) : PyData.plain (.list (th.map fun k : Nat => PyData.int (k : Int))) = true := by
  simp only [PyData.plain]
  induction th with
  | nil => simp [PyData.plainAll]
  | cons x r ih => simp [PyData.plainAll, PyData.plain, ih]
theorem ok_grown {d : Nat} (F : FnP K "_law_grown" sGn f fd) (G : FnOk P w K mg base CX0 (d + 12) f fd ["_law_tape_here", "_law_box", "_law_clause_here", "_law_deep"] (spGrown K d)) (T0 : Gr P w K mg base fD f dD fd) : FnOk P w K mg base CX0 (d + 1 + 12) f fd ["_law_tape_here", "_law_box", "_law_clause_here", "_law_deep"] (spGrown K (d + 1)) := by
  refine F.ok scGn (fun vs H Q E h => ?_) (fun cdv A outer s H vs Q E hr h => ?_)
  · obtain ⟨T, L, X, N, S, C, B, v, c, deep, ws, ss, cs, k, rfl, _⟩ := h
    rfl
  obtain ⟨T, L, X, N, S, C, B, v, c, deep, ws, ss, cs, k, rfl, t, hB, bx, b, hc, gc, hcw, nms, hws, hd0, hdd, hrun, hall, hlen, q⟩ := h
  have hu := hu_of hr
  have hu64 := hr.units
  have hr11 : Room 11 _ := hr.mono (by omega)
  have hB' : B + (200 + 2 * gN d : Nat) ≤ 1000000 := hB
  have hlen' : ss.length + (1 + 2 * gS d) ≤ 5000 := hlen
  have hcl : c.length ≤ 12 := by
    have := good_len gc hcw
    omega
  have hcsl := runs_len hrun
  refine ⟨_, PSs.nox (pss_cons (ps_setLc (i := 4) (own := [("_law_name", 5)]) (g := gName 5) (tt := _) (by rfl) scGn.nd rfl rfl (sw_true rfl rfl rfl (by decide +kernel)) (pi_list (pe_dget hu (pv 1) pe_str (fun _ _ => rfl))) (blkOk_by (own := [("_law_name", 5)]) (N := ["_law_tape_here", "_law_box", "_law_clause_here", "_law_deep", "_law_names", "_law_name", "_law_there", "_law_k", "_law_ways", "_law_literal", "_law_one", "_law_other", "_law_i", "_law_j"]) (sc := defScope sGn) (by decide +kernel)) (fun _ _ _ _ _ => pg_name (i := 5) scGn.nd rfl (Or.inl rfl)) (fun _ _ _ _ _ => (pts_one (PW.pt (pw_and (pt_cmpR (show OpR _ (compareOp .NotIn) (rInP K true) from (op_notInP hu64)) (pe_tup (pa_cons (pv 5) (pa_cons pe_bl pa_nil))) (pv 2) rfl) (pw_and1 (pt_cmpR (show OpR _ (compareOp .NotIn) (rInP K true) from (op_notInP hu64)) (pe_tup (pa_cons (pv 5) (pa_cons pe_bl pa_nil))) (pv 2) rfl)))))) (fun _ _ _ _ _ => (pv 5)))
 (pss_cons (ps_setLc (i := 6) (own := [("_law_k", 7)]) (g := gName 7) (tt := _) (by rfl) scGn.nd rfl rfl (sw_true rfl rfl rfl (by decide +kernel)) (pi_range1 (by rfl) T0.mrange (pa_cons (pe_callB call_len_seq (by rfl) T0.mlen PySem.boot_len (pa_cons (pe_dget hu (pv 1) pe_str (fun _ _ => rfl)) pa_nil)) pa_nil)) (blkOk_by (own := [("_law_k", 7)]) (N := ["_law_tape_here", "_law_box", "_law_clause_here", "_law_deep", "_law_names", "_law_name", "_law_there", "_law_k", "_law_ways", "_law_literal", "_law_one", "_law_other", "_law_i", "_law_j"]) (sc := defScope sGn) (by decide +kernel)) (fun _ _ _ _ _ => pg_name (i := 7) scGn.nd rfl (Or.inl rfl)) (fun _ _ _ _ _ => (pts_one (pt_cmpR (show OpR _ (compareOp .Eq) (rEqP K) from (op_eqP hu64)) (pe_ix (show IxR _ (rIxL K) from ix_list) (pe_dget hu (pv 1) pe_str (fun _ _ => rfl)) (pv 7) (fun _ _ => rfl)) (pv 2) (nomark _)))) (fun _ _ _ _ _ => (pv 7)))
 (pss_cons (ps_if (PW.pt (pw_and (pt_cmpR (op_neP hu64) (pv 6) (pe_lst pa_nil) (nomark _)) (pw_and1 (pt_cmpR op_gt (pe_call T0.GD hr11 (by rfl) T0.gD T0.kD T0.bD .nil pass0 (pa_cons (pv 0) (pa_cons pe_int pa_nil))) pe_int (nomark _)))))
 (pss_one (ps_ret (pe_ix ix_list (pv 6) (pe_un un_neg pe_int) (fun _ _ => rfl)))) pss_nil)
 (pss_cons (ps_if (PW.pt (pw_or (pt_cmpR (op_eqP hu64) (pv 4) (pe_lst pa_nil) (nomark _)) (pw_or (pt_cmpR op_lt (pv 3) pe_int (nomark _)) (pw_or (pt_cmpR op_lt (pe_dget hu (pv 1) pe_str (fun _ _ => rfl)) pe_int (nomark _)) (pw_or1 (PW.pt (pw_and (pt_cmpR (op_neP hu64) (pv 2) (pe_tup pa_nil) (nomark _)) (pw_and1 (pt_cmpR op_eq (pe_call T0.GD hr11 (by rfl) T0.gD T0.kD T0.bD .nil pass0 (pa_cons (pv 0) (pa_cons pe_int pa_nil))) pe_int (nomark _))))))))))
 (pss_one (ps_expr (pe_bm PySem.F.plainAttrs_list PySem.F.slot_list_append PySem.F.type_list_append mt_append (pe_dget hu (pv 1) pe_str (fun _ _ => rfl)) (pa_cons (pe_tup (pa_cons pe_str (pa_cons (pv 2) pa_nil))) pa_nil)))) (pss_cons (ps_dput hu (pv 1) pe_str (pe_op op_sub (pe_dget hu (pv 1) pe_str (fun _ _ => rfl)) pe_int) rfl)
 (pss_cons (ps_set (i := 5) scGn.nd rfl (Or.inl rfl) (pe_ix ix_list (pv 4) (pe_call T0.GD hr11 (by rfl) T0.gD T0.kD T0.bD .nil pass0 (pa_cons (pv 0) (pa_cons (pe_callB call_len_seq (by rfl) T0.mlen PySem.boot_len (pa_cons (pv 4) pa_nil)) pa_nil))) (fun _ _ => rfl)))
 (pss_cons (ps_set (i := 8) scGn.nd rfl (Or.inr rfl) (pe_lc (own := [("_law_literal", 9)]) (g := gName 9) (tt := tYes) (by rfl) scGn.nd (pi_tup (pv 2)) (blkOk_by (own := [("_law_literal", 9)]) (N := ["_law_tape_here", "_law_box", "_law_clause_here", "_law_deep", "_law_names", "_law_name", "_law_there", "_law_k", "_law_ways", "_law_literal", "_law_one", "_law_other", "_law_i", "_law_j"]) (sc := defScope sGn) (by decide +kernel)) (fun _ _ _ _ _ => pg_name (i := 9) scGn.nd rfl (Or.inl rfl)) (fun _ _ _ _ _ => pts_nil) (fun _ _ _ _ _ => (pe_call T0.GD hr11 (by rfl) T0.gD T0.kD T0.bD .nil pass0 (pa_cons (pv 0) (pa_cons pe_int pa_nil))))))
 (pss_cons (ps_set (i := 10) scGn.nd rfl (Or.inl rfl) (pe_op op_cat (pe_lc (own := [("_law_k", 7)]) (g := gName 7) (tt := _) (by rfl) scGn.nd (pi_range1 (by rfl) T0.mrange (pa_cons (pe_callB call_len_seq (by rfl) T0.mlen PySem.boot_len (pa_cons (pv 2) pa_nil)) pa_nil)) (blkOk_by (own := [("_law_k", 7)]) (N := ["_law_tape_here", "_law_box", "_law_clause_here", "_law_deep", "_law_names", "_law_name", "_law_there", "_law_k", "_law_ways", "_law_literal", "_law_one", "_law_other", "_law_i", "_law_j"]) (sc := defScope sGn) (by decide +kernel)) (fun _ _ _ _ _ => pg_name (i := 7) scGn.nd rfl (Or.inl rfl)) (fun _ _ _ _ _ => (pts_one (pt_cmpR op_lt (pe_ix (show IxR _ (rIxL K) from ix_list) (pv 8) (pv 7) (fun _ _ => rfl)) pe_int (nomark _)))) (fun _ _ _ _ _ => (pe_ix (show IxR _ (rIxT K) from ix_tup) (pv 2) (pv 7) (fun _ _ => rfl)))) (pe_lst (pa_cons (pe_tup (pa_cons (pv 5) (pa_cons pe_bl pa_nil))) pa_nil))))
 (pss_cons (ps_set (i := 11) scGn.nd rfl (Or.inl rfl) (pe_op op_cat (pe_lc (own := [("_law_k", 7)]) (g := gName 7) (tt := _) (by rfl) scGn.nd (pi_range1 (by rfl) T0.mrange (pa_cons (pe_callB call_len_seq (by rfl) T0.mlen PySem.boot_len (pa_cons (pv 2) pa_nil)) pa_nil)) (blkOk_by (own := [("_law_k", 7)]) (N := ["_law_tape_here", "_law_box", "_law_clause_here", "_law_deep", "_law_names", "_law_name", "_law_there", "_law_k", "_law_ways", "_law_literal", "_law_one", "_law_other", "_law_i", "_law_j"]) (sc := defScope sGn) (by decide +kernel)) (fun _ _ _ _ _ => pg_name (i := 7) scGn.nd rfl (Or.inl rfl)) (fun _ _ _ _ _ => (pts_one (pt_cmpR op_gt (pe_ix (show IxR _ (rIxL K) from ix_list) (pv 8) (pv 7) (fun _ _ => rfl)) pe_int (nomark _)))) (fun _ _ _ _ _ => (pe_ix (show IxR _ (rIxT K) from ix_tup) (pv 2) (pv 7) (fun _ _ => rfl)))) (pe_lst (pa_cons (pe_tup (pa_cons (pv 5) (pa_cons pe_bl pa_nil))) pa_nil))))
 (pss_cons (ps_set (i := 12) scGn.nd rfl (Or.inl rfl) (pe_call G hr (by rfl) T0.gG F.kp T0.bG .nil pass0 (pa_cons (pv 0) (pa_cons (pv 1) (pa_cons (pe_callTy call_tuple_of (by rfl) T0.mtuple (by decide +kernel) (pa_cons (pe_callB (cr_srtD hu64) (by rfl) T0.msorted (by decide +kernel) (pa_cons (pv 10) pa_nil)) pa_nil)) (pa_cons (pe_op op_sub (pv 3) pe_int) pa_nil))))))
 (pss_cons (ps_set (i := 13) scGn.nd rfl (Or.inl rfl) (pe_call G hr (by rfl) T0.gG F.kp T0.bG .nil pass0 (pa_cons (pv 0) (pa_cons (pv 1) (pa_cons (pe_callTy call_tuple_of (by rfl) T0.mtuple (by decide +kernel) (pa_cons (pe_callB (cr_srtD hu64) (by rfl) T0.msorted (by decide +kernel) (pa_cons (pv 11) pa_nil)) pa_nil)) (pa_cons (pe_op op_sub (pv 3) pe_int) pa_nil))))))
 (pss_one (ps_expr (pe_bm PySem.F.plainAttrs_list PySem.F.slot_list_append PySem.F.type_list_append mt_append (pe_dget hu (pv 1) pe_str (fun _ _ => rfl)) (pa_cons (pe_tup (pa_cons pe_str (pa_cons (pv 12) (pa_cons (pv 13) (pa_cons (pv 5) pa_nil))))) pa_nil))))))))))))
 (pss_cons (ps_expr (pe_bm PySem.F.plainAttrs_list PySem.F.slot_list_append PySem.F.type_list_append mt_append (pe_dget hu (pv 1) pe_str (fun _ _ => rfl)) (pa_cons (pv 2) pa_nil)))
 (pss_one (ps_ret (pe_op op_sub (pe_callB call_len_seq (by rfl) T0.mlen PySem.boot_len (pa_cons (pe_dget hu (pv 1) pe_str (fun _ _ => rfl)) pa_nil)) pe_int)))))))), ?_⟩
  -- the names left
  obtain ⟨fr, hfr⟩ : ∃ fr, fr = ws.filter fun n => !decide ((n, true) ∈ c) && !decide ((n, false) ∈ c) := ⟨_, rfl⟩
  refine s_setL Same (K := K) (le_is (le_lc (R := Same) (xs := ws) (enc := PyData.str) (f := PyData.str) (cnd := fun n => !decide ((n, true) ∈ c) && !decide ((n, false) ∈ c)) (src_list (de_dget (k := kNm) rfl (fun H1 r => r _ _ b.d) (bkv_N N S C k) (dp_strL b.n))) (by omega) (fun _ => by rfl) (fun n hn w H' r hw => ?_) (fun _ _ _ => rfl)) (by rw [← hfr])) fun pn H1 n1 s1 l1 => ?_
  · have hcw' := dpk r hc
    refine ⟨bt_is (bt_and (bt_test (de_op (de_tup (da_cons (de_var rfl hw) (da_cons de_bl da_nil)) (Nat.le_of_ble_eq_true rfl)) (de_var rfl hcw') (rd_inT (neg := true) (plain_lits c) (by simp [PyData.plain, PyData.plainAll]) (Nat.le_trans (Nat.min_le_left _ _) (Nat.le_trans (depth_lits c) (by decide)))))) fun _ => bt_test (de_op (de_tup (da_cons (de_var rfl hw) (da_cons de_bl da_nil)) (Nat.le_of_ble_eq_true rfl)) (de_var rfl hcw') (rd_inT (neg := true) (plain_lits c) (by simp [PyData.plain, PyData.plainAll]) (Nat.le_trans (Nat.min_le_left _ _) (Nat.le_trans (depth_lits c) (by decide)))))) (by rw [any_lit, any_lit]; rfl), fun _ => de_var rfl hw⟩
  have hfw : ∀ n ∈ fr, n ∈ ws ∧ n ∉ c.map Prod.fst := fun n hn => by
    rw [hfr] at hn
    obtain ⟨h1, h2⟩ := List.mem_filter.mp hn
    refine ⟨h1, fun hm => ?_⟩
    obtain ⟨⟨m, bb⟩, hl, rfl⟩ := List.mem_map.mp hm
    simp only [Bool.and_eq_true, Bool.not_eq_true', decide_eq_false_iff_not] at h2
    cases bb
    · exact h2.2 hl
    · exact h2.1 hl
  have l1' : Lt K H1 pn (fr.map .str) := l1
  have b1 := b.kd bx (kd_same (T := T) s1)
  have hc1 := dpk s1 hc
  have t1 := t.same s1
  -- where the clause stands already
  obtain ⟨th, hth⟩ : ∃ th, th = (List.range (cs.map clD).length).filter fun k => PyData.eqv (clD (cs.getD k [])) (clD c) := ⟨_, rfl⟩
  refine s_setL Same (K := K) (le_is (le_lc (R := Same) (xs := List.range (cs.map clD).length) (enc := fun k : Nat => PyData.int (k : Int)) (f := fun k : Nat => PyData.int (k : Int)) (cnd := fun k => PyData.eqv (clD (cs.getD k [])) (clD c)) (src_r1 (da_cons (de_cb (da_cons (de_dget (k := kCl) rfl (fun H' r => r _ _ b1.d) (bkv_C N S C k) b1.c.dp) da_nil) rc_lenL) da_nil) (by rw [List.length_map]; omega)) (by rw [List.length_range, List.length_map]; omega) (fun _ => by rfl) (fun j hj w H' r hw => ?_) (fun _ _ _ => rfl)) (by rw [← hth])) fun pt H2 n2 s2 l2 => ?_
  · have hj' : j < cs.length := by
      have := List.mem_range.mp hj
      rw [List.length_map] at this
      exact this
    have ej : (cs.map clD)[j]? = some (clD (cs.getD j [])) := by
      rw [List.getElem?_map, List.getElem?_eq_getElem hj', List.getD_eq_getElem?_getD, List.getElem?_eq_getElem hj']
      rfl
    have b1' := b1.kd bx (kd_same (T := T) r)
    exact ⟨bt_test (de_op (de_op (de_dget (k := kCl) rfl (fun H' r => r _ _ b1'.d) (bkv_C N S C k) b1'.c.dp) (de_var rfl hw) (rd_ixL (at_nat ej))) (de_var rfl (dpk r hc1)) (rd_eqP (plain_cl _) (plain_cl _) (Nat.le_trans (Nat.min_le_left _ _) (Nat.le_trans (depth_cl _) (by decide))))), fun _ => de_var rfl hw⟩
  have hthr : ∀ r ∈ th, cs[r]? = some c := fun r hr' => by
    rw [hth] at hr'
    obtain ⟨h1, h2⟩ := List.mem_filter.mp hr'
    have h1 := List.mem_range.mp h1
    rw [List.length_map] at h1
    have e := eqv_cl _ _ h2
    rw [List.getD_eq_getElem?_getD, List.getElem?_eq_getElem h1] at e
    rw [List.getElem?_eq_getElem h1]
    exact congrArg some e
  have l1'' := ltk s2 l1'
  have b2 := b1.kd bx (kd_same (T := T) s2)
  have hc2 := dpk s2 hc1
  have t2 := t1.same s2
  have s02 := s1.trans s2
  have hthl : th.length ≤ 5000 := by
    rw [hth]
    refine Nat.le_trans (List.length_filter_le _ _) ?_
    rw [List.length_range, List.length_map]
    omega
  refine t_if (n := 11) t2 (tb_and (n := 0) (m := 11) (tb_pure (bt_test (de_op (de_var rfl l2.dp) (de_le (le_lst da_nil (by decide))) (rd_neP (plain_nats th) (by simp [PyData.plain, PyData.plainAll]) (Nat.le_trans (Nat.min_le_right _ _) (by simp [PyData.depth, PyData.depthAll])))))) fun _ => tb_test (P := fun _ => True) (td_op (n := 11) (m := 0) (td_draw (j := 3) rfl de_int (by decide) (by decide)) (td_pure de_int) (χ := fun d => ∃ b : Bool, d = .bool b) (by
    rintro d e ⟨r, rfl, _, _⟩ rfl
    exact ⟨_, rd_b, _, rfl⟩)) (fun d ⟨b, e⟩ => ⟨b, e, True.intro⟩)) (by omega) (fun hb H3 k3 t3 => ?_) (fun _ H3 k3 t3 => ?_)
  · have hne : th ≠ [] := fun e => by
      rw [e] at hb
      rcases hb with ⟨z, _⟩ | ⟨z, _⟩
      · cases z
      · simp [PyData.eqv, PyData.eqvAll] at z
    obtain ⟨r, hr'⟩ : ∃ r, th.getLast? = some r := ⟨_, List.getLast?_eq_some_getLast hne⟩
    have hrm := hthr r (List.mem_of_getLast? hr')
    refine s_ret (Kd T) (K := K) (de_op (de_var rfl (ltk k3 l2).dp) (de_neg de_int) (rd_ixL (at_last (x := .int (r : Int)) (by rw [List.getLast?_map, hr']; rfl)))) fun v4 H4 s4 h4 => ?_
    cases h4
    have k4 : Kd T H H4 := Edg.trans (Edg.trans (kd_same s02) k3) (kd_same s4)
    refine q r ss cs k H4 hrm (fun e => by rw [e] at hrm; cases hrm) ⟨hrun, hall, List.take_length, List.take_length, Nat.le_add_right _ _⟩ ?_ (b.kd bx k4) ((t3.same s4).more (by show _ ≤ B + ((200 + 2 * gN d : Nat) : Int); omega)) (Kx.of k4)
    have := (List.getElem?_eq_some_iff.mp hrm).1
    omega
  have k03 : Kd T H H3 := Edg.trans (kd_same s02) k3
  have b3 := b.kd bx k03
  have hc3 := dpk k3 hc2
  have l13 := ltk k3 l1''
  -- given, or met
  refine t_if (n := 11) t3 (tb_or (n := 0) (m := 11) (tb_pure (bt_test (de_op (de_var rfl l13.dp) (de_le (le_lst da_nil (by decide))) (rd_eqP (plain_lstr fr) (by simp [PyData.plain, PyData.plainAll]) (Nat.le_trans (Nat.min_le_right _ _) (by simp [PyData.depth, PyData.depthAll])))))) fun _ => tb_or (n := 0) (m := 11) (tb_pure (bt_test (de_op (de_var rfl (.int deep)) de_int rd_b))) fun _ => tb_or (n := 0) (m := 11) (tb_pure (bt_test (de_op (de_dget (k := kLf) rfl (fun H' r => (b3.kd bx r).d) (bkv_L N S C k) (.int k)) de_int rd_b))) fun _ => tb_and (n := 0) (m := 11) (P := fun _ => True) (R := fun _ => True) (fun B H1 g t hB Q q => tb_pure (bt_test (de_op (de_var rfl hc3) (de_tup da_nil (by decide)) (rd_neP (plain_cl c) (by simp [PyData.plain, PyData.plainAll]) (Nat.le_trans (Nat.min_le_right _ _) (by simp [PyData.depth, PyData.depthAll]))))) B H1 g t hB Q fun b H2 k2 t2 _ => q b H2 k2 t2 True.intro) fun _ => tb_test (P := fun _ => True) (td_op (n := 11) (m := 0) (td_draw (j := 5) rfl de_int (by decide) (by decide)) (td_pure de_int) (χ := fun d => ∃ b : Bool, d = .bool b) (by
    rintro d e ⟨r, rfl, _, _⟩ rfl
    exact ⟨_, rd_eqI, _, rfl⟩)) (fun d ⟨b, e⟩ => ⟨b, e, True.intro⟩)) (by omega) (fun _ H4 k4 t4 => ?_) (fun hb H4 k4 t4 => ?_)
  · -- given
    have b4 := b3.kd bx k4
    have hc4 := dpk k4 hc3
    refine s_appG (Kd T) b4.s (fun Q q => at_dget (k := kSt) rfl b4.d (bkv_S N S C k) Q q) (de_tup (da_cons de_str (da_cons (de_var rfl hc4) da_nil)) (Nat.le_of_ble_eq_true rfl)) (by unfold ssD; rw [List.length_map]; omega) (nlA_ss _) (nl_stp (.giv c)) fun H5 s5 o l5 tk => ?_
    have b5 := (b4.kd bx (kd_same (T := T) s5)).app (s := .giv c) bx l5
    have t5 := ((t4.same s5).put (o := o) (ne_T (t4.same s5) (b4.kd bx (kd_same (T := T) s5)).s) bx.sl)
    have k5 : Kx T X S C H (upd H5 S o) := (Kx.of (Edg.trans (Edg.trans k03 k4) (kd_same s5))).trans (Kx.put (.inr (.inl rfl)))
    refine grow_tail (d := d) rfl rfl t5 bx b5 (dp_tk tk _ _ (nl_clD c) (dpk s5 hc4)) gc hcw hrun ?_ hall List.take_length List.take_length (by omega) hlen' fun r ss' cs' k' H' e1 e0 e2 e3 e4 e5 e6 => q r ss' cs' k' H' e1 e0 e2 e3 e4 (e5.more (by show _ ≤ B + ((200 + 2 * gN d : Nat) : Int); omega)) (k5.trans e6)
    show (if clauseB (clD c) = true then some c else none) = some c
    rw [if_pos (good_clause gc)]
  · -- met
    have hd1 : 1 ≤ deep ∧ fr ≠ [] := by
      rcases hb with ⟨z, _⟩ | ⟨z1, z2⟩
      · cases z
      · rcases z2 with ⟨z, _⟩ | ⟨z3, z4⟩
        · cases z
        · refine ⟨?_, fun e => ?_⟩
          · have := of_decide_eq_false (show decide (deep < 1) = false from z3.symm)
            omega
          · rw [e] at z1
            simp [PyData.eqv, PyData.eqvAll] at z1
    have b4 := b3.kd bx k4
    have hc4 := dpk k4 hc3
    have l14 := ltk k4 l13
    have k04 : Kd T H H4 := Edg.trans k03 k4
    refine s_dput (Kd T) (K := K) (k := kLf) rfl b4.d (bkv_len N S C k) (de_op (de_dget (k := kLf) rfl (fun H' r => (b4.kd bx r).d) (bkv_L N S C k) (.int k)) de_int rd_i) fun v5 H5 s5 h5 => ?_
    cases h5
    rw [bkv_put]
    have b45 := b4.kd bx (kd_same (T := T) s5)
    have b5 := b45.put (k' := k - 1)
    have t5 : Tape (upd H5 X (.dK (bkv N S C (k - 1)))) T L (B + 11 + 11) := tape_put (t4.same s5) b45.d bx.xt
    have hc5 : Dp K (upd H5 X (.dK (bkv N S C (k - 1)))) v (clD c) := dp_tk (Tk.putD b45.d) _ _ (nl_clD c) (dpk s5 hc4)
    have l15 : Lt K (upd H5 X (.dK (bkv N S C (k - 1)))) pn (fr.map .str) := lt_putD b45.d (ltk s5 l14) (nl_strs fr)
    have k5 : Kx T X S C H (upd H5 X (.dK (bkv N S C (k - 1)))) := (Kx.of (Edg.trans k04 (kd_same s5))).trans (Kx.put (.inl rfl))
    generalize upd H5 X (.dK (bkv N S C (k - 1))) = H6 at b5 t5 hc5 l15 k5 ⊢
    have hfl : 0 < fr.length := List.length_pos_iff.mpr hd1.2
    have hfl2 : fr.length ≤ 12 := by
      rw [hfr]
      exact Nat.le_trans (List.length_filter_le _ _) hws
    -- the name
    refine t_set (n := 11) t5 (td_op (n := 0) (m := 11) (td_pure (de_var rfl l15.dp)) (td_draw (j := ((fr.map PyData.str).length : Int)) rfl (de_cb (da_cons (de_var rfl l15.dp) da_nil) rc_lenL) (by rw [List.length_map]; omega) (by rw [List.length_map]; exact Nat.lt_of_le_of_lt (show ((fr.length : Nat) : Int).natAbs ≤ 12 by omega) (by decide))) (χ := fun d => ∃ n ∈ fr, d = .str n) (by
      rintro d e rfl ⟨r, rfl, r0, r1⟩
      obtain ⟨y, hy, ey⟩ := at_in (xs := fr.map PyData.str) r0 r1
      obtain ⟨n, hn, rfl⟩ := List.mem_map.mp hy
      exact ⟨.str n, rd_ixL ey, n, hn, rfl⟩)) (by omega) fun vn dn H7 k7 t7 hn7 pn7 => ?_
    obtain ⟨n, hnf, rfl⟩ := pn7
    cases hn7
    obtain ⟨hnw, hnc⟩ := hfw n hnf
    have hc7 := dpk k7 hc5
    -- the ways
    refine t_setL (n := 11 * c.length) t7 (tl_map (n := 11) (xs := c) (enc := litD) (src_tup (de_var (by rfl) hc7)) (by omega) (fun _ => by rfl) (fun _ d => ∃ r : Int, d = .int r ∧ 0 ≤ r ∧ r < 3) (fun l hl w H' r hw => td_draw (j := 3) rfl de_int (by decide) (by decide)) (fun l d ⟨r, e, _⟩ => by rw [e]; rfl)) (by have h132 : 11 * c.length ≤ 132 := (by omega); omega) fun pw ds H8 nw k8 t8 l8 hp => ?_
    obtain ⟨ys, rfl, hyl⟩ := ints_of hp
    have k78 : Kd T H6 H8 := Edg.trans k7 k8
    have hc8 := dpk k8 hc7
    have b8 := b5.kd bx k78
    have k08 : Kx T X S C H H8 := k5.trans (Kx.of k78)
    have wat : ∀ k : Nat, k < c.length → (ys.map PyData.int)[k]? = some (.int (ys.getD k 0)) := fun k hk => by
      rw [List.getElem?_map, List.getElem?_eq_getElem (by omega), List.getD_eq_getElem?_getD, List.getElem?_eq_getElem (by omega)]
      rfl
    have cat : ∀ k : Nat, k < c.length → (c.map litD)[k]? = some (litD (c.getD k (Str.empty, false))) := fun k hk => by
      rw [List.getElem?_map, List.getElem?_eq_getElem hk, List.getD_eq_getElem?_getD, List.getElem?_eq_getElem hk]
      rfl
    have hk_ : ∀ k ∈ List.range (c.map litD).length, k < c.length := fun k hk => by
      have := List.mem_range.mp hk
      rw [List.length_map] at this
      exact this
    have pe : ∀ p : Nat → Bool, ((List.range (c.map litD).length).filter p).map (fun k => litD (c.getD k (Str.empty, false))) = (pick c p).map litD := fun p => by
      unfold pick
      rw [List.map_map, List.length_map]
      rfl
    have pl : ∀ p : Nat → Bool, (pick c p).length ≤ 12 := fun p => Nat.le_trans (pick_sub c p).length_le hcl
    -- the one
    refine s_setL Same (K := K) (le_is (le_cat (le_lc (R := Same) (xs := List.range (c.map litD).length) (enc := fun k : Nat => PyData.int (k : Int)) (f := fun k : Nat => litD (c.getD k (Str.empty, false))) (cnd := fun k => decide (ys.getD k 0 < 2)) (src_r1 (da_cons (de_cb (da_cons (de_var (by rfl) hc8) da_nil) rc_lenT) da_nil) (by rw [List.length_map]; omega)) (by rw [List.length_range, List.length_map]; omega) (fun _ => by rfl) (fun k hk w H' r hw => ⟨bt_test (de_op (de_op (de_var rfl (ltk r l8).dp) (de_var rfl hw) (rd_ixL (at_nat (wat k (hk_ k hk))))) de_int rd_b), fun _ => de_op (de_var rfl (dpk r hc8)) (de_var rfl hw) (rd_ixT (at_nat (cat k (hk_ k hk))))⟩) (fun _ _ _ => rfl)) (le_lst (da_cons (de_tup (da_cons (de_var (by rfl) (.str n)) (da_cons de_bl da_nil)) (Nat.le_of_ble_eq_true rfl)) da_nil) (Nat.le_of_ble_eq_true rfl)) (by rw [pe, List.length_map]; have h12 := pl (fun k => decide (ys.getD k 0 < 2)); simp only [List.length_cons, List.length_nil]; omega)) (es := (pick c (fun k => decide (ys.getD k 0 < 2)) ++ [(n, true)]).map litD) (by rw [pe, List.map_append]; rfl)) fun po H9 no s9 l9 => ?_
    -- the other
    have hc9 := dpk s9 hc8
    have l89 := ltk s9 l8
    refine s_setL Same (K := K) (le_is (le_cat (le_lc (R := Same) (xs := List.range (c.map litD).length) (enc := fun k : Nat => PyData.int (k : Int)) (f := fun k : Nat => litD (c.getD k (Str.empty, false))) (cnd := fun k => decide (ys.getD k 0 > 0)) (src_r1 (da_cons (de_cb (da_cons (de_var (by rfl) hc9) da_nil) rc_lenT) da_nil) (by rw [List.length_map]; omega)) (by rw [List.length_range, List.length_map]; omega) (fun _ => by rfl) (fun k hk w H' r hw => ⟨bt_test (de_op (de_op (de_var rfl (ltk r l89).dp) (de_var rfl hw) (rd_ixL (at_nat (wat k (hk_ k hk))))) de_int rd_b), fun _ => de_op (de_var rfl (dpk r hc9)) (de_var rfl hw) (rd_ixT (at_nat (cat k (hk_ k hk))))⟩) (fun _ _ _ => rfl)) (le_lst (da_cons (de_tup (da_cons (de_var (by rfl) (.str n)) (da_cons de_bl da_nil)) (Nat.le_of_ble_eq_true rfl)) da_nil) (Nat.le_of_ble_eq_true rfl)) (by rw [pe, List.length_map]; have h12 := pl (fun k => decide (ys.getD k 0 > 0)); simp only [List.length_cons, List.length_nil]; omega)) (es := (pick c (fun k => decide (ys.getD k 0 > 0)) ++ [(n, false)]).map litD) (by rw [pe, List.map_append]; rfl)) fun pr Ha nr sa la => ?_
    have s8a := s9.trans sa
    have b_a := b8.kd bx (kd_same (T := T) s8a)
    have t_a := t8.same s8a
    have k0a : Kx T X S C H Ha := k08.trans (Kx.of (kd_same s8a))
    have hca := dpk sa hc9
    have l9a := ltk sa l9
    have prS : pr ≠ S := fun z => by
      obtain ⟨vs, e⟩ := lt_lst (b8.kd bx (kd_same (T := T) s9)).s
      rw [← z, nr] at e
      cases e
    have prC : pr ≠ C := fun z => by
      obtain ⟨vs, e⟩ := lt_lst (b8.kd bx (kd_same (T := T) s9)).c
      rw [← z, nr] at e
      cases e
    generalize hA : pick c (fun k => decide (ys.getD k 0 < 2)) = A at l9a l9
    generalize hBB : pick c (fun k => decide (ys.getD k 0 > 0)) = A' at la
    have subA : A.Sublist c := by rw [← hA]; exact pick_sub _ _
    have subB : A'.Sublist c := by rw [← hBB]; exact pick_sub _ _
    have cov : ∀ l ∈ c, l ∈ A ∨ l ∈ A' := by
      rw [← hA, ← hBB]
      refine pick_or c _ _ fun k _ => ?_
      by_cases h : ys.getD k 0 < 2
      · exact .inl (decide_eq_true h)
      · exact .inr (decide_eq_true (show ys.getD k 0 > 0 by omega))
    have g1 := grow_good (b := true) gc hnc (nms.nm n hnw) subA
    have g2 := grow_good (b := false) gc hnc (nms.nm n hnw) subB
    have wA : ∀ (A : Cl) (b : Bool), A.Sublist c → ∀ l ∈ srtL (A ++ [(n, b)]), l.1 ∈ ws := fun A b hs l hl => by
      rcases List.mem_append.mp (mem_srt.mp hl) with h | h
      · exact hcw l (hs.subset h)
      · rw [List.mem_singleton.mp h]
        exact hnw
    -- the first call
    refine s_call4 (K := K) rfl rfl (de_tsort (de_var rfl l9a.dp)) (de_op (de_var rfl (.int deep)) de_int rd_i) fun v1 v2 Hb sb hv1 hv2 => ?_
    cases hv2
    have h132 : 11 * c.length ≤ 132 := by omega
    refine ⟨T, L, X, N, S, C, _, v1, _, deep - 1, ws, ss, cs, k - 1, rfl, t_a.same sb, by omega, bx, b_a.kd bx (kd_same (T := T) sb), hv1, g1, wA A true subA, nms, hws, by omega, by omega, hrun, hall, by omega, fun r1 ss1 cs1 k1 Hc e1 _ x1 p1 bc tc kc => ?_⟩
    have b_b := b_a.kd bx (kd_same (T := T) sb)
    have t_b := t_a.same sb
    have lac : Lt K Hc pr ((A' ++ [(n, false)]).map litD) := kc.lt t_b b_b (ltk sb la) prS prC (nl_lits _)
    have hcc : Dp K Hc v (clD c) := dp_tk (kc.tk t_b b_b) _ _ (nl_clD c) (dpk sb hca)
    have k0c : Kx T X S C H Hc := (k0a.trans (Kx.of (kd_same sb))).trans kc
    have x1l := x1.len
    -- the second call
    refine s_call4 (K := K) rfl rfl (de_tsort (de_var rfl lac.dp)) (de_op (de_var rfl (.int deep)) de_int rd_i) fun v3 v4 Hd sd hv3 hv4 => ?_
    cases hv4
    refine ⟨T, L, X, N, S, C, _, v3, _, deep - 1, ws, ss1, cs1, k1, rfl, tc.same sd, by omega, bx, bc.kd bx (kd_same (T := T) sd), hv3, g2, wA A' false subB, nms, hws, by omega, by omega, x1.run, x1.all, by omega, fun r2 ss2 cs2 k2 He e2 _ x2 p2 be te ke => ?_⟩
    have b_d := bc.kd bx (kd_same (T := T) sd)
    have t_d := tc.same sd
    have hce : Dp K He v (clD c) := dp_tk (ke.tk t_d b_d) _ _ (nl_clD c) (dpk sd hcc)
    have k0e : Kx T X S C H He := (k0c.trans (Kx.of (kd_same sd))).trans ke
    have x2l := x2.len
    -- the step
    refine s_appG (Kd T) be.s (fun Q q => at_dget (k := kSt) rfl be.d (bkv_S N S C k2) Q q) (de_tup (da_cons de_str (da_cons (de_var rfl (.int (r1 : Int))) (da_cons (de_var rfl (.int (r2 : Int))) (da_cons (de_var rfl (.str n)) da_nil)))) (Nat.le_of_ble_eq_true rfl)) (by unfold ssD; rw [List.length_map]; omega) (nlA_ss _) (nl_stp (.met r1 r2 n)) fun Hf sf o lf tk => ?_
    have bf := (be.kd bx (kd_same (T := T) sf)).app (s := .met r1 r2 n) bx lf
    have tf := ((te.same sf).put (o := o) (ne_T (te.same sf) (be.kd bx (kd_same (T := T) sf)).s) bx.sl)
    have kf : Kx T X S C H (upd Hf S o) := (k0e.trans (Kx.of (kd_same sf))).trans (Kx.put (.inr (.inl rfl)))
    refine grow_tail (d := d) rfl rfl tf bx bf (dp_tk tk _ _ (nl_clD c) (dpk sf hce)) gc hcw x2.run ?_ x2.all (take_take x1.pc x2.pc) (take_take x1.ps x2.ps) (by omega) hlen' fun r ss' cs' k' H' z1 z0 z2 z3 z4 z5 z6 => q r ss' cs' k' H' z1 z0 z2 z3 z4 (z5.more (by show _ ≤ B + ((200 + 2 * gN d : Nat) : Int); omega)) (kf.trans z6)
    show (match cs2[r1]?, cs2[r2]? with
      | some a, some b => meet a b n
      | _, _ => none) = some c
    rw [take_get x2.pc e1, e2]
    exact meet_grow gc.ris hnc (fun l h => subA.subset h) (fun l h => subB.subset h) cov
theorem no_grown (k : Nat) : FnOk P w K mg base CX0 k f fd ["_law_tape_here", "_law_box", "_law_clause_here", "_law_deep"] (spGrown K 0) := by
  have no : ∀ vs H Q E, ¬ spGrown K 0 vs H Q E := fun vs H Q E h => by
    obtain ⟨T, L, X, N, S, C, B, v, c, deep, ws, ss, cs, k, _, _, _, _, _, _, _, _, _, _, h0, h1, _⟩ := h
    have h2 : deep < 0 := h1
    omega
  exact ⟨fun vs H Q E h => absurd h (no vs H Q E), fun A outer s H args us vs Q E _ _ _ _ h => absurd h (no vs H Q E)⟩
theorem all_grown (F : FnP K "_law_grown" sGn f fd) (T0 : Gr P w K mg base fD f dD fd) : ∀ d : Nat, FnOk P w K mg base CX0 (d + 12) f fd ["_law_tape_here", "_law_box", "_law_clause_here", "_law_deep"] (spGrown K d)
  | 0 => no_grown _
  | d + 1 => ok_grown F (all_grown F T0 d) T0
end
end My

set_option maxRecDepth 100000
set_option maxHeartbeats 4000000
namespace My
open PySem PySem.Spec PyProof.Rows L2 Dl
abbrev sCh : Stmt := top 37
abbrev sPd : Stmt := top 38
theorem scCh : FnScope ["_law_tape_here", "_law_names", "_law_clause_here", "_law_left", "_law_deep", "_law_box"] ["_law_tape_here", "_law_names", "_law_clause_here", "_law_left", "_law_deep"] (defScope sCh) := ⟨rfl, rfl, rfl, by decide +kernel, rfl, by decide +kernel, by decide +kernel⟩
theorem scPd : FnScope ["_law_tape_here", "_law_steps", "_law_clauses", "_law_names", "_law_found", "_law_behind", "_law_places", "_law_step", "_law_clause_here", "_law_k", "_law_more"] ["_law_tape_here", "_law_steps", "_law_clauses", "_law_names"] (defScope sPd) := ⟨rfl, rfl, rfl, by decide +kernel, rfl, by decide +kernel, by decide +kernel⟩
structure Cn (P : Program) (w : World) (K : PySem.W.Frag) (mg : Str → Option Value) (base : Heap) (fD fC fG : Addr) (dD dC dG : FuncData) : Prop where
  GD : FnOk P w K mg base CX0 11 fD dD ["_law_tape_here", "_law_many"] (spDraw 11)
  gD : mg "_law_draw" = some (.ref fD)
  kD : PySem.W.keepIn K (.ref fD) = true
  bD : Binds K dD ["_law_tape_here", "_law_many"] []
  GC : FnOk P w K mg base CX0 12 fC dC ["_law_tape_here", "_law_names", "_law_few"] (spT K 300 GLClause)
  gC : mg "_law_clause" = some (.ref fC)
  kC : PySem.W.keepIn K (.ref fC) = true
  bC : Binds K dC ["_law_tape_here", "_law_names", "_law_few"] []
  gG : mg "_law_grown" = some (.ref fG)
  kG : PySem.W.keepIn K (.ref fG) = true
  bG : Binds K dG ["_law_tape_here", "_law_box", "_law_clause_here", "_law_deep"] []
  mrange : mg "range" = none
  mlen : mg "len" = none
  mzip : mg "zip" = none
  mmax : mg "max" = none
/-- steps and clauses told: a tuple of two lists -/
def scD (ss : List Stp) (cs : List Cl) : PD := .tuple [.list (ssD ss), .list (cs.map clD)]
structure Chd (ws : List Str) (c : Cl) (D : Nat) (ss : List Stp) (cs : List Cl) : Prop where
  run : Runs ss cs
  all : AllG ws cs
  pos : 0 < ss.length
  len : ss.length ≤ gS D
  last : cs.getLast? = some c
def spLChain (K : PySem.W.Frag) (D : Nat) : Sp := fun vs H Q _ => ∃ (T L N : Addr) (B : Int) (vc : V) (ws : List Str) (c : Cl) (left deep : Int), vs = [.ref T, .ref N, vc, .int left, .int deep] ∧ Tape H T L B ∧ B + gN D ≤ 1000000 ∧ H N = some (.lst (ws.map V.str)) ∧ Dp K H vc (clD c) ∧ Nms ws ∧ ws.length ≤ 12 ∧ GoodC c ∧ (∀ l ∈ c, l.1 ∈ ws) ∧ 0 ≤ deep ∧ deep < (D : Int) ∧
  ∀ v H' ss cs, Kd T H H' → Tape H' T L (B + gN D) → Dp K H' v (scD ss cs) → Chd ws c D ss cs → Q v H'
section
variable {P : Program} {w : World} {K : PySem.W.Frag} {mg : Str → Option Value} {base : Heap} {f fD fC fG : Addr} {fd dD dC dG : FuncData}
theorem ok_lchain {D : Nat} (hD : gS D ≤ 5000) (F : FnP K "_law_chain" sCh f fd) (GG : FnOk P w K mg base CX0 (D + 12) fG dG ["_law_tape_here", "_law_box", "_law_clause_here", "_law_deep"] (spGrown K D)) (T0 : Cn P w K mg base fD fC fG dD dC dG) : FnOk P w K mg base CX0 (D + 13) f fd ["_law_tape_here", "_law_names", "_law_clause_here", "_law_left", "_law_deep"] (spLChain K D) := by
  refine F.ok scCh (fun vs H Q E h => ?_) (fun cdv A outer s H vs Q E hr h => ?_)
  · obtain ⟨T, L, N, B, vc, ws, c, left, deep, rfl, _⟩ := h
    rfl
  obtain ⟨T, L, N, B, vc, ws, c, left, deep, rfl, t, hB, eN, hc, nms, hws, gc, hcw, hd0, hdd, q⟩ := h
  have hu := hu_of hr
  have hrg : Room (D + 12) _ := hr
  refine ⟨_, PSs.nox (pss_cons (ps_set (i := 5) scCh.nd rfl (Or.inl rfl) (pe_disp (pps_cons pe_str (pv 1) (pps_cons pe_str (pe_lst pa_nil) (pps_cons pe_str (pe_lst pa_nil) (pps_cons pe_str (pv 3) pps_nil)))) (by rfl) (by rfl) (fun z => by cases z) (by decide)))
 (pss_cons (ps_expr (pe_call GG hrg (by rfl) T0.gG T0.kG T0.bG .nil pass0 (pa_cons (pv 0) (pa_cons (pv 5) (pa_cons (pv 2) (pa_cons (pv 4) pa_nil))))))
 (pss_one (ps_ret (pe_tup (pa_cons (pe_dget hu (pv 5) pe_str (fun _ _ => rfl)) (pa_cons (pe_dget hu (pv 5) pe_str (fun _ _ => rfl)) pa_nil))))))), ?_⟩
  refine fun X nX => ⟨_, rfl, (by show 0 ≤ sizeLine; decide), fun S nS => ⟨(by show 0 ≤ sizeLine; decide), fun C nC => ⟨_, rfl, ?_⟩⟩⟩
  have nXS : X ≠ S := fun z => by rw [← z, upd_same] at nS; cases nS
  have nXC : X ≠ C := fun z => by rw [← z, upd_ne nXS, upd_same] at nC; cases nC
  have nSC : S ≠ C := fun z => by rw [← z, upd_same] at nC; cases nC
  have nS0 : H S = none := by rw [upd_ne nXS.symm] at nS; exact nS
  have nC0 : H C = none := by rw [upd_ne nSC.symm, upd_ne nXC.symm] at nC; exact nC
  refine ⟨?_, bkv N S C left, rfl, (by show 4 ≤ 15; decide), ?_⟩
  · rw [upd_ne nXC, upd_ne nXS, upd_same]
  obtain ⟨H1, eH1⟩ : ∃ H1, H1 = upd (upd (upd (upd H X (.dK [])) S (.lst [])) C (.lst [])) X (.dK (bkv N S C left)) := ⟨_, rfl⟩
  have sH : Same H H1 := fun b o h => by
    rw [eH1, upd_ne (ne_of_none h nX), upd_ne (ne_of_none h nC0), upd_ne (ne_of_none h nS0), upd_ne (ne_of_none h nX)]
    exact h
  have eX : H1 X = some (.dK (bkv N S C left)) := by rw [eH1, upd_same]
  have eS : H1 S = some (.lst []) := by rw [eH1, upd_ne nXS.symm, upd_ne nSC, upd_same]
  have eC : H1 C = some (.lst []) := by rw [eH1, upd_ne nXC.symm, upd_same]
  have eM : mergeK [] (bkv N S C left) = bkv N S C left := rfl
  rw [eM, ← eH1]
  clear eH1
  have nNS : N ≠ S := ne_of_none eN nS0
  have nNC : N ≠ C := ne_of_none eN nC0
  have nXT : X ≠ T := t.nT nX
  have bx : Bx T L X N S C := ⟨nXT, nNS, nNC, nSC, t.nL nS0, t.nL nC0⟩
  have b1 : Box K H1 X N S C ws [] [] left := ⟨eX, SqL.of (sH _ _ eN), ⟨[], eS, .nil⟩, ⟨[], eC, .nil⟩⟩
  refine ⟨_, rfl, _, rfl, _, rfl, _, rfl, T, L, X, N, S, C, B, vc, c, deep, ws, [], [], left, rfl, t.same sH, hB, bx, b1, dpk sH hc, gc, hcw, nms, hws, hd0, hdd, runs_nil, ⟨fun c h => (by cases h), fun c h => (by cases h)⟩, (by simpa using hD), fun r ss' cs' k' H2 e1 e0 x p b2 t2 k2 => ?_⟩
  have k02 : Kd T H H2 := fun b o h n => k2 b o (sH b o h) (fun z => by
    obtain ⟨ns, s, l, a, _⟩ := t
    rw [z, a.d] at h
    exact n z _ (Option.some.inj h).symm) (ne_of_none h nX) (ne_of_none h nS0) (ne_of_none h nC0)
  have el : cs'.getLast? = some c := by
    have e0' := e0 rfl
    rw [List.getLast?_eq_getElem?, ← e1]
    congr 1
    omega
  have xl := x.len
  refine s_ret (Kd T) (de_tup (da_cons (de_dget (k := kSt) rfl (fun H' r => (b2.kd bx r).d) (bkv_S N S C k') b2.s.dp) (da_cons (de_dget (k := kCl) rfl (fun H' r => (b2.kd bx r).d) (bkv_C N S C k') b2.c.dp) da_nil)) (Nat.le_of_ble_eq_true rfl)) fun v H3 s3 h3 => ?_
  exact q v H3 ss' cs' (Edg.trans k02 (kd_same s3)) (t2.same s3) h3 ⟨x.run, x.all, p, by simpa using xl, el⟩
/-! ### padded -/
theorem srcV_zip {σ : L2.St} {H0 : Hp} {i j : Nat} {v u : V} {ds es : List PD} (h : σ[i]? = some (some v)) (h' : σ[j]? = some (some u)) (hd : Dp K H0 v (.list ds)) (he : Dp K H0 u (.list es)) : SrcV K (iZip K (tCons (tVar i) (tCons (tVar j) tNil))) σ H0 ((ds.zip es).map fun p => .tuple [p.1, p.2]) := fun H1 R _ g Q q => by
  obtain ⟨a, xs, rfl, hs, ha⟩ := dp_lstI hd
  obtain ⟨b, ys, rfl, hs2, hb⟩ := dp_lstI he
  refine ⟨_, h, _, h', a, b, xs, ys, rfl, Edg.l g hs, Edg.l g hs2, q _ (fun H => SqL K H a xs ∧ SqL K H b ys) (fun R' _ H' r => ⟨Edg.l r hs, Edg.l r hs2⟩) ?_⟩
  have e : ((ds.zip es).map fun p => PyData.tuple [p.1, p.2]).length = min xs.length ys.length := by rw [List.length_map, List.length_zip, dpa_len ha, dpa_len hb]
  refine (walk_zip e).mono (fun _ h => h) fun i H x H' hi _ ⟨T, u, w, e1, e2, e3, e4, e5⟩ => ?_
  subst e1 e3
  refine ⟨same_newD e2 _, fun R' _ r => ?_⟩
  obtain ⟨d, q1, hd⟩ := dpa_get' ha e4
  obtain ⟨d', q2, hd'⟩ := dpa_get' hb e5
  refine ⟨.tuple [d, d'], ?_, .tup (SqT.of upd_same) (.cons (dpk (same_newD e2 _) (dpk r hd)) (.cons (dpk (same_newD e2 _) (dpk r hd')) .nil))⟩
  rw [List.getElem?_map, (List.getElem?_zip_eq_some (z := (d, d'))).mpr ⟨q1, q2⟩]
  rfl
def natsD (ps : List Nat) : List PD := ps.map fun k : Nat => .int (k : Int)
/-- the steps told anew so far: fs, their clauses bs, where each old one stands -/
structure Pad (ws : List Str) (cs : List Cl) (i : Nat) (fs : List Stp) (bs : List Cl) (ps : List Nat) : Prop where
  run : Runs fs bs
  all : AllG ws bs
  plen : ps.length = i
  at_ : ∀ k p : Nat, ps[k]? = some p → p < bs.length ∧ bs[p]? = cs[k]?
theorem Pad.more {ws : List Str} {cs : List Cl} {i : Nat} {fs : List Stp} {bs : List Cl} {ps : List Nat} {c : Cl} (h : Pad ws cs i fs bs ps) (g : GoodC c) (n : ∀ l ∈ c, l.1 ∈ ws) : Pad ws cs i (fs ++ [.giv c]) (bs ++ [c]) ps := by
  refine ⟨runs_snoc h.run ?_, ⟨fun y hy => ?_, fun y hy => ?_⟩, h.plen, fun k p e => ?_⟩
  · show (if clauseB (clD c) = true then some c else none) = some c
    rw [if_pos (good_clause g)]
  · rcases List.mem_append.mp hy with h2 | h2
    · exact h.all.g y h2
    · rw [List.mem_singleton.mp h2]; exact g
  · rcases List.mem_append.mp hy with h2 | h2
    · exact h.all.n y h2
    · rw [List.mem_singleton.mp h2]; exact n
  · obtain ⟨h1, h2⟩ := h.at_ k p e
    exact ⟨by rw [List.length_append]; omega, by rw [List.getElem?_append_left h1, h2]⟩
def renum (ps : List Nat) : Stp → Stp
  | .giv c => .giv c
  | .met i j n => .met (ps.getD i 0) (ps.getD j 0) n
theorem runs_at {ss : List Stp} {cs : List Cl} {i : Nat} {s : Stp} {c : Cl} (r : Runs ss cs) (es : ss[i]? = some s) (ec : cs[i]? = some c) : stepC s (cs.take i) = some c := by
  have h1 := runs_pre r (i + 1)
  have h2 := runs_pre r i
  unfold Runs ssD at h1 h2
  rw [List.take_add_one, es] at h1
  have h3 : runO ((ss.take i ++ [s]).map Stp.d) = some (cs.take (i + 1)) := h1
  rw [List.map_append, runO_app, h2] at h3
  have h4 : (runF (cs.take i) s.d).bind (fun cls => some cls) = some (cs.take (i + 1)) := h3
  unfold runF at h4
  rw [stepO_d] at h4
  cases e : stepC s (cs.take i) with
  | none => rw [e] at h4; cases h4
  | some c' =>
    rw [e] at h4
    have h5 : cs.take i ++ [c'] = cs.take (i + 1) := Option.some.inj h4
    rw [List.take_add_one, ec] at h5
    have h6 := List.append_cancel_left h5
    exact congrArg some (List.cons.inj (show [c'] = [c] from h6)).1
theorem Pad.next {ws : List Str} {ss : List Stp} {cs : List Cl} {i : Nat} {fs : List Stp} {bs : List Cl} {ps : List Nat} {s : Stp} {c : Cl} (h : Pad ws cs i fs bs ps) (r : Runs ss cs) (all : AllG ws cs) (es : ss[i]? = some s) (ec : cs[i]? = some c) : Pad ws cs (i + 1) (fs ++ [renum ps s]) (bs ++ [c]) (ps ++ [bs.length]) := by
  have hm := List.mem_of_getElem? ec
  have hrl := runs_len r
  have hi := (List.getElem?_eq_some_iff.mp ec).1
  have st : stepC s (cs.take i) = some c := runs_at r es ec
  have st2 : stepC (renum ps s) bs = some c := by
    cases s with
    | giv e => exact st
    | met a b n =>
      have st' : (match (cs.take i)[a]?, (cs.take i)[b]? with
        | some x, some y => meet x y n
        | _, _ => none) = some c := st
      show (match bs[ps.getD a 0]?, bs[ps.getD b 0]? with
        | some x, some y => meet x y n
        | _, _ => none) = some c
      have key : ∀ k x, (cs.take i)[k]? = some x → bs[ps.getD k 0]? = some x := fun k x e => by
        have hk : k < i := by
          have := (List.getElem?_eq_some_iff.mp e).1
          rw [List.length_take] at this
          omega
        have hp : ps[k]? = some (ps.getD k 0) := by
          rw [List.getD_eq_getElem?_getD, List.getElem?_eq_getElem (by rw [h.plen]; exact hk)]
          rfl
        rw [(h.at_ k _ hp).2]
        rw [List.getElem?_take, if_pos hk] at e
        exact e
      cases ea : (cs.take i)[a]? with
      | none => rw [ea] at st'; cases st'
      | some x =>
        cases eb : (cs.take i)[b]? with
        | none => rw [ea, eb] at st'; cases st'
        | some y =>
          rw [ea, eb] at st'
          rw [key a x ea, key b y eb]
          exact st'
  refine ⟨runs_snoc h.run st2, ⟨fun y hy => ?_, fun y hy => ?_⟩, by rw [List.length_append, h.plen]; rfl, fun k p e => ?_⟩
  · rcases List.mem_append.mp hy with h2 | h2
    · exact h.all.g y h2
    · rw [List.mem_singleton.mp h2]; exact all.g c hm
  · rcases List.mem_append.mp hy with h2 | h2
    · exact h.all.n y h2
    · rw [List.mem_singleton.mp h2]; exact all.n c hm
  · rw [List.length_append]
    by_cases hk : k < ps.length
    · rw [List.getElem?_append_left hk] at e
      obtain ⟨h1, h2⟩ := h.at_ k p e
      exact ⟨by omega, by rw [List.getElem?_append_left h1, h2]⟩
    · rw [List.getElem?_append_right (by omega)] at e
      have h0 : k - ps.length = 0 := by
        have := (List.getElem?_eq_some_iff.mp e).1
        simp only [List.length_cons, List.length_nil] at this
        omega
      rw [h0] at e
      have ep : bs.length = p := Option.some.inj e
      have ek : k = i := by have := h.plen; omega
      refine ⟨by rw [← ep]; exact Nat.lt_succ_self _, ?_⟩
      rw [← ep, List.getElem?_append_right (Nat.le_refl _), Nat.sub_self, ek, ec]
      rfl
def GPad (ds : List PD) (φ : PD → Prop) : Prop := ∃ (ws : List Str) (ss : List Stp) (cs : List Cl), ds = [.list (ssD ss), .list (cs.map clD), .list (ws.map .str)] ∧ Nms ws ∧ ws.length ≤ 12 ∧ Runs ss cs ∧ AllG ws cs ∧ ss.length ≤ 200 ∧ 0 < ss.length ∧
  φ = fun d => ∃ fs bs, d = scD fs bs ∧ Runs fs bs ∧ AllG ws bs ∧ fs.length ≤ 2 * ss.length ∧ 0 < fs.length ∧ bs.getLast? = cs.getLast?
theorem ok_padded (F : FnP K "_law_padded" sPd f fd) (T0 : Cn P w K mg base fD fC fG dD dC dG) : FnOk P w K mg base CX0 13 f fd ["_law_tape_here", "_law_steps", "_law_clauses", "_law_names"] (spT K 70000 GPad) := by
  refine F.ok scPd (fun vs H Q E h => ?_) (fun cdv A outer s H vs Q E hr h => ?_)
  · obtain ⟨T, L, B, us, ds, φ, rfl, _, _, hu, ⟨ws, ss, cs, rfl, _⟩, _⟩ := h
    have := dpa_len hu
    show us.length + 1 = 4
    rw [this]
    rfl
  obtain ⟨T, L, B, us, ds, φ, rfl, t, hB, hus, ⟨ws, ss, cs, rfl, nms, hws, hrun, hall, hlen, hpos, rfl⟩, q⟩ := h
  cases hus with
  | @cons vs_ _ _ _ h1 hus =>
  cases hus with
  | @cons vc _ _ _ h2 hus =>
  cases hus with
  | @cons vn _ _ _ h3 hus =>
  cases hus
  have hu := hu_of hr
  have hu64 := hr.units
  have hr12 : Room 12 _ := hr
  have hr11 : Room 11 _ := hr.mono (by omega)
  have hrl := runs_len hrun
  refine ⟨_, PSs.nox (pss_cons (ps_set (i := 4) scPd.nd rfl (Or.inl rfl) (pe_lst pa_nil))
 (pss_cons (ps_set (i := 5) scPd.nd rfl (Or.inl rfl) (pe_lst pa_nil))
 (pss_cons (ps_set (i := 6) scPd.nd rfl (Or.inl rfl) (pe_lst pa_nil))
 (pss_cons (ps_for PassesOwn.never rfl (pi_zip (by rfl) T0.mzip (pa_cons (pv 1) (pa_cons (pv 2) pa_nil))) (pg_tup (by rfl) (pgs_cons (pg_name (i := 7) scPd.nd rfl (Or.inl rfl)) (pgs_cons (pg_name (i := 8) scPd.nd rfl (Or.inl rfl)) pgs_nil)))
 (pss_cons (ps_for PassesOwn.never rfl (pi_range1 (by rfl) T0.mrange (pa_cons (pe_callB (call_max2 rfl) (by rfl) T0.mmax (by decide +kernel) (pa_cons pe_int (pa_cons (pe_op op_sub (pe_call T0.GD hr11 (by rfl) T0.gD T0.kD T0.bD .nil pass0 (pa_cons (pv 0) (pa_cons pe_int pa_nil))) pe_int) pa_nil))) pa_nil)) (pg_name (i := 9) scPd.nd rfl (Or.inl rfl))
 (pss_cons (ps_set (i := 10) scPd.nd rfl (Or.inl rfl) (pe_ix ix_list (pe_lst (pa_cons (pe_tup (pa_cons pe_str (pa_cons (pv 8) pa_nil))) (pa_cons (pe_tup (pa_cons pe_str (pa_cons (pe_call T0.GC hr12 (by rfl) T0.gC T0.kC T0.bC .nil pass0 (pa_cons (pv 0) (pa_cons (pv 3) (pa_cons pe_int pa_nil)))) pa_nil))) pa_nil))) (pe_call T0.GD hr11 (by rfl) T0.gD T0.kD T0.bD .nil pass0 (pa_cons (pv 0) (pa_cons pe_int pa_nil))) (fun _ _ => rfl)))
 (pss_cons (ps_expr (pe_bm PySem.F.plainAttrs_list PySem.F.slot_list_append PySem.F.type_list_append mt_append (pv 4) (pa_cons (pv 10) pa_nil)))
 (pss_one (ps_expr (pe_bm PySem.F.plainAttrs_list PySem.F.slot_list_append PySem.F.type_list_append mt_append (pv 5) (pa_cons (pe_ix ix_tup (pv 10) pe_int (fun _ _ => rfl)) pa_nil)))))))
 (pss_cons (ps_expr (pe_bm PySem.F.plainAttrs_list PySem.F.slot_list_append PySem.F.type_list_append mt_append (pv 4) (pa_cons (pe_ifExp (pt_cmpR op_eq (pe_ix ix_tup (pv 7) pe_int (fun _ _ => rfl)) pe_str (nomark _)) (pv 7) (pe_tup (pa_cons pe_str (pa_cons (pe_ix ix_list (pv 6) (pe_ix ix_tup (pv 7) pe_int (fun _ _ => rfl)) (fun _ _ => rfl)) (pa_cons (pe_ix ix_list (pv 6) (pe_ix ix_tup (pv 7) pe_int (fun _ _ => rfl)) (fun _ _ => rfl)) (pa_cons (pe_ix ix_tup (pv 7) pe_int (fun _ _ => rfl)) pa_nil)))))) pa_nil)))
 (pss_cons (ps_expr (pe_bm PySem.F.plainAttrs_list PySem.F.slot_list_append PySem.F.type_list_append mt_append (pv 5) (pa_cons (pv 8) pa_nil)))
 (pss_one (ps_expr (pe_bm PySem.F.plainAttrs_list PySem.F.slot_list_append PySem.F.type_list_append mt_append (pv 6) (pa_cons (pe_op op_sub (pe_callB call_len_seq (by rfl) T0.mlen PySem.boot_len (pa_cons (pv 4) pa_nil)) pe_int) pa_nil))))))))
 (pss_one (ps_ret (pe_tup (pa_cons (pv 4) (pa_cons (pv 5) pa_nil))))))))), ?_⟩
  refine s_setL (Kd T) (K := K) (le_lst da_nil (by decide)) fun pf H1 n1 s1 l1 => ?_
  refine s_setL (Kd T) (K := K) (le_lst da_nil (by decide)) fun pb H2 n2 s2 l2 => ?_
  refine s_setL (Kd T) (K := K) (le_lst da_nil (by decide)) fun pp H3 n3 s3 l3 => ?_
  have s13 := (s1.trans s2).trans s3
  have nf : H pf = none := n1
  have nb : H pb = none := s1.free n2
  have np : H pp = none := (s1.trans s2).free n3
  have fb : pf ≠ pb := fun e => by
    obtain ⟨vs, ev⟩ := lt_lst l1
    rw [e, n2] at ev
    cases ev
  have fp : pf ≠ pp := fun e => by
    obtain ⟨vs, ev⟩ := lt_lst (ltk s2 l1)
    rw [e, n3] at ev
    cases ev
  have bp : pb ≠ pp := fun e => by
    obtain ⟨vs, ev⟩ := lt_lst l2
    rw [e, n3] at ev
    cases ev
  have fL := t.nL nf
  have bL := t.nL nb
  have pL := t.nL np
  have t3 := t.same s13
  have k3 : Kd T H H3 := kd_same s13
  have hsrc : ∀ σ : L2.St, σ[1]? = some (some vs_) → σ[2]? = some (some vc) → SrcV K (iZip K (tCons (tVar 1) (tCons (tVar 2) tNil))) σ H ((ss.zip cs).map fun x => .tuple [x.1.d, clD x.2]) := fun σ e1 e2 => by
    have e : (ss.zip cs).map (fun x => PyData.tuple [x.1.d, clD x.2]) = ((ssD ss).zip (cs.map clD)).map fun p => PyData.tuple [p.1, p.2] := by
      unfold ssD
      rw [List.zip_map, List.map_map]
      rfl
    rw [e]
    exact srcV_zip e1 e2 h1 h2
  refine s_forV2 (Kd T) (Kd T) (K := K) (H0 := H) (xs := ss.zip cs) (e1 := fun p => p.1.d) (e2 := fun p => clD p.2) k3 (hsrc _ (by rfl) (by rfl)) (fun i σ' H' => ∃ fs bs ps u1 u2 u3 u4, Pad ws cs i fs bs ps ∧ fs.length ≤ 2 * i ∧ (0 < i → bs.getLast? = cs[i - 1]?) ∧ Lt K H' pf (ssD fs) ∧ Lt K H' pb (bs.map clD) ∧ Lt K H' pp (natsD ps) ∧ Tape H' T L (B + 330 * i) ∧ Kd T H H' ∧ σ' = [some (.ref T), some vs_, some vc, some vn, some (.ref pf), some (.ref pb), some (.ref pp), u1, u2, u3, u4]) ?_ ?_ ?_ ?_
  · exact ⟨[], [], [], none, none, none, none, ⟨runs_nil, ⟨fun c h => (by cases h), fun c h => (by cases h)⟩, rfl, fun k p e => (by cases e)⟩, Nat.le_refl _, fun h => absurd h (Nat.lt_irrefl _), ltk (s2.trans s3) l1, ltk s3 l2, l3, t3.more (by omega), k3, rfl⟩
  · rintro i σ' H' ⟨fs, bs, ps, u1, u2, u3, u4, _, _, _, _, _, _, _, k, _⟩
    exact k
  · rintro i ⟨s, c⟩ w w' σ' H4 H5 hx ⟨fs, bs, ps, u1, u2, u3, u4, hpad, hfl, _, lf, lb, lp, ht, hk, rfl⟩ s45 hw hw'
    obtain ⟨es, ec⟩ := List.getElem?_zip_eq_some.mp hx
    have hi : i < ss.length := (List.getElem?_eq_some_iff.mp es).1
    have hcm := List.mem_of_getElem? ec
    have gc := hall.g c hcm
    have gn := hall.n c hcm
    have t5 := ht.same s45
    have k5 : Kd T H H5 := Edg.trans hk (kd_same s45)
    refine ⟨_, rfl, T, L, 6, _, rfl, by decide, by decide, by omega, t5, fun H6 r r0 r1 t6 k6 => ⟨_, _, rfl, rfl, _, _, rfl, _, rfl, ?_⟩⟩
    have k56 : Kd T H5 H6 := kd_of t5 k6
    obtain ⟨m, hm, hm1⟩ : ∃ m : Nat, (if r - 4 > 0 then r - 4 else 0) = (m : Int) ∧ m ≤ 1 := by
      by_cases h : r - 4 > 0
      · exact ⟨1, by rw [if_pos h]; omega, Nat.le_refl _⟩
      · exact ⟨0, by rw [if_neg h]; rfl, Nat.zero_le _⟩
    rw [hm]
    refine ⟨by omega, by omega, for_range (lo := 0) (n := ((m : Nat) : Int).toNat) (fun j σ' H' => ∃ fs bs u3 u4, Pad ws cs i fs bs ps ∧ fs.length ≤ 2 * i + j ∧ Lt K H' pf (ssD fs) ∧ Lt K H' pb (bs.map clD) ∧ Lt K H' pp (natsD ps) ∧ Dp K H' w s.d ∧ Dp K H' w' (clD c) ∧ Tape H' T L (B + 330 * i + 11 + 311 * j) ∧ Kd T H H' ∧ σ' = [some (.ref T), some vs_, some vc, some vn, some (.ref pf), some (.ref pb), some (.ref pp), some w, some w', u3, u4]) ?_ ?_ ?_⟩
    · exact ⟨fs, bs, u3, u4, hpad, by omega, ltk k56 (ltk s45 lf), ltk k56 (ltk s45 lb), ltk k56 (ltk s45 lp), dpk k56 hw, dpk k56 hw', t6.more (by omega), Edg.trans k5 k56, rfl⟩
    · rintro j σ' H7 hj ⟨fs, bs, u3, u4, hpad, hfl, lf, lb, lp, hw, hw', ht, hk, rfl⟩
      have hj0 : j = 0 := by rw [Int.toNat_natCast] at hj; omega
      subst hj0
      have hvn : Dp K H7 vn (.list (ws.map .str)) := dpk hk h3
      have hbl := runs_len hpad.run
      refine t_set (n := 311) ht (td_op (n := 300) (m := 11) (td_tl (tl_lst (ta_cons (n := 0) (m := 300) (td_tup (ta_cons (n := 0) (m := 0) (td_pure de_str) (ta_cons (n := 0) (m := 0) (td_pure (de_var rfl hw')) ta_nil)) (by rintro ds ⟨_, _, rfl, _, _, _, rfl, _, rfl⟩; exact Nat.le_of_ble_eq_true rfl)) (ta_cons (n := 300) (m := 0) (td_tup (ta_cons (n := 0) (m := 300) (td_pure de_str) (ta_cons (n := 300) (m := 0) (td_call (m := 0) (n := 300) (G := GLClause) rfl (ta_cons (n := 0) (m := 0) (td_pure (de_var rfl hvn)) (ta_cons (n := 0) (m := 0) (td_pure de_int) ta_nil)) (by
        rintro ds ⟨_, _, rfl, rfl, _, _, rfl, rfl, rfl⟩
        exact ⟨ws, 4, by decide, nms.nd, by omega, rfl, rfl⟩)) ta_nil)) (by rintro ds ⟨_, _, rfl, _, _, _, rfl, _, rfl⟩; exact Nat.le_of_ble_eq_true rfl)) ta_nil)) (by rintro ds ⟨_, _, rfl, _, _, _, rfl, _, rfl⟩; exact Nat.le_of_ble_eq_true rfl))) (td_draw (j := 2) rfl de_int (by decide) (by decide)) (χ := fun d => ∃ e : Cl, d = (Stp.giv e).d ∧ GoodC e ∧ ∀ l ∈ e, l.1 ∈ ws) ?_) (by omega) fun v d H8 k8 t8 hv pd => ?_
      · rintro d e ⟨ds, rfl, _, _, rfl, ⟨_, rfl, _, _, rfl, rfl, _, _, rfl, rfl, rfl⟩, _, _, rfl, ⟨_, rfl, _, _, rfl, rfl, _, _, rfl, ⟨c2, rfl, h2r, h2n, h2l⟩, rfl⟩, rfl⟩ ⟨r, rfl, r0, r1⟩
        have c01 : r = 0 ∨ r = 1 := by omega
        rcases c01 with rfl | rfl
        · exact ⟨(Stp.giv c).d, rd_ixL rfl, c, rfl, gc, gn⟩
        · exact ⟨(Stp.giv c2).d, rd_ixL rfl, c2, rfl, ⟨h2r, fun l hl => nms.nm _ (h2n l hl)⟩, h2n⟩
      obtain ⟨e, rfl, ge, gen⟩ := pd
      have k08 := Edg.trans hk k8
      refine s_app (Kd T) (ltk k8 lf) rfl (de_var rfl hv) (by unfold ssD; rw [List.length_map]; omega) (nlA_ss _) (nl_stp _) fun H9 s9 o9 l9 tk9 => ?_
      have t9 : Tape (upd H9 pf o9) T L (B + 330 * i + 11 + 311) := ((t8.same s9).put (ne_T (t8.same s9) (ltk s9 (ltk k8 lf))) fL).more (by omega)
      have lf9 := ltk s9 (ltk k8 lf)
      have lb9 := lt_other (o := o9) lf9 (ltk s9 (ltk k8 lb)) fb.symm (nlA_cs _)
      have lp9 := lt_other (o := o9) lf9 (ltk s9 (ltk k8 lp)) fp.symm (nlA_map fun _ => rfl)
      have hv9 := dp_tk tk9 _ _ (nl_stp _) (dpk s9 hv)
      have hw9 := dp_tk tk9 _ _ (nl_stp _) (dpk s9 (dpk k8 hw))
      have hw9' := dp_tk tk9 _ _ (nl_clD _) (dpk s9 (dpk k8 hw'))
      have k09 : Kd T H (upd H9 pf o9) := edg_mut (Edg.trans k08 (kd_same s9)) nf
      refine s_app (Kd T) lb9 rfl (de_op (de_var rfl hv9) de_int (rd_ixT (f := clD e) rfl)) (by rw [List.length_map]; omega) (nlA_cs _) (nl_clD _) fun Ha sa oa la tka => ?_
      have lba := ltk sa lb9
      refine ⟨fs ++ [.giv e], bs ++ [e], _, _, hpad.more ge gen, by rw [List.length_append]; simp only [List.length_cons, List.length_nil]; omega, ?_, ?_, lt_other (o := oa) lba (ltk sa lp9) bp.symm (nlA_map fun _ => rfl), dp_tk tka _ _ (nl_stp _) (dpk sa hw9), dp_tk tka _ _ (nl_clD _) (dpk sa hw9'), ((t9.same sa).put (ne_T (t9.same sa) lba) bL).more (by omega), edg_mut (Edg.trans k09 (kd_same sa)) nb, rfl⟩
      · have e' : ssD (fs ++ [.giv e]) = ssD fs ++ [(Stp.giv e).d] := by
          unfold ssD
          rw [List.map_append]
          rfl
        rw [e']
        exact lt_other (o := oa) lba (ltk sa l9) fb (by rw [← e']; exact nlA_ss _)
      · rw [List.map_append]
        exact la
    · rintro σ' H7 ⟨fs, bs, u3, u4, hpad, hfl, lf, lb, lp, hw, hw', ht, hk, rfl⟩
      have hbl := runs_len hpad.run
      have st := runs_at hrun es ec
      have hpl := hpad.plen
      have pat : ∀ a : Nat, a < i → (natsD ps)[a]? = some (.int ((ps.getD a 0 : Nat) : Int)) := fun a ha => by
        unfold natsD
        rw [List.getElem?_map, List.getElem?_eq_getElem (by omega), List.getD_eq_getElem?_getD, List.getElem?_eq_getElem (by omega)]
        rfl
      refine s_app (Kd T) (d := (renum ps s).d) lf rfl ?_ (by unfold ssD; rw [List.length_map]; omega) (nlA_ss _) (nl_stp _) fun H9 s9 o9 l9 tk9 => ?_
      · cases s with
        | giv e => exact de_is (de_if (e := .none) (bt_test (de_op (de_op (de_var rfl hw) de_int (rd_ixT (f := .str "given") rfl)) de_str rd_eqS)) (fun _ => de_var rfl hw) (fun h => by simp at h)) (by simp [renum])
        | met a b n =>
          have hab : a < i ∧ b < i := by
            have st' : (match (cs.take i)[a]?, (cs.take i)[b]? with
              | some x, some y => meet x y n
              | _, _ => none) = some c := st
            constructor
            · refine Decidable.by_contra fun h => ?_
              rw [List.getElem?_eq_none (by rw [List.length_take]; omega : (cs.take i).length ≤ a)] at st'
              cases st'
            · refine Decidable.by_contra fun h => ?_
              rw [List.getElem?_eq_none (by rw [List.length_take]; omega : (cs.take i).length ≤ b)] at st'
              cases e : (cs.take i)[a]? with
              | none => rw [e] at st'; cases st'
              | some x => rw [e] at st'; cases st'
          have eb : decide (("met" : Str) = "given") = false := by decide +kernel
          refine de_is (de_if (d := .none) (b := false) (bt_is (bt_test (de_op (de_op (de_var rfl hw) de_int (rd_ixT (f := .str "met") rfl)) de_str rd_eqS)) eb) (fun h => by cases h) (fun _ => de_tup (da_cons de_str (da_cons (de_op (de_var rfl lp.dp) (de_op (de_var rfl hw) de_int (rd_ixT (f := .int (a : Int)) rfl)) (rd_ixL (at_nat (pat a hab.1)))) (da_cons (de_op (de_var rfl lp.dp) (de_op (de_var rfl hw) de_int (rd_ixT (f := .int (b : Int)) rfl)) (rd_ixL (at_nat (pat b hab.2)))) (da_cons (de_op (de_var rfl hw) de_int (rd_ixT (f := .str n) rfl)) da_nil)))) (Nat.le_of_ble_eq_true rfl))) rfl
      have t9 : Tape (upd H9 pf o9) T L (B + 330 * i + 11 + 311) := ((ht.same s9).put (ne_T (ht.same s9) (ltk s9 lf)) fL).more (by omega)
      have lf9 := ltk s9 lf
      have lb9 := lt_other (o := o9) lf9 (ltk s9 lb) fb.symm (nlA_cs _)
      have lp9 := lt_other (o := o9) lf9 (ltk s9 lp) fp.symm (nlA_map fun _ => rfl)
      have hw9' := dp_tk tk9 _ _ (nl_clD _) (dpk s9 hw')
      have k09 : Kd T H (upd H9 pf o9) := edg_mut (Edg.trans hk (kd_same s9)) nf
      have eF : ssD (fs ++ [renum ps s]) = ssD fs ++ [(renum ps s).d] := by
        unfold ssD
        rw [List.map_append]
        rfl
      rw [← eF] at l9
      refine s_app (Kd T) lb9 rfl (de_var rfl hw9') (by rw [List.length_map]; omega) (nlA_cs _) (nl_clD _) fun Ha sa oa la tka => ?_
      have lba := ltk sa lb9
      have lpa := lt_other (o := oa) lba (ltk sa lp9) bp.symm (nlA_map fun _ => rfl)
      have lfa := lt_other (o := oa) lba (ltk sa l9) fb (nlA_ss _)
      have ta : Tape (upd Ha pb oa) T L (B + 330 * i + 11 + 311) := (t9.same sa).put (ne_T (t9.same sa) lba) bL
      have k0a : Kd T H (upd Ha pb oa) := edg_mut (Edg.trans k09 (kd_same sa)) nb
      refine s_app (Kd T) lpa rfl (de_op (de_cb (da_cons (de_var rfl lfa.dp) da_nil) rc_lenL) de_int rd_i) (by unfold natsD; rw [List.length_map]; omega) (nlA_map fun _ => rfl) rfl fun Hb sb ob lb' tkb => ?_
      have lpb := ltk sb lpa
      have eP : natsD (ps ++ [bs.length]) = natsD ps ++ [.int (((ssD (fs ++ [renum ps s])).length : Int) - 1)] := by
        have e1 : ((ssD (fs ++ [renum ps s])).length : Int) - 1 = (bs.length : Int) := by
          unfold ssD
          rw [List.length_map, List.length_append]
          simp only [List.length_cons, List.length_nil]
          omega
        rw [e1]
        unfold natsD
        rw [List.map_append]
        rfl
      rw [← eP] at lb'
      refine ⟨fs ++ [renum ps s], bs ++ [c], ps ++ [bs.length], _, _, _, _, hpad.next hrun hall es ec, by rw [List.length_append]; simp only [List.length_cons, List.length_nil]; rw [Int.toNat_natCast] at hfl; omega, fun _ => ?_, lt_other (o := ob) lpb (ltk sb lfa) fp (nlA_ss _), ?_, lb', ((ta.same sb).put (ne_T (ta.same sb) lpb) pL).more (by omega), edg_mut (Edg.trans k0a (kd_same sb)) np, rfl⟩
      · rw [List.getLast?_append]
        show some c = _
        rw [Nat.add_sub_cancel, ec]
      · have la' : Lt K (upd Ha pb oa) pb ((bs ++ [c]).map clD) := by
          rw [List.map_append]
          exact la
        exact lt_other (o := ob) lpb (ltk sb la') bp (nlA_cs _)
  · rintro σ' H4 ⟨fs, bs, ps, u1, u2, u3, u4, hpad, hfl, hlast, lf, lb, lp, ht, hk, rfl⟩
    have hz : (ss.zip cs).length = ss.length := by rw [List.length_zip]; omega
    rw [hz] at hpad hfl hlast ht
    have hbl := runs_len hpad.run
    refine s_ret (Kd T) (de_tup (da_cons (de_var rfl lf.dp) (da_cons (de_var rfl lb.dp) da_nil)) (Nat.le_of_ble_eq_true rfl)) fun v H5 s5 h5 => ?_
    refine q v _ H5 (Edg.trans hk (kd_same s5)) ((ht.same s5).more (by omega)) h5 ⟨fs, bs, rfl, hpad.run, hpad.all, hfl, ?_, ?_⟩
    · have h0 := hlast hpos
      rw [List.getElem?_eq_getElem (by omega)] at h0
      cases bs with
      | nil => cases h0
      | cons y r =>
        rw [List.length_cons] at hbl
        omega
    · rw [hlast hpos, List.getLast?_eq_getElem?, hrl]
end
end My

set_option maxRecDepth 100000
set_option maxHeartbeats 4000000
namespace My
open PySem PySem.Spec PyProof.Rows L2 Dl
/-! ### what the last step leans on -/
/-- each met step leans on earlier ones -/
def Ahead (ss : List Stp) : Prop := ∀ (k i j : Nat) (n : Str), ss[k]? = some (.met i j n) → i < k ∧ j < k
theorem runs_ahead {ss : List Stp} {cs : List Cl} (r : Runs ss cs) : Ahead ss := fun k i j n e => by
  have hk := (List.getElem?_eq_some_iff.mp e).1
  have hl := runs_len r
  have st := runs_at r e (List.getElem?_eq_getElem (by omega : k < cs.length))
  have st' : (match (cs.take k)[i]?, (cs.take k)[j]? with
    | some x, some y => meet x y n
    | _, _ => none) = some cs[k] := st
  constructor
  · refine Decidable.by_contra fun h => ?_
    rw [List.getElem?_eq_none (by rw [List.length_take]; omega : (cs.take k).length ≤ i)] at st'
    cases st'
  · refine Decidable.by_contra fun h => ?_
    rw [List.getElem?_eq_none (by rw [List.length_take]; omega : (cs.take k).length ≤ j)] at st'
    cases e : (cs.take k)[i]? with
    | none => rw [e] at st'; cases st'
    | some x => rw [e] at st'; cases st'
/-- the marks when the t last ones have been looked at -/
structure Mks (ss : List Stp) (last t : Nat) (m : Nat → Prop) : Prop where
  a : m last
  le : ∀ x, m x → x ≤ last
  b : ∀ k, last < k + t → m k → ∀ (i j : Nat) (n : Str), ss[k]? = some (.met i j n) → m i ∧ m j
  c : ∀ k, m k → k = last ∨ ∃ (k' i j : Nat) (n : Str), k < k' ∧ m k' ∧ ss[k']? = some (.met i j n) ∧ (k = i ∨ k = j)
theorem Mks.zero (ss : List Stp) (last : Nat) : Mks ss last 0 (fun x => x = last) :=
  ⟨rfl, fun x e => by omega, fun k h e => by omega, fun k e => .inl e⟩
theorem Mks.skip {ss : List Stp} {last t : Nat} {m : Nat → Prop} (h : Mks ss last t m) (ht : t ≤ last) (n : ¬ m (last - t) ∨ ∃ c, ss[last - t]? = some (.giv c)) : Mks ss last (t + 1) m := by
  refine ⟨h.a, h.le, fun k hk mk i j nm e => ?_, h.c⟩
  by_cases hk' : last < k + t
  · exact h.b k hk' mk i j nm e
  · have : k = last - t := by omega
    subst this
    rcases n with n | ⟨c, n⟩
    · exact absurd mk n
    · rw [n] at e; cases e
theorem Mks.mark {ss : List Stp} {last t i j : Nat} {n : Str} {m : Nat → Prop} (A : Ahead ss) (h : Mks ss last t m) (ht : t ≤ last) (mk : m (last - t)) (e : ss[last - t]? = some (.met i j n)) : Mks ss last (t + 1) (fun x => m x ∨ x = i ∨ x = j) := by
  obtain ⟨hi, hj⟩ := A _ _ _ _ e
  refine ⟨.inl h.a, fun x hx => ?_, fun k hk mk' a b nm e' => ?_, fun k hk => ?_⟩
  · rcases hx with hx | rfl | rfl
    · exact h.le x hx
    · omega
    · omega
  · by_cases hk' : last < k + t
    · have mk2 : m k := by
        rcases mk' with h2 | rfl | rfl
        · exact h2
        · omega
        · omega
      exact ⟨.inl (h.b k hk' mk2 a b nm e').1, .inl (h.b k hk' mk2 a b nm e').2⟩
    · have : k = last - t := by omega
      subst this
      rw [e] at e'
      cases e'
      exact ⟨.inr (.inl rfl), .inr (.inr rfl)⟩
  · rcases hk with hk | hk
    · rcases h.c k hk with h2 | ⟨k', a, b, nm, q1, q2, q3, q4⟩
      · exact .inl h2
      · exact .inr ⟨k', a, b, nm, q1, .inl q2, q3, q4⟩
    · exact .inr ⟨last - t, i, j, n, by rcases hk with rfl | rfl <;> assumption, .inl mk, e, hk⟩
/-- all looked at -/
abbrev Mark (ss : List Stp) (last : Nat) (m : Nat → Prop) : Prop := Mks ss last (last + 1) m
theorem mark_uniq {ss : List Stp} {last : Nat} {m m' : Nat → Prop} (h : Mark ss last m) (h' : Mark ss last m') : ∀ k, m k → m' k := by
  have key : ∀ d k, last - k ≤ d → m k → m' k := by
    intro d
    induction d with
    | zero =>
      intro k hd mk
      have := h.le k mk
      have : k = last := by omega
      rw [this]
      exact h'.a
    | succ d ih =>
      intro k hd mk
      rcases h.c k mk with e | ⟨k', i, j, n, q1, q2, q3, q4⟩
      · rw [e]; exact h'.a
      · have := h.le k' q2
        have m2 := ih k' (by omega) q2
        obtain ⟨b1, b2⟩ := h'.b k' (by omega) m2 i j n q3
        rcases q4 with rfl | rfl
        · exact b1
        · exact b2
  exact fun k => key _ k (Nat.le_refl _)
/-- the steps of the indices ks, their numbers told anew -/
def rank (ks : List Nat) (x : Nat) : Nat := ks.idxOf x
def ren (ks : List Nat) : Stp → Stp
  | .giv c => .giv c
  | .met i j n => .met (rank ks i) (rank ks j) n
def kept (ss : List Stp) (ks : List Nat) : List Stp := ks.filterMap fun k => (ss[k]?).map (ren ks)
/-- the indices marked, rising -/
structure Idx (ss : List Stp) (last : Nat) (m : Nat → Prop) (ks : List Nat) : Prop where
  up : ks.Pairwise (· < ·)
  mem : ∀ x, x ∈ ks ↔ m x
theorem up_nodup {ks : List Nat} (h : ks.Pairwise (· < ·)) : ks.Nodup := h.imp fun h => Nat.ne_of_lt h
theorem up_uniq {ks ls : List Nat} (h1 : ks.Pairwise (· < ·)) (h2 : ls.Pairwise (· < ·)) (h : ∀ x, x ∈ ks ↔ x ∈ ls) : ks = ls := by
  have p : ks.Perm ls := (List.perm_ext_iff_of_nodup (up_nodup h1) (up_nodup h2)).mpr h
  exact List.Perm.eq_of_pairwise (le := fun a b => a < b) (fun a b _ _ x y => by omega) h1 h2 p
theorem kept_len {ss : List Stp} {ks : List Nat} (h : ∀ x ∈ ks, x < ss.length) : (kept ss ks).length = ks.length := by
  unfold kept
  generalize ren ks = f
  induction ks with
  | nil => rfl
  | cons k r ih =>
    rw [List.filterMap_cons_some (b := f (ss[k]'(h k List.mem_cons_self))) (by rw [List.getElem?_eq_getElem (h k List.mem_cons_self)]; rfl), List.length_cons, List.length_cons, ih fun x hx => h x (List.mem_cons_of_mem _ hx)]
theorem kept_at {ss : List Stp} {ks : List Nat} (h : ∀ x ∈ ks, x < ss.length) {p k : Nat} {s : Stp} (e : ks[p]? = some k) (es : ss[k]? = some s) : (kept ss ks)[p]? = some (ren ks s) := by
  unfold kept
  generalize ren ks = f
  induction ks generalizing p with
  | nil => cases e
  | cons x r ih =>
    rw [List.filterMap_cons_some (b := f (ss[x]'(h x List.mem_cons_self))) (by rw [List.getElem?_eq_getElem (h x List.mem_cons_self)]; rfl)]
    cases p with
    | zero =>
      have ex : x = k := Option.some.inj e
      subst ex
      show some _ = _
      rw [List.getElem?_eq_getElem (h x List.mem_cons_self)] at es
      rw [Option.some.inj es]
    | succ p => exact ih (fun x hx => h x (List.mem_cons_of_mem _ hx)) e
theorem rank_at {ks : List Nat} (h : ks.Pairwise (· < ·)) {x : Nat} (hx : x ∈ ks) : ks[rank ks x]? = some x := by
  have hl : ks.idxOf x < ks.length := List.idxOf_lt_length_of_mem hx
  unfold rank
  rw [List.getElem?_eq_getElem hl, List.getElem_idxOf hl]
theorem at_rank {ks : List Nat} (h : ks.Pairwise (· < ·)) {p x : Nat} (e : ks[p]? = some x) : rank ks x = p := by
  obtain ⟨hp, ex⟩ := List.getElem?_eq_some_iff.mp e
  unfold rank
  rw [← ex]
  exact List.Nodup.idxOf_getElem (up_nodup h) p hp
theorem rank_lt {ks : List Nat} (h : ks.Pairwise (· < ·)) {p q x y : Nat} (e1 : ks[p]? = some x) (e2 : ks[q]? = some y) (hxy : x < y) : p < q := by
  obtain ⟨hp, ex⟩ := List.getElem?_eq_some_iff.mp e1
  obtain ⟨hq, ey⟩ := List.getElem?_eq_some_iff.mp e2
  refine Decidable.by_contra fun hn => ?_
  rcases Nat.lt_or_ge q p with h1 | h1
  · have := List.pairwise_iff_getElem.mp h q p hq hp h1
    omega
  · have : p = q := by omega
    subst this
    rw [ex] at ey
    omega
section
variable {ss : List Stp} {cs : List Cl} {last : Nat} {m : Nat → Prop} {ks : List Nat}
theorem idx_lt (M : Mark ss last m) (I : Idx ss last m ks) (hl : last < ss.length) : ∀ x ∈ ks, x < ss.length := fun x hx => by
  have := M.le x ((I.mem x).mp hx)
  omega
/-- the kept ones have their clauses -/
theorem kept_runs (R : Runs ss cs) (M : Mark ss last m) (I : Idx ss last m ks) (hl : last < ss.length) : Runs (kept ss ks) (ks.filterMap fun k => cs[k]?) := by
  have hcl := runs_len R
  have hlt := idx_lt M I hl
  have A := runs_ahead R
  have clen : (ks.filterMap fun k => cs[k]?).length = ks.length := by
    clear I
    induction ks with
    | nil => rfl
    | cons k r ih =>
      have hk := hlt k List.mem_cons_self
      rw [List.filterMap_cons_some (List.getElem?_eq_getElem (by omega : k < cs.length)), List.length_cons, List.length_cons, ih fun x hx => hlt x (List.mem_cons_of_mem _ hx)]
  have cat : ∀ (p k : Nat), ks[p]? = some k → (ks.filterMap fun k => cs[k]?)[p]? = cs[k]? := by
    clear I clen
    induction ks with
    | nil => intro p k e; cases e
    | cons x r ih =>
      intro p k e
      have hx := hlt x List.mem_cons_self
      rw [List.filterMap_cons_some (List.getElem?_eq_getElem (by omega : x < cs.length))]
      cases p with
      | zero =>
        have ex : x = k := Option.some.inj e
        subst ex
        show some _ = _
        rw [List.getElem?_eq_getElem (by omega : x < cs.length)]
      | succ p => exact ih (fun x hx => hlt x (List.mem_cons_of_mem _ hx)) p k e
  have key : ∀ t, t ≤ ks.length → Runs ((kept ss ks).take t) ((ks.filterMap fun k => cs[k]?).take t) := by
    intro t
    induction t with
    | zero => intro _; exact runs_nil
    | succ t ih =>
      intro ht
      have hk : ks[t]? = some ks[t] := List.getElem?_eq_getElem ht
      generalize hkk : ks[t] = k at hk
      have hkm : k ∈ ks := List.mem_of_getElem? hk
      have hks := hlt k hkm
      have es := List.getElem?_eq_getElem hks
      have ec : cs[k]? = some cs[k] := List.getElem?_eq_getElem (by omega)
      have e1 := kept_at hlt hk es
      have e2 := cat t k hk
      rw [ec] at e2
      rw [List.take_add_one, List.take_add_one, e1, e2]
      refine runs_snoc (ih (by omega)) ?_
      have st := runs_at R es ec
      cases q : ss[k] with
      | giv c => rw [q] at st; exact st
      | met i j n =>
        rw [q] at st es
        obtain ⟨hi, hj⟩ := A k i j n es
        obtain ⟨mi, mj⟩ := M.b k (by omega) ((I.mem k).mp hkm) i j n es
        have g : ∀ x, x < k → x ∈ ks → ((ks.filterMap fun k => cs[k]?).take t)[rank ks x]? = (cs.take k)[x]? := fun x hx hm => by
          have ra := rank_at I.up hm
          have hr := rank_lt I.up ra hk hx
          rw [List.getElem?_take, if_pos hr, cat _ _ ra, List.getElem?_take, if_pos hx]
        have st' : (match (cs.take k)[i]?, (cs.take k)[j]? with
          | some x, some y => meet x y n
          | _, _ => none) = some cs[k] := st
        show (match ((ks.filterMap fun k => cs[k]?).take t)[rank ks i]?, ((ks.filterMap fun k => cs[k]?).take t)[rank ks j]? with
          | some x, some y => meet x y n
          | _, _ => none) = some cs[k]
        rw [g i hi ((I.mem i).mpr mi), g j hj ((I.mem j).mpr mj)]
        exact st'
  have h := key ks.length (Nat.le_refl _)
  rw [List.take_of_length_le (by rw [kept_len hlt]; exact Nat.le_refl _), List.take_of_length_le (by rw [clen]; exact Nat.le_refl _)] at h
  exact h
/-- the last of the kept ones has the last one's clause -/
theorem kept_last (M : Mark ss last m) (I : Idx ss last m ks) : ks.getLast? = some last := by
  have hm : last ∈ ks := (I.mem last).mpr M.a
  obtain ⟨p, hp, e⟩ := List.mem_iff_getElem.mp hm
  have hl : p = ks.length - 1 := by
    refine Decidable.by_contra fun hn => ?_
    have h1 := List.pairwise_iff_getElem.mp I.up p (ks.length - 1) hp (by omega) (by omega)
    have := M.le _ ((I.mem _).mp (List.getElem_mem (by omega : ks.length - 1 < ks.length)))
    omega
  rw [List.getLast?_eq_getElem?, ← hl, List.getElem?_eq_getElem hp, e]
/-- of the kept ones all are leaned on -/
theorem kept_all (R : Runs ss cs) (M : Mark ss last m) (I : Idx ss last m ks) (hl : last < ss.length) {m' : Nat → Prop} (M' : Mark (kept ss ks) (ks.length - 1) m') : ∀ p, p < ks.length → m' p := by
  have hlt := idx_lt M I hl
  have kl := kept_last M I
  have key : ∀ d p, p < ks.length → ks.length - 1 - p ≤ d → m' p := by
    intro d
    induction d with
    | zero =>
      intro p hp hd
      have : p = ks.length - 1 := by omega
      rw [this]
      exact M'.a
    | succ d ih =>
      intro p hp hd
      have hk : ks[p]? = some ks[p] := List.getElem?_eq_getElem hp
      generalize ks[p] = k at hk
      have mk : m k := (I.mem k).mp (List.mem_of_getElem? hk)
      rcases M.c k mk with e | ⟨k', i, j, n, q1, q2, q3, q4⟩
      · have r1 := at_rank I.up hk
        rw [List.getLast?_eq_getElem?] at kl
        have r2 := at_rank I.up kl
        rw [← e, r1] at r2
        rw [r2]
        exact M'.a
      · have ra := rank_at I.up ((I.mem k').mpr q2)
        have hp' := rank_lt I.up hk ra q1
        have hr : rank ks k' < ks.length := (List.getElem?_eq_some_iff.mp ra).1
        have m2 := ih (rank ks k') hr (by omega)
        have e2 := kept_at hlt ra q3
        obtain ⟨b1, b2⟩ := M'.b (rank ks k') (by omega) m2 (rank ks i) (rank ks j) n e2
        have rk := at_rank I.up hk
        rcases q4 with rfl | rfl
        · rw [← rk]; exact b1
        · rw [← rk]; exact b2
  exact fun p hp => key _ p hp (Nat.le_refl _)
theorem idx_range {n : Nat} : (List.range n).Pairwise (· < ·) := List.pairwise_lt_range
/-- kept again: the same -/
theorem kept_self (R : Runs ss cs) (hl : last + 1 = ss.length) (M : Mark ss last m) (I : Idx ss last m ks) (all : ∀ p, p < ss.length → m p) : kept ss ks = ss := by
  have ek : ks = List.range ss.length := up_uniq I.up idx_range fun x => by
    rw [I.mem, List.mem_range]
    exact ⟨fun h => by have := M.le x h; omega, all x⟩
  have A := runs_ahead R
  have hlt := idx_lt M I (by omega)
  have klen : ks.length = ss.length := by rw [ek, List.length_range]
  refine List.ext_getElem? fun p => ?_
  by_cases hp : p < ss.length
  · have hk : ks[p]? = some p := by rw [ek, List.getElem?_range hp]
    have es := List.getElem?_eq_getElem hp
    rw [kept_at hlt hk es, es]
    cases q : ss[p] with
    | giv c => rfl
    | met i j n =>
      rw [q] at es
      obtain ⟨hi, hj⟩ := A p i j n es
      have r : ∀ x, x < ss.length → rank ks x = x := fun x hx => at_rank I.up (by rw [ek, List.getElem?_range hx])
      show some (Stp.met (rank ks i) (rank ks j) n) = _
      rw [r i (by omega), r j (by omega)]
  · rw [List.getElem?_eq_none (by rw [kept_len hlt]; omega), List.getElem?_eq_none (by omega)]
end
end My

set_option maxRecDepth 100000
set_option maxHeartbeats 4000000
namespace My
open PySem PySem.Spec PyProof.Rows L2 Dl
section
variable {R : Hp → Hp → Prop} [Edg R] {T L X : Addr} {n m i j : Nat} {K : PySem.W.Frag} {σ : L2.St} {H H' : Hp} {ta tb te tx to : TE} {v : V} {d e f : PD} {ds es fs : List PD} {a l : Addr} {D : Ends}
/-- d[k], k an int that is told -/
theorem de_dgetI {kvs : List (Key × V)} {k : Int} (hx : σ[i]? = some (some (.ref X))) (hk : DE R K te σ H (.int k)) (hd : ∀ H1, R H H1 → H1 X = some (.dK kvs)) (hg : valV kvs (Sum.inl k : Key) = some v) (hv : Dp K H v d) : DE R K (tDGet (tVar i) te) σ H d := fun H1 g Q q =>
  ⟨_, hx, hk H1 g _ fun w H2 s hw => by
    cases hw
    refine ⟨X, v, rfl, ?_, q v H2 s (dpk (Edg.trans g (Edg.same s)) hv)⟩
    have := DGet.k (k := (Sum.inl k : Key)) (hd H2 (Edg.trans g (Edg.same s)))
    rw [hg] at this
    exact this⟩
/-- d[k] = e, k an int that is told -/
theorem s_dputI (R : Hp → Hp → Prop) [Edg R] {kvs : List (Key × V)} {k : Int} (hx : σ[i]? = some (some (.ref X))) (hd : ∀ H1, Same H H1 → H1 X = some (.dK kvs)) (hl : kvs.length < 100000) (h : DE Same K te σ H d) (hk : DE Same K tx σ H (.int k)) (q : ∀ v H1, Same H H1 → Dp K H1 v d → D.nx σ (upd H1 X (.dK (putK kvs (Sum.inl k : Key) v)))) : sDPut (tVar i) tx te D σ H :=
  h H (Same.refl H) _ fun v H1 s hv => ⟨_, hx, hk H1 s _ fun w H2 s2 hw => by
    cases hw
    exact ⟨X, _, rfl, DPut.k (k := (Sum.inl k : Key)) (hd H2 (s.trans s2)) (szs hl), q v H2 (s.trans s2) (dpk s2 hv)⟩⟩
/-- xs[k] = e, xs one's own -/
theorem s_setix {k : Int} {j' : Nat} (hl : Lt K H l ds) (ha : σ[i]? = some (some (.ref l))) (h : DE Same K te σ H d) (hk : DE Same K tx σ H (.int k)) (hj : ixN ds.length k = some j') (n1 : nlA ds = true) (n2 : nl d = true) (q : ∀ H1 o, Same H H1 → Lt K (upd H1 l o) l (ds.set j' d) → D.nx σ (upd H1 l o)) : tAsg te (gSub (tVar i) tx rSetL) D σ H :=
  h H (Same.refl H) _ fun v H1 s hv => ⟨_, ha, hk H1 s _ fun w H2 s2 hw => by
    cases hw
    obtain ⟨vs, e, hvs⟩ := ltk (s.trans s2) hl
    have tk : Tk H2 (upd H2 l (.lst (vs.set j' v))) := Tk.putL e
    have nn : nlA (ds.set j' d) = true := nlA_iff.mpr fun x hx => by
      rcases List.mem_or_eq_of_mem_set hx with h | h
      · exact nlA_iff.mp n1 x h
      · rw [h]; exact n2
    exact ⟨l, vs, k, j', rfl, rfl, e, by rw [dpa_len hvs]; exact hj, q H2 _ (s.trans s2) ⟨_, upd_same, dpa_tk tk _ _ nn (dpa_set hvs (dpk s2 hv))⟩⟩⟩
theorem ixn_nat {n k : Nat} (h : k < n) : ixN n (k : Int) = some k := by
  unfold ixN
  simp
  omega
end
end My

set_option maxRecDepth 100000
set_option maxHeartbeats 4000000
namespace My
open PySem PySem.Spec PyProof.Rows L2 Dl
abbrev sRe : Stmt := top 25
abbrev sLe : Stmt := top 26
theorem scRe : FnScope ["step", "numbers"] ["step", "numbers"] (defScope sRe) := ⟨rfl, rfl, rfl, by decide +kernel, rfl, by decide +kernel, by decide +kernel⟩
theorem scLe : FnScope ["steps", "last", "needed", "number", "numbers", "kept"] ["steps", "last"] (defScope sLe) := ⟨rfl, rfl, rfl, by decide +kernel, rfl, by decide +kernel, by decide +kernel⟩
def renBy (f : Nat → Nat) : Stp → Stp
  | .giv c => .giv c
  | .met i j n => .met (f i) (f j) n
theorem ren_by (ks : List Nat) (s : Stp) : ren ks s = renBy (rank ks) s := by cases s <;> rfl
def spRen (K : PySem.W.Frag) : Sp := fun vs H Q _ => ∃ (v : V) (D : Addr) (s : Stp) (kvs : List (Key × V)) (f : Nat → Nat), vs = [v, .ref D] ∧ Dp K H v s.d ∧ H D = some (.dK kvs) ∧
  (∀ i j n, s = .met i j n → valV kvs (Sum.inl (i : Int) : Key) = some (.int (f i : Int)) ∧ valV kvs (Sum.inl (j : Int) : Key) = some (.int (f j : Int))) ∧ ∀ v' H', Same H H' → Dp K H' v' (renBy f s).d → Q v' H'
structure Ln (P : Program) (w : World) (K : PySem.W.Frag) (mg : Str → Option Value) (base : Heap) (fR : Addr) (dR : FuncData) : Prop where
  GR : FnOk P w K mg base CX0 1 fR dR ["step", "numbers"] (spRen K)
  gR : mg "renumbered" = some (.ref fR)
  kR : PySem.W.keepIn K (.ref fR) = true
  bR : Binds K dR ["step", "numbers"] []
  mrange : mg "range" = none
  mreversed : mg "reversed" = none
  mlen : mg "len" = none
section
variable {P : Program} {w : World} {K : PySem.W.Frag} {mg : Str → Option Value} {base : Heap} {f fR : Addr} {fd dR : FuncData}
theorem ok_renumbered (F : FnP K "renumbered" sRe f fd) : FnOk P w K mg base CX0 1 f fd ["step", "numbers"] (spRen K) := by
  refine F.ok scRe (fun vs H Q E h => ?_) (fun cdv A outer s H vs Q E hr h => ?_)
  · obtain ⟨v, D, s, kvs, g, rfl, _⟩ := h
    rfl
  obtain ⟨v, D, s, kvs, g, rfl, hv, hD, hg, q⟩ := h
  have hu := hu_of hr
  refine ⟨_, PSs.nox (pss_cons (ps_if (pt_cmpR op_eq (pe_ix ix_tup (pv 0) pe_int (fun _ _ => rfl)) pe_str (nomark _))
 (pss_one (ps_ret (pv 0))) pss_nil)
 (pss_one (ps_ret (pe_tup (pa_cons pe_str (pa_cons (pe_dget hu (pv 1) (pe_ix ix_tup (pv 0) pe_int (fun _ _ => rfl)) (fun _ _ => rfl)) (pa_cons (pe_dget hu (pv 1) (pe_ix ix_tup (pv 0) pe_int (fun _ _ => rfl)) (fun _ _ => rfl)) (pa_cons (pe_ix ix_tup (pv 0) pe_int (fun _ _ => rfl)) pa_nil)))))))), ?_⟩
  cases s with
  | giv c =>
    refine s_if Same (K := K) (bt_test (de_op (de_op (de_var rfl hv) de_int (rd_ixT (f := .str "given") rfl)) de_str rd_eqS)) (fun _ H1 s1 => ?_) (fun h => by simp at h)
    exact s_ret Same (de_var rfl (dpk s1 hv)) fun v' H2 s2 h2 => q v' H2 (s1.trans s2) h2
  | met i j n =>
    obtain ⟨e1, e2⟩ := hg i j n rfl
    have eb : decide (("met" : Str) = "given") = false := by decide +kernel
    refine s_if Same (K := K) (b := false) (bt_is (bt_test (de_op (de_op (de_var rfl hv) de_int (rd_ixT (f := .str "met") rfl)) de_str rd_eqS)) eb) (fun h => by cases h) (fun _ H1 s1 => ?_)
    have hv1 := dpk s1 hv
    have hD1 := s1 _ _ hD
    exact s_ret Same (de_tup (da_cons de_str (da_cons (de_dgetI rfl (de_op (de_var rfl hv1) de_int (rd_ixT (f := .int (i : Int)) rfl)) (fun H' r => r _ _ hD1) e1 (.int _)) (da_cons (de_dgetI rfl (de_op (de_var rfl hv1) de_int (rd_ixT (f := .int (j : Int)) rfl)) (fun H' r => r _ _ hD1) e2 (.int _)) (da_cons (de_op (de_var rfl hv1) de_int (rd_ixT (f := .str n) rfl)) da_nil)))) (Nat.le_of_ble_eq_true rfl)) fun v' H2 s2 h2 => q v' H2 (s1.trans s2) h2
/-! the numbers told so far -/
def nkv (n : Nat) : List Nat → List (Key × V)
  | [] => []
  | k :: r => (Sum.inl (k : Int), .int (n : Int)) :: nkv (n + 1) r
theorem nkv_len : ∀ (n : Nat) (ks : List Nat), (nkv n ks).length = ks.length
  | _, [] => rfl
  | n, _ :: r => congrArg Nat.succ (nkv_len (n + 1) r)
theorem nkv_snoc : ∀ (n : Nat) (ks : List Nat) (k : Nat), nkv n (ks ++ [k]) = nkv n ks ++ [((Sum.inl (k : Int) : Key), V.int ((n + ks.length : Nat) : Int))]
  | n, [], k => rfl
  | n, x :: r, k => by
    show _ :: nkv (n + 1) (r ++ [k]) = _ :: (nkv (n + 1) r ++ _)
    rw [nkv_snoc (n + 1) r k, List.length_cons, show n + 1 + r.length = n + (r.length + 1) by omega]
theorem nkv_at : ∀ (n : Nat) (ks : List Nat) (x : Nat), x ∈ ks → valV (nkv n ks) (Sum.inl (x : Int) : Key) = some (.int ((n + rank ks x : Nat) : Int))
  | n, [], x, h => by cases h
  | n, y :: r, x, h => by
    unfold rank
    rw [List.idxOf_cons]
    by_cases e : y = x
    · subst e
      show valV ((Sum.inl (y : Int), .int (n : Int)) :: nkv (n + 1) r) _ = _
      rw [valV_pos (p := ((Sum.inl (y : Int) : Key), V.int (n : Int))) (k := (Sum.inl (y : Int) : Key)) rfl]
      simp
    · have ne : ¬ (((Sum.inl (y : Int) : Key), V.int (n : Int)).1 = (Sum.inl (x : Int) : Key)) := fun z => e (by have := Sum.inl.inj z; omega)
      show valV ((Sum.inl (y : Int), .int (n : Int)) :: nkv (n + 1) r) _ = _
      rw [valV_neg ne, nkv_at (n + 1) r x ((List.mem_cons.mp h).resolve_left fun z => e z.symm)]
      have eb : (y == x) = false := by simp [e]
      unfold rank
      rw [eb]
      simp only [cond_false]
      congr 2
      omega
theorem nkv_no : ∀ (n : Nat) (ks : List Nat) (x : Nat), x ∉ ks → valV (nkv n ks) (Sum.inl (x : Int) : Key) = none
  | n, [], x, _ => rfl
  | n, y :: r, x, h => by
    have ne : ¬ (((Sum.inl (y : Int) : Key), V.int (n : Int)).1 = (Sum.inl (x : Int) : Key)) := fun z => h (by have := Sum.inl.inj z; rw [show x = y by omega]; exact List.mem_cons_self)
    show valV ((Sum.inl (y : Int), .int (n : Int)) :: nkv (n + 1) r) _ = _
    rw [valV_neg ne]
    exact nkv_no (n + 1) r x fun z => h (List.mem_cons_of_mem _ z)
/-! which are leaned on -/
def bsD (m : Nat → Bool) (n : Nat) : List PD := (List.range n).map fun x => .bool (m x)
theorem bsD_len (m : Nat → Bool) (n : Nat) : (bsD m n).length = n := by
  unfold bsD
  rw [List.length_map, List.length_range]
theorem bsD_at {m : Nat → Bool} {n x : Nat} (h : x < n) : (bsD m n)[x]? = some (.bool (m x)) := by
  unfold bsD
  rw [List.getElem?_map, List.getElem?_range h]
  rfl
theorem bsD_set {m : Nat → Bool} {n j : Nat} : (bsD m n).set j (.bool true) = bsD (fun x => m x || x == j) n := by
  refine List.ext_getElem? fun p => ?_
  rw [List.getElem?_set]
  by_cases hp : p < n
  · rw [bsD_at hp, bsD_at hp, bsD_len]
    by_cases e : j = p
    · subst e
      rw [if_pos rfl, if_pos hp]
      simp
    · rw [if_neg e]
      have : (p == j) = false := by simp; omega
      rw [this, Bool.or_false]
  · have h1 : (bsD m n)[p]? = none := List.getElem?_eq_none (by rw [bsD_len]; omega)
    have h2 : (bsD (fun x => m x || x == j) n)[p]? = none := List.getElem?_eq_none (by rw [bsD_len]; omega)
    rw [h1, h2, bsD_len]
    by_cases e : j = p
    · rw [if_pos e, if_neg (by omega)]
    · rw [if_neg e]
theorem nl_bs (m : Nat → Bool) (n : Nat) : nlA (bsD m n) = true := nlA_map fun _ => rfl
def spLean (K : PySem.W.Frag) : Sp := fun vs H Q _ => ∃ (v : V) (ss : List Stp) (cs : List Cl) (last : Nat), vs = [v, .int (last : Int)] ∧ Dp K H v (.list (ssD ss)) ∧ Runs ss cs ∧ last + 1 = ss.length ∧ ss.length ≤ 1000 ∧
  ∀ a H' (m : Nat → Prop) (ks : List Nat), H a = none → Same H H' → Mark ss last m → Idx ss last m ks → Lt K H' a (ssD (kept ss ks)) → Q (.ref a) H'
theorem ok_leaning (F : FnP K "leaning" sLe f fd) (T0 : Ln P w K mg base fR dR) : FnOk P w K mg base CX0 2 f fd ["steps", "last"] (spLean K) := by
  refine F.ok scLe (fun vs H Q E h => ?_) (fun cdv A outer s H vs Q E hr h => ?_)
  · obtain ⟨v, ss, cs, last, rfl, _⟩ := h
    rfl
  obtain ⟨v, ss, cs, last, rfl, hv, R, hl, hlen, q⟩ := h
  have hu := hu_of hr
  have A := runs_ahead R
  have sat : ∀ k : Nat, k < ss.length → ∀ s, ss[k]? = some s → (ssD ss)[k]? = some s.d := fun k hk s e => by
    unfold ssD
    rw [List.getElem?_map, e]
    rfl
  refine ⟨_, PSs.nox (pss_cons (ps_setLc (i := 2) (own := [("number", 3)]) (g := gName 3) (tt := tYes) (by rfl) scLe.nd rfl rfl (sw_true rfl rfl rfl (by decide +kernel)) (pi_range1 (by rfl) T0.mrange (pa_cons (pe_op op_add (pv 1) pe_int) pa_nil)) (blkOk_by (own := [("number", 3)]) (N := ["steps", "last", "needed", "number", "numbers", "kept"]) (sc := defScope sLe) (by decide +kernel)) (fun _ _ _ _ _ => pg_name (i := 3) scLe.nd rfl (Or.inl rfl)) (fun _ _ _ _ _ => pts_nil) (fun _ _ _ _ _ => (pe_cmpR op_eq (pv 3) (pv 1) (nomark _))))
 (pss_cons (ps_for PassesOwn.never rfl (pi_revR (by rfl) T0.mreversed (prg_1 (by rfl) T0.mrange (pe_op op_add (pv 1) pe_int))) (pg_name (i := 3) scLe.nd rfl (Or.inl rfl))
 (pss_one (ps_if (PW.pt (pw_and (pt_val (pe_ix ix_list (pv 2) (pv 3) (fun _ _ => rfl))) (pw_and1 (pt_cmpR op_eq (pe_ix ix_tup (pe_ix ix_list (pv 0) (pv 3) (fun _ _ => rfl)) pe_int (fun _ _ => rfl)) pe_str (nomark _)))))
 (pss_cons (ps_asg pe_bl (pg_sub (pv 2) (pe_ix ix_tup (pe_ix ix_list (pv 0) (pv 3) (fun _ _ => rfl)) pe_int (fun _ _ => rfl)) set_list))
 (pss_one (ps_asg pe_bl (pg_sub (pv 2) (pe_ix ix_tup (pe_ix ix_list (pv 0) (pv 3) (fun _ _ => rfl)) pe_int (fun _ _ => rfl)) set_list)))) pss_nil)))
 (pss_cons (ps_set (i := 4) scLe.nd rfl (Or.inl rfl) pe_dnewK)
 (pss_cons (ps_set (i := 5) scLe.nd rfl (Or.inl rfl) (pe_lst pa_nil))
 (pss_cons (ps_for PassesOwn.never rfl (pi_range1 (by rfl) T0.mrange (pa_cons (pe_op op_add (pv 1) pe_int) pa_nil)) (pg_name (i := 3) scLe.nd rfl (Or.inl rfl))
 (pss_one (ps_if (pt_val (pe_ix ix_list (pv 2) (pv 3) (fun _ _ => rfl)))
 (pss_cons (ps_dput hu (pv 4) (pv 3) (pe_callB call_len_seq (by rfl) T0.mlen PySem.boot_len (pa_cons (pv 5) pa_nil)) rfl)
 (pss_one (ps_expr (pe_bm PySem.F.plainAttrs_list PySem.F.slot_list_append PySem.F.type_list_append mt_append (pv 5) (pa_cons (pe_call T0.GR hr (by rfl) T0.gR T0.kR T0.bR .nil pass0 (pa_cons (pe_ix ix_list (pv 0) (pv 3) (fun _ _ => rfl)) (pa_cons (pv 4) pa_nil))) pa_nil))))) pss_nil)))
 (pss_one (ps_ret (pv 5)))))))), ?_⟩
  refine s_setL Same (K := K) (le_is (le_map (R := Same) (xs := List.range (last + 1)) (enc := fun x : Nat => PyData.int (x : Int)) (f := fun x => .bool (decide (x = last))) (src_r1 (n := last + 1) (da_cons (de_op (de_var (by rfl) (.int (last : Int))) de_int rd_i) da_nil) (by omega)) (by rw [List.length_range]; omega) (fun _ => by rfl) (fun x hx w H' r hw => de_is (de_op (de_var rfl hw) (de_var (by rfl) (.int (last : Int))) rd_eqI) (by congr 1; exact decide_eq_decide.mpr (by omega))) (fun _ _ => rfl)) (es := bsD (fun x => decide (x = last)) (last + 1)) rfl) fun pn H1 n1 s1 l1 => ?_
  have v1 := dpk s1 hv
  refine ⟨_, rfl, _, _, rfl, rfl, _, rfl, by decide, by decide, by omega, by omega, for_rangeC (fun t σ' H' => ∃ (m : Nat → Bool) (u : Option V), Mks ss last t (fun x => m x = true) ∧ Lt K H' pn (bsD m (last + 1)) ∧ Same H H' ∧ σ' = [some v, some (.int (last : Int)), some (.ref pn), u, none, none]) ?_ ?_ ?_⟩
  · refine ⟨fun x => decide (x = last), none, ?_, l1, s1, rfl⟩
    have ex : (fun x => decide (x = last) = true) = fun x => x = last := by
      funext x
      simp
    show Mks ss last 0 (fun x => decide (x = last) = true)
    rw [ex]
    exact Mks.zero ss last
  · rintro t σ' H2 ht ⟨m, u, M, l2, s2, rfl⟩
    have htl : t ≤ last := by omega
    have en : (0 : Int) + (((((last : Int) + 1 - 0).toNat : Nat)) : Int) - 1 + (t : Int) * (-1) = ((last - t : Nat) : Int) := by omega
    obtain ⟨k0, hk0⟩ : ∃ k0, k0 = last - t := ⟨_, rfl⟩
    rw [en, ← hk0]
    have hkl : k0 < ss.length := by omega
    have es := List.getElem?_eq_getElem hkl
    have ed := sat k0 hkl _ es
    have v2 := dpk s2 hv
    cases hs : ss[k0] with
    | giv c =>
      rw [hs] at es ed
      have eb : decide (("given" : Str) = "met") = false := by decide +kernel
      refine s_if Same (K := K) (b := false) (bt_is (bt_and (c := false) (bt_B (de_op (de_var rfl l2.dp) (de_var rfl (.int (k0 : Int))) (rd_ixL (at_nat (bsD_at (by omega : k0 < last + 1)))))) fun _ => bt_is (bt_test (de_op (de_op (de_op (de_var rfl v2) (de_var rfl (.int (k0 : Int))) (rd_ixL (f := (Stp.giv c).d) (at_nat ed))) de_int (rd_ixT (f := .str "given") rfl)) de_str rd_eqS)) eb) (Bool.and_false _)) (fun h => by cases h) (fun _ H3 s3 => ?_)
      exact ⟨m, _, M.skip htl (.inr ⟨c, by rw [← hk0]; exact es⟩), ltk s3 l2, s2.trans s3, rfl⟩
    | met i j n =>
      rw [hs] at es ed
      have eb : decide (("met" : Str) = "met") = true := by decide +kernel
      obtain ⟨hi, hj⟩ := A k0 i j n es
      refine s_if Same (K := K) (b := m k0) (bt_is (bt_and (c := true) (bt_B (de_op (de_var rfl l2.dp) (de_var rfl (.int (k0 : Int))) (rd_ixL (at_nat (bsD_at (by omega : k0 < last + 1)))))) fun _ => bt_is (bt_test (de_op (de_op (de_op (de_var rfl v2) (de_var rfl (.int (k0 : Int))) (rd_ixL (f := (Stp.met i j n).d) (at_nat ed))) de_int (rd_ixT (f := .str "met") rfl)) de_str rd_eqS)) eb) (Bool.and_true _)) (fun hb H3 s3 => ?_) (fun hb H3 s3 => ?_)
      · have v3 := dpk s3 v2
        have dat : ∀ H', Dp K H' v (.list (ssD ss)) → DE Same K (tOp (rIxT K) (tOp (rIxL K) (tVar 0) (tVar 3)) (tC (.int 1))) [some v, some (.int (last : Int)), some (.ref pn), some (.int (k0 : Int)), none, none] H' (.int (i : Int)) := fun H' v' => de_op (de_op (de_var rfl v') (de_var rfl (.int (k0 : Int))) (rd_ixL (f := (Stp.met i j n).d) (at_nat ed))) de_int (rd_ixT (f := .int (i : Int)) rfl)
        have dat2 : ∀ H', Dp K H' v (.list (ssD ss)) → DE Same K (tOp (rIxT K) (tOp (rIxL K) (tVar 0) (tVar 3)) (tC (.int 2))) [some v, some (.int (last : Int)), some (.ref pn), some (.int (k0 : Int)), none, none] H' (.int (j : Int)) := fun H' v' => de_op (de_op (de_var rfl v') (de_var rfl (.int (k0 : Int))) (rd_ixL (f := (Stp.met i j n).d) (at_nat ed))) de_int (rd_ixT (f := .int (j : Int)) rfl)
        refine s_setix (ltk s3 l2) rfl de_bl (dat _ v3) (ixn_nat (by rw [bsD_len]; omega)) (nl_bs _ _) rfl fun H4 o4 s4 l4 => ?_
        rw [bsD_set] at l4
        have k4 : Same H (upd H4 pn o4) := same_mut ((s2.trans s3).trans s4) n1
        refine s_setix l4 rfl de_bl (dat2 _ (dpk k4 hv)) (ixn_nat (by rw [bsD_len]; omega)) (nl_bs _ _) rfl fun H5 o5 s5 l5 => ?_
        rw [bsD_set] at l5
        have M2 := M.mark A htl (by rw [← hk0]; exact hb) (by rw [← hk0]; exact es)
        refine ⟨_, _, ?_, l5, same_mut (k4.trans s5) n1, rfl⟩
        have ex : (fun x => ((m x || x == i) || x == j) = true) = fun x => m x = true ∨ x = i ∨ x = j := by
          funext x
          simp [or_assoc]
        rw [ex]
        exact M2
      · exact ⟨m, _, M.skip htl (.inl (by rw [← hk0, hb]; decide)), ltk s3 l2, s2.trans s3, rfl⟩
  rintro σ' H2 ⟨m, u, M, l2, s2, rfl⟩
  have M' : Mark ss last (fun x => m x = true) := by
    have e : ((last : Int) + 1 - 0).toNat = last + 1 := by omega
    rw [e] at M
    exact M
  clear M
  obtain ⟨KS, hKS⟩ : ∃ KS, KS = (List.range (last + 1)).filter m := ⟨_, rfl⟩
  have I : Idx ss last (fun x => m x = true) KS := by
    rw [hKS]
    refine ⟨idx_range.filter _, fun x => ?_⟩
    rw [List.mem_filter, List.mem_range]
    exact ⟨fun h => h.2, fun h => ⟨by have := M'.le x h; omega, h⟩⟩
  have hlt := idx_lt M' I (by omega)
  refine fun D nD => ?_
  have sD := same_newD nD (.dK [])
  have eD : (upd H2 D (.dK [])) D = some (.dK []) := upd_same
  have s3 := s2.trans sD
  have l3 := ltk sD l2
  have nD0 : H D = none := s2.free nD
  generalize upd H2 D (.dK []) = H3 at sD eD s3 l3 ⊢
  refine s_setL Same (K := K) (le_lst da_nil (by decide)) fun pk H4 n4 s4 l4 => ?_
  have nk0 : H pk = none := s3.free n4
  have s34 := s3.trans s4
  have pkD : pk ≠ D := fun z => by
    have := n4
    rw [z, eD] at this
    cases this
  have pnD : pn ≠ D := fun z => by
    obtain ⟨vs, e⟩ := lt_lst l3
    rw [z, eD] at e
    cases e
  have pnk : pn ≠ pk := fun z => by
    obtain ⟨vs, e⟩ := lt_lst l3
    rw [z, n4] at e
    cases e
  have pre : ∀ t, t ≤ last + 1 → ∃ rest, KS = (List.range t).filter m ++ rest := fun t ht => by
    refine ⟨((List.range (last + 1)).drop t).filter m, ?_⟩
    rw [hKS, ← List.filter_append]
    congr 1
    rw [show List.range t = (List.range (last + 1)).take t by rw [List.take_range, Nat.min_eq_left ht], List.take_append_drop]
  have rk : ∀ t, t ≤ last + 1 → ∀ x ∈ (List.range t).filter m, rank ((List.range t).filter m) x = rank KS x := fun t ht x hx => by
    obtain ⟨rest, e⟩ := pre t ht
    unfold rank
    rw [e, List.idxOf_append, if_pos hx]
  have fl : ∀ t, ((List.range t).filter m).length ≤ t := fun t => by
    have := List.length_filter_le m (List.range t)
    rw [List.length_range] at this
    exact this
  refine ⟨_, rfl, _, _, rfl, rfl, _, rfl, by omega, by omega, for_range (lo := 0) (n := ((last : Int) + 1).toNat) (fun t σ' H' => ∃ (u : Option V), Lt K H' pn (bsD m (last + 1)) ∧ H' D = some (.dK (nkv 0 ((List.range t).filter m))) ∧ Lt K H' pk (((List.range t).filter m).filterMap fun k => (ss[k]?).map fun s => (ren KS s).d) ∧ Same H H' ∧ σ' = [some v, some (.int (last : Int)), some (.ref pn), u, some (.ref D), some (.ref pk)]) ?_ ?_ ?_⟩
  · exact ⟨_, ltk s4 l3, s4 _ _ eD, l4, s34, rfl⟩
  · rintro t σ' H5 ht ⟨u, l5, d5, k5, s5, rfl⟩
    have htl : t < last + 1 := by omega
    have et : (0 : Int) + (t : Int) = (t : Int) := Int.zero_add _
    rw [et]
    refine s_if Same (K := K) (b := m t) (bt_B (de_op (de_var rfl l5.dp) (de_var rfl (.int (t : Int))) (rd_ixL (at_nat (bsD_at htl))))) (fun hb H6 s6 => ?_) (fun hb H6 s6 => ?_)
    · have nx : (List.range (t + 1)).filter m = (List.range t).filter m ++ [t] := by
        rw [List.range_succ, List.filter_append]
        congr 1
        rw [List.filter_cons, hb]
        rfl
      have d6 := s6 _ _ d5
      have k6 := ltk s6 k5
      have flt := fl t
      have len5 : (((List.range t).filter m).filterMap fun k => (ss[k]?).map fun s => (ren KS s).d).length = ((List.range t).filter m).length := by
        have : ∀ l : List Nat, (∀ x ∈ l, x < ss.length) → (l.filterMap fun k => (ss[k]?).map fun s => (ren KS s).d).length = l.length := by
          intro l
          induction l with
          | nil => intro _; rfl
          | cons x r ih =>
            intro h
            rw [List.filterMap_cons_some (b := (ren KS (ss[x]'(h x List.mem_cons_self))).d) (by rw [List.getElem?_eq_getElem (h x List.mem_cons_self)]; rfl), List.length_cons, List.length_cons, ih fun y hy => h y (List.mem_cons_of_mem _ hy)]
        exact this _ fun x hx => by
          have := List.mem_range.mp (List.mem_filter.mp hx).1
          omega
      have nlk : nlA (((List.range t).filter m).filterMap fun k => (ss[k]?).map fun s => (ren KS s).d) = true := nlA_iff.mpr fun y hy => by
        obtain ⟨k, _, e⟩ := List.mem_filterMap.mp hy
        cases es : ss[k]? with
        | none => rw [es] at e; cases e
        | some s =>
          rw [es] at e
          rw [← Option.some.inj e]
          exact nl_stp _
      refine s_dputI Same (d := .int ((((List.range t).filter m).length : Nat) : Int)) rfl (fun H' r => r _ _ d6) (by rw [nkv_len]; omega) (de_is (de_cb (da_cons (de_var rfl k6.dp) da_nil) rc_lenL) (by rw [len5])) (de_var rfl (.int (t : Int))) fun w H7 s7 hw => ?_
      cases hw
      have tn : t ∉ (List.range t).filter m := fun h => by
        have := List.mem_range.mp (List.mem_filter.mp h).1
        omega
      have ep : putK (nkv 0 ((List.range t).filter m)) (Sum.inl (t : Int) : Key) (V.int ((((List.range t).filter m).length : Nat) : Int)) = nkv 0 ((List.range (t + 1)).filter m) := by
        rw [putK_new _ (nkv_no 0 _ t tn), nx, nkv_snoc, Nat.zero_add]
      rw [ep]
      have d7 := s7 _ _ d6
      have k7 : Lt K (upd H7 D (.dK (nkv 0 ((List.range (t + 1)).filter m)))) pk (((List.range t).filter m).filterMap fun k => (ss[k]?).map fun s => (ren KS s).d) := lt_putD d7 (ltk s7 k6) nlk
      have l7 : Lt K (upd H7 D (.dK (nkv 0 ((List.range (t + 1)).filter m)))) pn (bsD m (last + 1)) := lt_putD d7 (ltk s7 (ltk s6 l5)) (nl_bs _ _)
      have s07 : Same H (upd H7 D (.dK (nkv 0 ((List.range (t + 1)).filter m)))) := same_mut ((s5.trans s6).trans s7) nD0
      have e7 : (upd H7 D (.dK (nkv 0 ((List.range (t + 1)).filter m)))) D = some (.dK (nkv 0 ((List.range (t + 1)).filter m))) := upd_same
      generalize upd H7 D (.dK (nkv 0 ((List.range (t + 1)).filter m))) = H8 at k7 l7 s07 e7 ⊢
      have v8 := dpk s07 hv
      have hts : t < ss.length := by omega
      have es := List.getElem?_eq_getElem hts
      generalize hsx : ss[t] = sx at es
      have ed := sat t hts _ es
      have fin : (((List.range (t + 1)).filter m).filterMap fun k => (ss[k]?).map fun s => (ren KS s).d) = (((List.range t).filter m).filterMap fun k => (ss[k]?).map fun s => (ren KS s).d) ++ [(ren KS sx).d] := by
        rw [nx, List.filterMap_append]
        congr 1
        rw [List.filterMap_cons_some (b := (ren KS sx).d) (by rw [es]; rfl)]
        rfl
      have lk : ∀ x, x ≤ t → m x = true → valV (nkv 0 ((List.range (t + 1)).filter m)) (Sum.inl (x : Int) : Key) = some (.int (rank KS x : Int)) := fun x hx mx => by
        have hm : x ∈ (List.range (t + 1)).filter m := List.mem_filter.mpr ⟨List.mem_range.mpr (by omega), mx⟩
        rw [nkv_at 0 _ x hm, Nat.zero_add, rk (t + 1) (by omega) x hm]
      -- kept.append(renumbered(..))
      refine s_app Same (d := (ren KS sx).d) k7 rfl ?_ (by rw [len5]; omega) nlk (nl_stp _) fun H9 s9 o9 l9 tk9 => ?_
      · intro Hx rx Qx qx
        refine (de_op (R := Same) (de_var rfl (dpk rx v8)) (de_var rfl (.int (t : Int))) (rd_ixL (f := sx.d) (at_nat ed)) : DE Same K _ _ Hx _) Hx (Same.refl _) _ fun w1 Hy sy hw1 => ?_
        refine ⟨_, rfl, w1, D, sx, _, rank KS, rfl, hw1, sy _ _ (rx _ _ e7), fun i j n e => ?_, fun v' Hz sz hz => ?_⟩
        · subst e
          obtain ⟨hi, hj⟩ := A t i j n es
          obtain ⟨mi, mj⟩ := M'.b t (by omega) hb i j n es
          exact ⟨lk i (by omega) mi, lk j (by omega) mj⟩
        · rw [← ren_by] at hz
          exact qx v' Hz (sy.trans sz) hz
      · rw [← fin] at l9
        have e9 : (upd H9 pk o9) D = some (.dK (nkv 0 ((List.range (t + 1)).filter m))) := by
          rw [upd_ne pkD.symm]
          exact s9 _ _ e7
        exact ⟨_, lt_other (ltk s9 k7) (ltk s9 l7) pnk (nl_bs _ _), e9, l9, same_mut (s07.trans s9) nk0, rfl⟩
    · have nx : (List.range (t + 1)).filter m = (List.range t).filter m := by
        rw [List.range_succ, List.filter_append, List.filter_cons, hb]
        simp
      rw [nx]
      exact ⟨_, ltk s6 l5, s6 _ _ d5, ltk s6 k5, s5.trans s6, rfl⟩
  · rintro σ' H5 ⟨u, l5, d5, k5, s5, rfl⟩
    have e : ((last : Int) + 1).toNat = last + 1 := by omega
    rw [e, ← hKS] at k5
    have ek : (KS.filterMap fun k => (ss[k]?).map fun s => (ren KS s).d) = ssD (kept ss KS) := by
      unfold ssD kept
      rw [List.map_filterMap]
      congr 1
      funext k
      cases ss[k]? <;> rfl
    rw [ek] at k5
    exact ⟨_, rfl, q pk H5 _ KS nk0 s5 M' I k5⟩
end
end My

set_option maxRecDepth 100000
set_option maxHeartbeats 4000000
/-! sets of texts, few: made of a list, sorted -/
namespace L2
open PySem PySem.Spec PyProof.Rows
/-- the text of an entry -/
def nbr (e : Int × Value) : Int := match e.2 with
  | .int k _ => k
  | _ => 0
def NbrE (P : Program) (w : World) (e : Int × Value) : Prop := ∃ k t, e.2 = .int k t ∧ e.1 = (intKind P w).hash k
/-- the set's own parts: what stands in it (ks, as it stands), a table that can be walked -/
structure NbrS (P : Program) (w : World) (es : Array (Int × Value)) (t : SetTable) (ks : List Int) : Prop where
  all : ∀ e ∈ es.toList, NbrE P w e
  keys : es.toList.map nbr = ks
  nd : ks.Nodup
  few : es.size < scanBound
  fits : t.fits es.size = true
  ris : Ris t.place.toList
  led : w.params.followText "set-order" = true ∨ t.led = true
def SetI (P : Program) (w : World) (h : Heap) (a : Addr) (ks : List Int) : Prop := ∃ o es ep t, h.get? a = some o ∧ o.ExactSet ∧ o.data = .set es ep t ∧ NbrS P w es t ks
section
variable {P : Program} {w : World} {A : Around} {E : Value → Shared → Prop} {s : Shared} {a : Addr} {ks : List Int} {es : Array (Int × Value)} {t : SetTable} {k : Int}
theorem NbrE.eq {e : Int × Value} (x : NbrE P w e) (k : Int) : (intKind P w).is k e.2 = true ↔ nbr e = k := by
  obtain ⟨k0, u, e2, _⟩ := x
  unfold nbr
  rw [e2]
  exact beq_iff_eq
theorem NbrS.elems (x : NbrS P w es t ks) : ElemsOf (intKind P w) es.toList := fun e he => by
  obtain ⟨k, u, e2, e1⟩ := x.all e he
  exact ⟨⟨k, by rw [e2]; exact intKind_is P w k u, e1⟩, by rw [e2]; rfl⟩
theorem NbrS.size (x : NbrS P w es t ks) : es.size = ks.length := by
  have e := congrArg List.length x.keys
  rw [List.length_map, Array.length_toList] at e
  exact e
/-- where the scan ends -/
theorem NbrS.met (x : NbrS P w es t ks) (k : Int) : (k ∈ ks ∧ ∃ j, es.toList.findIdx? (fun e => (intKind P w).is k e.2) = some j) ∨ (k ∉ ks ∧ es.toList.findIdx? (fun e => (intKind P w).is k e.2) = none) := by
  cases q : es.toList.findIdx? (fun e => (intKind P w).is k e.2) with
  | some j =>
    refine .inl ⟨?_, j, rfl⟩
    obtain ⟨hj, p, _⟩ := List.findIdx?_eq_some_iff_getElem.mp q
    have m := List.getElem_mem hj
    rw [← x.keys]
    exact List.mem_map.mpr ⟨_, m, ((x.all _ m).eq k).mp p⟩
  | none =>
    refine .inr ⟨fun m => ?_, rfl⟩
    rw [← x.keys] at m
    obtain ⟨e, he, ek⟩ := List.mem_map.mp m
    have z := List.findIdx?_eq_none_iff.mp q e he
    rw [((x.all e he).eq k).mpr ek] at z
    cases z
/-- the parts laid in another turn -/
theorem NbrS.turn {es' : Array (Int × Value)} {t' : SetTable} (x : NbrS P w es t ks) (pm : es'.toList.Perm es.toList) (f : t'.fits es'.size = true) (r : Ris t'.place.toList) (l : t'.led = t.led) : ∃ ks', NbrS P w es' t' ks' ∧ ks'.Perm ks := by
  have pk : (es'.toList.map nbr).Perm ks := by
    rw [← x.keys]
    exact pm.map nbr
  have z : es'.size = es.size := by
    have := pm.length_eq
    rw [Array.length_toList, Array.length_toList] at this
    exact this
  exact ⟨_, ⟨fun e he => x.all e (pm.mem_iff.mp he), rfl, pk.nodup_iff.mpr x.nd, by rw [z]; exact x.few, f, r, x.led.imp id fun q => l.trans q⟩, pk⟩
/-- stored; where the table is too full, laid anew -/
theorem setI_store {gw : Bool → Sem Unit} (hg : ∀ (b : Bool) (s₁ : Shared) (Q : Unit → Shared → Prop), Q () s₁ → wpAny (model P w) A (gw b) Q E s₁) {o : Obj} {es0 es1 : Array (Int × Value)} {ep : Nat} {t0 t1 : SetTable} {dm : Bool} {R : Option Bool → Shared → Prop} (ho : s.heap.get? a = some o) (hx : o.ExactSet) (hd : o.data = .set es0 ep t0) (x : NbrS P w es1 t1 ks)
    (hR : ∀ h' ks', Heap.SameBut a s.heap h' → SetI P w h' a ks' → ks'.Perm ks → R (some true) { s with heap := h' }) :
    wpAny (model P w) A (do
      storeSet a es1 t1
      if (!dm && t1.tooFull) = true then do
          gw (relayAll t1 es1 (SetTable.grown es1.size)).2.2
          storeSet a (relayAll t1 es1 (SetTable.grown es1.size)).1 (relayAll t1 es1 (SetTable.grown es1.size)).2.1
          pure (some true)
        else pure (some true)) R E s := by
  refine wpAny_bind (wpAny_storeSet_of ho hd ?_ (fits_of_scanBound x.few))
  have ho1 := store_at (es' := es1) (t' := t1) ho hd
  have same1 := Heap.SameBut.update s.heap a (Obj.putSet es1 t1)
  by_cases c : (!dm && t1.tooFull) = true
  · rw [if_pos c]
    obtain ⟨ks2, x2, p2⟩ := x.turn (relayAll_perm t1 es1 (SetTable.grown es1.size)) (relayAll_fits t1 es1 _) (relayAll_ris t1 es1 _) (relayAll_led t1 es1 _)
    refine wpAny_bind (hg _ _ _ ?_)
    refine wpAny_bind (wpAny_storeSet_of ho1 rfl ?_ (fits_of_scanBound x2.few))
    exact wpAny_pure (hR _ ks2 (same1.trans (Heap.SameBut.update _ a _)) ⟨_, _, _, _, store_at ho1 rfl, hx, rfl, x2⟩ p2)
  · rw [if_neg c]
    exact wpAny_pure (hR _ ks same1 ⟨_, _, _, _, ho1, hx, rfl, x⟩ (List.Perm.refl _))
theorem setI_add {tk : Tok} {Q : Bool → Shared → Prop} (S : SetI P w s.heap a ks) (room : ks.length + 1 < scanBound)
    (hQ : ∀ h' b ks', Heap.SameBut a s.heap h' → SetI P w h' a ks' → (k ∈ ks → ks' = ks) → (k ∉ ks → ks'.Perm (k :: ks)) → Q b { s with heap := h' }) :
    wpAny (model P w) A (setAddHashed a (.int k tk) ((intKind P w).hash k)) Q E s := by
  obtain ⟨o, es, ep, t, ho, hx, hd, x⟩ := S
  have sc : (Value.int k tk).scannable = true := rfl
  unfold setAddHashed setAddHashedIn
  refine wpAny_holding (wpAny_bind (wpAny_setState_of ho hd x.fits ?_))
  dsimp only
  rw [byScan_of sc x.few x.elems]
  simp only [↓reduceIte]
  unfold setAddByScan
  refine wpAny_bind (wpAny_bind (wpAny_rule (wpAny_bind (wpAny_setScan_of (intKind_is P w k tk) ho hd x.fits x.elems ?_))))
  rcases x.met k with ⟨hk, j, e⟩ | ⟨hk, e⟩
  · rw [e]
    dsimp only
    exact wpAny_pure (wpAny_pure (hQ s.heap false ks (Heap.SameBut.refl a s.heap) ⟨o, es, ep, t, ho, hx, hd, x⟩ (fun _ => rfl) (fun z => absurd hk z)))
  · rw [e]
    dsimp only
    have pm := layNew_perm t es ((intKind P w).hash k) (.int k tk)
    have f1 := layNew_fits t es ((intKind P w).hash k) (.int k tk)
    have r1 := layNew_ris t es ((intKind P w).hash k) (.int k tk) x.ris
    have l1 := layNew_led t es ((intKind P w).hash k) (.int k tk)
    generalize layNew t es ((intKind P w).hash k) (.int k tk) = Z at pm f1 r1 l1 ⊢
    obtain ⟨es1, t1, dm, gave⟩ := Z
    dsimp only at pm f1 r1 l1 ⊢
    rw [Array.toList_push] at pm
    have pc : es1.toList.Perm (((intKind P w).hash k, Value.int k tk) :: es.toList) := pm.trans (List.perm_append_singleton _ _)
    have pk : (es1.toList.map nbr).Perm (k :: ks) := by
      rw [← x.keys]
      exact pc.map nbr
    have sz : es1.size = ks.length + 1 := by
      have := pk.length_eq
      rw [List.length_map, Array.length_toList, List.length_cons] at this
      exact this
    have x1 : ∀ pl : SetTable, pl.fits es1.size = true → Ris pl.place.toList → pl.led = t1.led → NbrS P w es1 pl (es1.toList.map nbr) := fun pl f r l =>
      ⟨fun e he => by
        rcases List.mem_cons.mp (pc.mem_iff.mp he) with q | q
        · exact ⟨k, tk, by rw [q], by rw [q]⟩
        · exact x.all e q, rfl, pk.nodup_iff.mpr (List.nodup_cons.mpr ⟨hk, x.nd⟩), by rw [sz]; exact room, f, r, x.led.imp id fun q => by rw [l, l1]; exact q⟩
    have fin : ∀ h' ks', Heap.SameBut a s.heap h' → SetI P w h' a ks' → ks'.Perm (es1.toList.map nbr) → Q true { s with heap := h' } := fun h' ks' sb S' p =>
      hQ h' true ks' sb S' (fun z => absurd z hk) (fun _ => p.trans pk)
    have hg : ∀ (b : Bool) (s₁ : Shared) (Q1 : Unit → Shared → Prop), Q1 () s₁ → wpAny (model P w) A (match b with | true => rule "set.scan.the-table-gave-way" | false => pure ()) Q1 E s₁ := fun b s₁ Q1 q => by
      cases b
      · exact wpAny_pure q
      · exact wpAny_rule q
    refine wpAny_bind (hg _ _ _ ?_)
    by_cases c : t1.plain = true
    · rw [if_pos c, hashByValue_scannable 8 sc]
      refine wpAny_bind (wpAny_pure ?_)
      refine setI_store hg ho hx hd (x1 _ ?_ ?_ ?_) fun h' ks' sb S' p => wpAny_pure (fin h' ks' sb S' p)
      · split
        · exact f1
        · exact SetTable.fits_plain_off f1
      · split <;> exact r1
      · split <;> rfl
    · rw [if_neg c]
      refine wpAny_bind (wpAny_pure ?_)
      refine setI_store hg ho hx hd (x1 _ ?_ ?_ ?_) fun h' ks' sb S' p => wpAny_pure (fin h' ks' sb S' p)
      · exact f1
      · exact r1
      · rfl
end
end L2

set_option maxRecDepth 100000
set_option maxHeartbeats 8000000
namespace L2
open PySem PySem.Spec PyProof.Rows
section
variable {P : Program} {w : World} {A : Around} {E : Value → Shared → Prop} {s : Shared} {a : Addr} {ks : List Int}
theorem SetI.at {h h' : Heap} (S : SetI P w h a ks) (k : ∀ o, h.get? a = some o → h'.get? a = some o) : SetI P w h' a ks := by
  obtain ⟨o, es, ep, t, ho, r⟩ := S
  exact ⟨o, es, ep, t, k o ho, r⟩
theorem setI_fresh {h : Heap} (ho : h.get? a = some { cls := .type "set", dict := none, data := .set #[] 0 (.fresh 0 0 (!w.params.followText "set-order")) }) : SetI P w h a [] := by
  refine ⟨_, #[], 0, _, ho, ⟨rfl, rfl, rfl⟩, rfl, fun e he => by simp at he, rfl, List.nodup_nil, by decide, rfl, List.Pairwise.nil, ?_⟩
  show _ ∨ (!w.params.followText "set-order") = true
  cases w.params.followText "set-order"
  · exact .inr rfl
  · exact .inl rfl
/-- of the first i of xs the unlike ones -/
structure MetI (xs : List Int) (i : Nat) (ks : List Int) : Prop where
  nd : ks.Nodup
  mem : ∀ z, z ∈ ks ↔ z ∈ xs.take i
  le : ks.length ≤ i
theorem MetI.next {xs : List Int} {i : Nat} {ks ks' : List Int} {k : Int} (m : MetI xs i ks) (h : xs[i]? = some k) (old : k ∈ ks → ks' = ks) (new : k ∉ ks → ks'.Perm (k :: ks)) : MetI xs (i + 1) ks' := by
  have e : xs.take (i + 1) = xs.take i ++ [k] := by rw [List.take_add_one, h]; rfl
  by_cases hk : k ∈ ks
  · rw [old hk]
    refine ⟨m.nd, fun z => ?_, Nat.le_succ_of_le m.le⟩
    rw [e, List.mem_append, ← m.mem z, List.mem_singleton]
    exact ⟨.inl, fun q => q.elim id fun q => q ▸ hk⟩
  · have p := new hk
    refine ⟨p.nodup_iff.mpr (List.nodup_cons.mpr ⟨hk, m.nd⟩), fun z => ?_, by rw [p.length_eq]; exact Nat.succ_le_succ m.le⟩
    rw [e, List.mem_append, ← m.mem z, List.mem_singleton, p.mem_iff, List.mem_cons]
    exact Or.comm
/-- the loop of set(xs) -/
theorem setI_loop {I : Addr} {xs : List Int} {R : Result → Shared → Prop} {fp wr : List Addr} {G : Array GenState → Array GenState → Prop} {St : Nat → Shared → Prop} {Pv : Nat → Value → Prop}
    (W : WalksS P w A.in1 I fp wr G xs.length Pv St) (out : a ∉ fp) (few : xs.length + 1 < scanBound) (val : ∀ i v, Pv i v → ∃ k t, xs[i]? = some k ∧ v = .int k t)
    (fin : ∀ s' ks, Moved (a :: wr) G s s' → SetI P w s'.heap a ks → MetI xs xs.length ks → R (.ok (.ret .none)) s') (st : St 0 s) (S : SetI P w s.heap a []) : codeAny (model P w) A (.builtin "set.update.loop" ⟨[.ref a, .ref I], []⟩) R s := by
  have aw : a ∉ wr := fun h => out (W.sub _ h)
  have more : ∀ b ∈ wr, b ∈ a :: wr := fun b hb => List.mem_cons_of_mem _ hb
  have go : ∀ (m i : Nat) (s1 : Shared) (ks : List Int), xs.length - i = m → i ≤ xs.length → St i s1 → SetI P w s1.heap a ks → MetI xs i ks → (∀ s' ks, Moved (a :: wr) G s1 s' → SetI P w s'.heap a ks → MetI xs xs.length ks → R (.ok (.ret .none)) s') →
      codeAny (model P w) A (.builtin "set.update.loop" ⟨[.ref a, .ref I], []⟩) R s1 := by
    intro m
    induction m with
    | zero =>
      intro i s1 ks hm hi st1 S1 met fin1
      obtain rfl : i = xs.length := by omega
      refine codeAny_builtin F.entry_set_update_loop ?_
      rw [Around.under_plainId F.plain_set_update_loop _]
      refine wpAny_bind (W.done s1 _ _ st1 fun s2 mv => ?_)
      exact wpAny_pure (fin1 s2 ks (mv.mono more) (S1.at fun o e => mv.heap a o aw e) met)
    | succ m ih =>
      intro i s1 ks hm hi st1 S1 met fin1
      have lt : i < xs.length := by omega
      refine codeAny_builtin F.entry_set_update_loop ?_
      rw [Around.under_plainId F.plain_set_update_loop _]
      refine wpAny_bind (W.item i s1 _ _ lt st1 fun v s2 pv st2 mv => ?_)
      obtain ⟨k, tk, hk, rfl⟩ := val i v pv
      have S2 := S1.at (h' := s2.heap) fun o e => mv.heap a o aw e
      refine wpAny_bind (wpAny_holding ?_)
      show wpAny _ A.in1 (setAdd a (.int k tk)) _ _ s2
      unfold setAdd
      refine wpAny_holding (wpAny_bind ((intKind P w).pyHash (k := k) (intKind_is P w k tk) ?_))
      refine setI_add (s := { s2 with toks := s2.toks + 1 }) S2 (by have := met.le; omega) fun h3 b ks3 sb S3 c1 c2 => ?_
      refine wpAny_pure ⟨plainId_quiet F.plain_set_update_loop _, ih (i + 1) _ ks3 (by omega) lt (W.frame _ s2 _ _ st2 (Nat.le_succ _) fun c hc o e => (sb.2 c fun z => out (z ▸ hc)).trans e) S3 (met.next hk c1 c2) fun s4 ks4 mv4 S4 m4 => ?_⟩
      exact fin1 s4 ks4 (Moved.trans W.gtrans ((mv.mono more).then_heap (Nat.le_succ _) fun c o hc e => (sb.2 c fun z => hc (z ▸ List.mem_cons_self)).trans e) mv4) S4 m4
  exact go xs.length 0 s [] (by omega) (Nat.zero_le _) st S ⟨List.nodup_nil, fun z => by simp, Nat.zero_le _⟩ fin
/-- a set with nothing in it -/
abbrev noNbr (w : World) : Obj := { cls := .type "set", dict := none, data := .set #[] 0 (.fresh 0 0 (!w.params.followText "set-order")) }
theorem intsAre_len : ∀ {vs : List Value} {xs : List Int}, IntsAre vs xs → vs.length = xs.length
  | _, _, .nil => rfl
  | _, _, .cons _ _ r => congrArg Nat.succ (intsAre_len r)
theorem nbrs_at {vs : List Value} {xs : List Int} (r : IntsAre vs xs) : ∀ (i : Nat) (v : Value), vs[i]? = some v → ∃ k t, xs[i]? = some k ∧ v = .int k t := by
  induction r with
  | nil => intro i v h; simp at h
  | cons k t r ih =>
    intro i v h
    cases i with
    | zero => exact ⟨k, t, rfl, (Option.some.inj h).symm⟩
    | succ i => exact ih i v h
/-- set's own __init__ over a list of texts -/
theorem setI_init {l a : Addr} {items : Array Value} {xs : List Int} {R : Value → Shared → Prop} (calm : A.handled = none) (hl : s.heap.IsList l items) (r : IntsAre items.toList xs) (few : xs.length + 1 < scanBound) (ha : s.heap.get? a = some (noNbr w)) (la : l < a) (top : a + 1 = s.heap.objs.size)
    (q : ∀ h' tk ks, SetI P w h' a ks → MetI xs xs.length ks → (∀ b o, b ≠ a → s.heap.get? b = some o → h'.get? b = some o) → R .none { s with heap := h', toks := tk }) :
    codeAny (model P w) A (.call (.builtin "set.__init__") ⟨[.ref a, .ref l], []⟩) (wants R E) s := by
  have ty : Shared.TypeIs s (.ref a) "set" := ⟨_, ha, rfl⟩
  refine codeAny_call_builtin (R := wants R E) F.called_set.init.plain F.entry_set_init (check_set_init_1 ty ?_)
  obtain ⟨ol, hol, hcl, nl, hdl⟩ := id hl
  obtain ⟨ocls, odict, odata, oslots⟩ := ol
  simp only at hcl hdl
  subst hcl hdl
  have no1 := F.sub_list_set
  have no2 := F.sub_list_frozenset
  have no3 : (Value.type "list" == Value.type "dict") = false := by decide
  unfold Builtin.«set.__init__» noKeywords Builtin.Frozenset.updateFrom
  generalize hPI : pyIter = PI
  wp_walk
  subst hPI
  refine wpAny_pyIter_list hl (wpAny_bind (wpAny_runValue ?_))
  have calm3 : A.in1.in1.handled = none := by simp [calm]
  have as : a < s.heap.objs.size := Nat.lt_of_lt_of_eq (Nat.lt_succ_self a) top
  have nl : l ≠ s.heap.objs.size := Nat.ne_of_lt (Nat.lt_trans la as)
  have na : a ∉ [s.heap.objs.size, l] := by
    simp only [List.mem_cons, List.not_mem_nil, or_false, not_or]
    exact ⟨Nat.ne_of_lt as, Nat.ne_of_gt la⟩
  have sz : items.size = xs.length := by rw [← intsAre_len r, Array.length_toList]
  have W := (Walks.list (prog := P) (w := w) calm3 s.heap.objs.size l nl items).toS
  rw [sz] at W
  refine setI_loop W na few (fun i v h => nbrs_at r i v (by rw [Array.getElem?_toList]; exact h)) (fun s2 ks mv S m => ?_) ⟨⟨_, Heap.get?_push_size _ rfl, rfl, rfl⟩, hl.push _⟩ (setI_fresh (Heap.get?_push_of_some _ ha))
  obtain ⟨h2, g2, d2, t2, o2⟩ := s2
  obtain rfl : g2 = s.gens := mv.gens
  obtain rfl : d2 = s.drawn := mv.drawn
  obtain rfl : o2 = s.os := mv.os
  refine wpAny_pure ?_
  show wpAny _ _ (ret Value.none) _ _ _
  exact wpAny_pure (q h2 t2 ks S m fun b o hb e => mv.heap b o (by
    simp only [List.mem_cons, List.not_mem_nil, or_false, not_or]
    exact ⟨hb, Nat.ne_of_lt (Heap.lt_size e)⟩) (Heap.get?_push_of_some _ e))
set_option maxHeartbeats 3200000 in
/-- set(xs), xs a list of texts -/
theorem setI_call {l : Addr} {items : Array Value} {xs : List Int} {Q : Value → Shared → Prop} (calm : A.handled = none) (hl : s.heap.IsList l items) (r : IntsAre items.toList xs) (few : xs.length + 1 < scanBound)
    (q : ∀ h' tk ks, SetI P w h' s.heap.objs.size ks → MetI xs xs.length ks → (∀ b o, s.heap.get? b = some o → h'.get? b = some o) → Q (.ref s.heap.objs.size) { s with heap := h', toks := tk }) :
    wpAny (model P w) A (call (.type "set") [.ref l]) Q E s := by
  have made := F.called_set.made
  have sub := F.called_set.sub
  have not1 := F.called_set.notType
  have can := F.called_set.canCreate
  have one := F.typeCall_set_1 (.ref l)
  obtain ⟨c, tl, mro⟩ := F.called_set.mro
  refine wpAny_call (codeAny_of_tree ?_)
  refine wpAny_pure ⟨Code.quiet_builtin _ (by decide +kernel), codeAny_builtin F.entry_type_call ?_⟩
  rw [Around.under_plain (weight_type_call_type "set" [.ref l] []) rfl]
  repeat (any_goals (first | assumption | wp_step))
  refine codeAny_mono (code_set_led1 (.ref l) (E := E) (Q₁ := fun v s1 => v = .ref s.heap.objs.size ∧ s1 = { s with heap := s.heap.push (noNbr w) }) ⟨rfl, rfl⟩) fun res s1 z => ?_
  cases res with
  | error e => exact z
  | ok fl =>
    cases fl with
    | ret v =>
      obtain ⟨rfl, rfl⟩ := z
      have at_ : (s.heap.push (noNbr w)).get? s.heap.objs.size = some (noNbr w) := Heap.get?_push_size _ rfl
      have ty : Shared.TypeIs { s with heap := s.heap.push (noNbr w) } (.ref s.heap.objs.size) "set" := ⟨_, at_, rfl⟩
      have ini := F.called_set.init.lookup
      have bnd := F.called_set.init.bind (.ref s.heap.objs.size)
      repeat (any_goals (first | assumption | wp_step))
      have lt : l < s.heap.objs.size := by
        obtain ⟨_, e, _⟩ := hl
        exact Heap.lt_size e
      refine codeAny_mono (setI_init (E := E) (s := { s with heap := s.heap.push (noNbr w) }) (R := fun v s2 => v = .none ∧ ∃ h' tk ks, s2 = { s with heap := h', toks := tk } ∧ SetI P w h' s.heap.objs.size ks ∧ MetI xs xs.length ks ∧ (∀ b o, s.heap.get? b = some o → h'.get? b = some o))
        (by simp [calm]) (hl.push _) r few at_ lt (Heap.size_push ..).symm fun h' tk ks S m k => ⟨rfl, h', tk, ks, rfl, S, m, fun b o e => k b o (Nat.ne_of_lt (Heap.lt_size e)) (Heap.get?_push_of_some _ e)⟩) fun res2 s2 z2 => ?_
      cases res2 with
      | error e => exact z2
      | ok fl2 =>
        cases fl2 with
        | ret v =>
          obtain ⟨rfl, h', tk, ks, rfl, S, m, k⟩ := z2
          repeat (any_goals (first | assumption | wp_step))
          exact q h' tk ks S m k
        | _ => exact z2.elim
    | _ => exact z.elim
end
end L2

set_option maxRecDepth 100000
set_option maxHeartbeats 8000000
namespace L2
open PySem PySem.Spec PyProof.Rows
section
variable {P : Program} {w : World} {A : Around} {E : Value → Shared → Prop} {s : Shared} {a : Addr} {ks : List Int}
theorem ints_of_nbr : ∀ (l : List (Int × Value)), (∀ e ∈ l, NbrE P w e) → IntsAre (l.map (·.2)) (l.map nbr)
  | [], _ => .nil
  | e :: l, h => by
    obtain ⟨k, u, e2, _⟩ := h e List.mem_cons_self
    have q : nbr e = k := by
      unfold nbr
      rw [e2]
    rw [List.map_cons, List.map_cons, q, e2]
    exact .cons k u (ints_of_nbr l fun x hx => h x (List.mem_cons_of_mem _ hx))
/-- texts in another turn are texts -/
theorem ints_perm {vs us : List Value} {xs : List Int} (r : IntsAre us xs) (p : vs.Perm us) : ∃ ys, IntsAre vs ys ∧ ys.Perm xs := by
  induction p generalizing xs with
  | nil => exact ⟨xs, r, .refl _⟩
  | cons x _ ih =>
    cases r with
    | cons k t r =>
      obtain ⟨ys, h1, h2⟩ := ih r
      exact ⟨k :: ys, .cons k t h1, h2.cons k⟩
  | swap x y l =>
    cases r with
    | cons k t r =>
      cases r with
      | cons j u r => exact ⟨_, .cons j u (.cons k t r), .swap k j _⟩
  | trans _ _ ih1 ih2 =>
    obtain ⟨ys, h1, h2⟩ := ih2 r
    obtain ⟨zs, h3, h4⟩ := ih1 h1
    exact ⟨zs, h3, h4.trans h2⟩
/-- sorted(a set of texts) -/
theorem setI_sorted {Q : Value → Shared → Prop} (S : SetI P w s.heap a ks) (calm : A.handled = none) (few : ks.length ≤ 1000)
    (hQ : ∀ s' p (out : Array Value) (c : Nat) (ys : List Int), (∀ b o, s.heap.get? b = some o → s'.heap.get? b = some o) → s'.gens = s.gens → s'.os = s.os → s.heap.objs.size ≤ p →
      s'.heap.get? p = some (seqObj "list" out c) → IntsAre out.toList ys → ys.Perm ks → ys.Pairwise (· ≤ ·) → Q (.ref p) s') :
    wpAny (model P w) A (call (.builtin "sorted") [.ref a]) Q E s := by
  obtain ⟨o, es, ep, t, ho, hx, hd, x⟩ := S
  refine Calls.call_function_entry kind_sorted plain_sorted entry_sorted (args_sorted1 _) ?_
  unfold Builtin.«sorted»
  refine wpAny_bind (m := checkCount "sorted" 1 1 _) (wpAny_pure ?_)
  refine wpAny_bind (collect_set (A := A.in1) calm ⟨o, ho, hx.1, hd⟩ x.fits x.few x.ris x.led fun s1 vs keep big gs os pm => ?_)
  obtain ⟨zs, rz, pz⟩ := ints_perm (ints_of_nbr es.toList x.all) pm
  rw [x.keys] at pz
  have lv : vs.length = ks.length := by
    have e1 := intsAre_len rz
    rw [e1, pz.length_eq]
  have line : vs.length ≤ sizeLine := by
    rw [lv, sizeLine_eq]
    omega
  refine wpAny_bind (wpAny_newList ?_ line)
  have at_ : (s1.heap.push (seqObj "list" vs.toArray 0)).get? s1.heap.objs.size = some (seqObj "list" vs.toArray 0) := Heap.get?_push_size _ rfl
  refine wpAny_bind (wpAny_holding (wpAny_call_entry slot_list_sort ⟨_, at_, rfl⟩ entry_list_sort ?_ (args_list_sort _)))
  refine list_sort_treeKAny intKind_oneLt at_ rz.keysOfInt (fun v1 v2 rest e => keyKind_ints (by rw [← e]; exact rz)) line fun st hp hs => ?_
  obtain ⟨ys, r1, p1, o1⟩ := sorted_out rz hp (sortedTo_of_int hs)
  obtain ⟨c, hc⟩ := sortedHeap_at (vs := vs) (out := (arrOf st).map (·.2)) at_
  refine ⟨_, rfl, wpAny_pure ⟨_, rfl, hQ _ s1.heap.objs.size _ c ys (fun b u e => ?_) gs os big hc r1 (p1.trans pz) o1⟩⟩
  have lt := Heap.lt_size (keep b u e)
  refine (sortedHeap_old (Nat.ne_of_lt lt) ?_).trans (Heap.get?_push_of_some _ (keep b u e))
  rw [Heap.size_push]
  exact Nat.lt_succ_of_lt lt
end
/-- at a the set of the texts ks -/
def SetIO (P : Program) (w : World) (a : Addr) (ks : List Int) : HO := .ext fun h => SetI P w h a ks
theorem setIO_ok {P : Program} {w : World} {H : Hp} {h : Heap} {a : Addr} {ks : List Int} (S : SetI P w h a ks) : ObjOk P w H h a (SetIO P w a ks) := by
  refine ⟨S, ?_, fun h1 h2 S1 k => S1.at k⟩
  obtain ⟨o, es, ep, t, ho, _⟩ := S
  exact ⟨o, ho⟩
section
variable {X : Cx}
/-- set(xs), xs a list of texts: the unlike ones, in whatever turn -/
def rSetOfI (K : PySem.W.Frag) (P : Program) (w : World) : List V → Hp → VK → Prop := fun vs H Q => ∃ (l : Addr) (xs : List Int), vs = [.ref l] ∧ SqL K H l (xs.map V.int) ∧ xs.length ≤ 1000 ∧
  ∀ (p : Addr) (ks : List Int), H p = none → ks.Nodup → (∀ z, z ∈ ks ↔ z ∈ xs) → ks.length ≤ xs.length → Q (.ref p) (upd H p (SetIO P w p ks))
theorem cr_setOfI (hc : X.calm = true) : CallR X (.type "set") (rSetOfI X.K X.prog X.w) := by
  intro pins s σ H vs us Q I r h
  obtain ⟨l, xs, rfl, hs, few, q⟩ := h
  obtain ⟨its, rv, hl, _⟩ := I.list hs
  rw [Vals.ref1 r]
  refine setI_call (I.ok.hd hc) hl.isList (by simpa using rv.ints) (by unfold scanBound; omega) fun h' tk ks S m k => ?_
  have new : H s.heap.objs.size = none := I.hok.fresh (Nat.le_refl _)
  exact ⟨.ref _, _, I.laid (t' := tk) k (Nat.le_refl _) (setIO_ok S), rfl, q _ ks new m.nd (fun z => by rw [m.mem z, List.take_length]) m.le⟩
/-- sorted(a set of texts) -/
def rSortedSI (P : Program) (w : World) : List V → Hp → VK → Prop := fun vs H Q => ∃ (a : Addr) (ks : List Int), vs = [.ref a] ∧ H a = some (SetIO P w a ks) ∧ ks.length ≤ 1000 ∧
  ∀ (ys : List Int) (p : Addr), ys.Perm ks → ys.Pairwise (· ≤ ·) → H p = none → Q (.ref p) (upd H p (.lst (ys.map V.int)))
theorem cr_sortedSI (hc : X.calm = true) : CallR X (.builtin "sorted") (rSortedSI X.prog X.w) := by
  intro pins s σ H vs us Q I r h
  obtain ⟨a, ks, rfl, ha, few, q⟩ := h
  rw [Vals.ref1 r]
  have S : SetI X.prog X.w s.heap a ks := (I.hok a _ ha).1
  refine setI_sorted S (I.ok.hd hc) few fun s' p out c ys k g o hp at_ r1 p1 o1 => ?_
  obtain ⟨h', g', d', t', os'⟩ := s'
  obtain rfl : g' = s.gens := g
  obtain rfl : os' = s.os := o
  have new : H p = none := I.hok.fresh hp
  have len : (ys.map V.int).length ≤ sizeLine := by
    rw [List.length_map, p1.length_eq]
    exact Nat.le_of_lt (small1000 (by omega))
  have J : Inv X pins σ (upd H p (.lst (ys.map V.int))) { s with heap := h', gens := s.gens, drawn := d', toks := t' } :=
    I.call (ch := []) (Un.laid k hp new) (I.hok.laid k hp ⟨len, out.toList, c, vals_of_ints r1, at_⟩) I.bare (fun _ z => nomatch z)
  exact ⟨.ref p, _, J, rfl, q ys p p1 o1 new⟩
end
end L2

set_option maxRecDepth 100000
set_option maxHeartbeats 4000000
namespace My
open PySem PySem.Spec PyProof.Rows L2 Dl
abbrev sTr : Stmt := top 28
abbrev sLt : Stmt := top 39
theorem scTr : FnScope ["chain"] ["chain"] (defScope sTr) := ⟨rfl, rfl, rfl, by decide +kernel, rfl, by decide +kernel, by decide +kernel⟩
theorem scLt : FnScope ["_law_steps", "_law_leaned", "_law_k", "_law_left", "_law_found", "_law_step"] ["_law_steps"] (defScope sLt) := ⟨rfl, rfl, rfl, by decide +kernel, rfl, by decide +kernel, by decide +kernel⟩
theorem runs_nofail {ss : List Stp} {cs cls : List Cl} {k : Nat} {x : PD} (R : Runs ss cs) (h : runO ((ssD ss).take k) = some cls) (e : (ssD ss)[k]? = some x) (st : stepO x cls = none) : False := by
  have h1 := runs_pre R (k + 1)
  unfold Runs at h1
  have e1 : ssD (ss.take (k + 1)) = (ssD ss).take (k + 1) := by
    unfold ssD
    rw [List.map_take]
  rw [e1, runO_next e, h] at h1
  have h2 : runF cls x = some (cs.take (k + 1)) := h1
  unfold runF at h2
  rw [st] at h2
  cases h2
theorem nd_lenN : ∀ (l m : List Nat), l.Nodup → (∀ z ∈ l, z ∈ m) → l.length ≤ m.length
  | [], _, _, _ => Nat.zero_le _
  | x :: r, m, nd, hm => by
    obtain ⟨nx, nr⟩ := List.nodup_cons.mp nd
    have hx := hm x List.mem_cons_self
    have ih := nd_lenN r (m.erase x) nr fun z hz => (List.mem_erase_of_ne fun e => nx (by rw [← e]; exact hz)).mpr (hm z (List.mem_cons_of_mem _ hz))
    have e := List.length_erase_of_mem hx
    have pos := List.length_pos_of_mem hx
    rw [List.length_cons]
    omega
/-- what is asked of a Chain's steps: these are such -/
theorem fits_runs {ss : List Stp} {cs : List Cl} (R : Runs ss cs) (g : ∀ c ∈ cs, GoodC c) (gl : ∀ c ∈ cs, c.length ≤ 2000) (pos : 0 < ss.length) (len : ss.length ≤ 20000) : Fits (ssD ss) := by
  have hl := runs_len R
  have nm : ∀ c ∈ cs, ∀ l ∈ c, l.1.length ≤ 12 := fun c hc l h => by
    have h1 := (g c hc).nm l h
    unfold nameB at h1
    have h2 := (Bool.and_eq_true_iff.mp h1).1
    simp only [Bool.not_eq_true', decide_eq_false_iff_not] at h2
    omega
  have fewc : ∀ c ∈ cs, fewD (clD c) = true := fun c hc => by
    show (decide ((c.map litD).length ≤ 20000) && fewA (c.map litD)) = true
    rw [List.length_map, decide_eq_true (by have := gl c hc; omega), Bool.true_and]
    refine fewA_iff.mpr fun x hx => ?_
    obtain ⟨l, hl, rfl⟩ := List.mem_map.mp hx
    have := nm c hc l hl
    show (decide (2 ≤ 20000) && (decide (l.1.length ≤ 1000) && (true && true))) = true
    rw [decide_eq_true (by omega : l.1.length ≤ 1000)]
    rfl
  refine ⟨fun e => ?_, by unfold ssD; rw [List.length_map]; exact len, fun p hp => ?_, fun p hp => ?_, fun k cls h c hc => ?_⟩
  · have := congrArg List.length e
    unfold ssD at this
    rw [List.length_map] at this
    simp only [List.length_nil] at this
    omega
  · obtain ⟨s, hs, rfl⟩ := List.mem_map.mp hp
    obtain ⟨k, hk, e⟩ := List.mem_iff_getElem.mp hs
    have es : ss[k]? = some s := by rw [List.getElem?_eq_getElem hk, e]
    have ec : cs[k]? = some cs[k] := List.getElem?_eq_getElem (by omega)
    have st := runs_at R es ec
    cases s with
    | giv c =>
      have : c = cs[k] := by
        have st' : (if clauseB (clD c) = true then some c else none) = some cs[k] := st
        by_cases h : clauseB (clD c) = true
        · rw [if_pos h] at st'
          exact Option.some.inj st'
        · rw [if_neg h] at st'
          cases st'
      show (decide (2 ≤ 20000) && (decide ((("given" : Str)).length ≤ 1000) && (fewD (clD c) && true))) = true
      rw [this, fewc _ (List.getElem_mem _)]
      decide +kernel
    | met i j n =>
      have st' : (match (cs.take k)[i]?, (cs.take k)[j]? with
        | some x, some y => meet x y n
        | _, _ => none) = some cs[k] := st
      have hn : n.length ≤ 12 := by
        cases ea : (cs.take k)[i]? with
        | none => rw [ea] at st'; cases st'
        | some a =>
          cases eb : (cs.take k)[j]? with
          | none => rw [ea, eb] at st'; cases st'
          | some b =>
            rw [ea, eb] at st'
            have st2 : meet a b n = some cs[k] := st'
            unfold meet at st2
            by_cases h : (n, true) ∈ a ∧ (n, false) ∈ b
            · exact nm a (List.mem_of_mem_take (List.mem_of_getElem? ea)) _ h.1
            · rw [if_neg h] at st2
              cases st2
      show (decide (4 ≤ 20000) && (decide ((("met" : Str)).length ≤ 1000) && (true && (true && (decide (n.length ≤ 1000) && true))))) = true
      rw [decide_eq_true (by omega : n.length ≤ 1000)]
      decide +kernel
  · obtain ⟨s, _, rfl⟩ := List.mem_map.mp hp
    exact plain_stp s
  · have h1 := runs_pre R k
    have e1 : ssD (ss.take k) = (ssD ss).take k := by
      unfold ssD
      rw [List.map_take]
    unfold Runs at h1
    rw [e1, h] at h1
    rw [Option.some.inj h1] at hc
    exact gl c (List.mem_of_mem_take hc)
/-- a Chain made, where its steps are right -/
def spInitC (K : PySem.W.Frag) (C CN : Addr) : Sp := fun vs H Q _ => spInit K C CN vs H Q fun _ _ _ => False
structure Tm (P : Program) (w : World) (K : PySem.W.Frag) (mg : Str → Option Value) (base : Heap) (C CN fI fS fN fL : Addr) (dI dS dN dL : FuncData) : Prop where
  cl : Cls K C
  mkC : Mk K C fI
  gC : mg "Chain" = some (.ref C)
  GI : FnOk P w K mg base CX0 6 fI dI ["self", "steps"] (spInitC K C CN)
  bI : Binds K dI ["self", "steps"] []
  mS : Meth K C "steps" fS
  GS : FnOk P w K mg base CX0 1 fS dS ["self"] (spCSteps K C)
  bS : Binds K dS ["self"] []
  GN : FnOk P w K mg base CX0 1 fN dN ["self"] (spCLen K C)
  bN : Binds K dN ["self"] []
  lS : PySem.W.findIn K (.ref C) "__len__" = some (some (.ref fN))
  lF : PySem.W.isFn K (.ref fN) = true
  GL : FnOk P w K mg base CX0 2 fL dL ["steps", "last"] (spLean K)
  gL : mg "leaning" = some (.ref fL)
  kL : PySem.W.keepIn K (.ref fL) = true
  bL : Binds K dL ["steps", "last"] []
  mlen : mg "len" = none
def spTrim (K : PySem.W.Frag) (C : Addr) : Sp := fun vs H Q _ => ∃ (p : Addr) (ss : List Stp) (cs : List Cl) (last : Nat), vs = [.ref p] ∧ ChainAt K C H p (ssD ss) cs ∧ Runs ss cs ∧ (∀ c ∈ cs, GoodC c) ∧ (∀ c ∈ cs, c.length ≤ 2000) ∧ last + 1 = ss.length ∧ ss.length ≤ 1000 ∧
  ∀ x H' (m : Nat → Prop) (ks : List Nat), Same H H' → Mark ss last m → Idx ss last m ks → ChainAt K C H' x (ssD (kept ss ks)) (ks.filterMap fun k => cs[k]?) → Q (.ref x) H'
section
variable {P : Program} {w : World} {K : PySem.W.Frag} {mg : Str → Option Value} {base : Heap} {f C CN fI fS fN fL : Addr} {fd dI dS dN dL : FuncData}
theorem ok_trimmed (F : FnP K "trimmed" sTr f fd) (T0 : Tm P w K mg base C CN fI fS fN fL dI dS dN dL) : FnOk P w K mg base CX0 8 f fd ["chain"] (spTrim K C) := by
  refine F.ok scTr (fun vs H Q E h => ?_) (fun cdv A outer s H vs Q E hr h => ?_)
  · obtain ⟨p, ss, cs, last, rfl, _⟩ := h
    rfl
  obtain ⟨p, ss, cs, last, rfl, hch, R, hg, hgl, hl, hlen, q⟩ := h
  have hrm : Room 7 _ := hr
  have hr1 : Room 1 _ := hr.mono (by omega)
  have hr2 : Room 2 _ := hr.mono (by omega)
  have hrn : Room 2 _ := hr.mono (by omega)
  refine ⟨_, PSs.nox (pss_one (ps_ret (pe_make T0.mkC T0.GI hrm (by rfl) T0.gC T0.bI .nil pass0 (pa_cons (pe_call T0.GL hr2 (by rfl) T0.gL T0.kL T0.bL .nil pass0 (pa_cons (pe_meth0 (pv 0) T0.cl T0.mS T0.GS hr1 T0.bS .nil pass0) (pa_cons (pe_op op_sub (pe_callB (call_lenOwn T0.GN hrn T0.lS T0.lF T0.bN pass0) (by rfl) T0.mlen PySem.boot_len (pa_cons (pv 0) pa_nil)) pe_int) pa_nil))) pa_nil)))), ?_⟩
  obtain ⟨dx, a0, b0, hp, _, _⟩ := id hch
  refine ⟨_, rfl, p, dx, _, rfl, hp, fldsC_no _ _ (by decide +kernel) (by decide +kernel), p, ssD ss, cs, rfl, hch, fun a H1 na s1 l1 => ?_⟩
  have el : (((ssD ss).length : Nat) : Int) - 1 = (last : Int) := by
    unfold ssD
    rw [List.length_map]
    omega
  refine ⟨_, rfl, p, dx, _, rfl, s1 _ _ hp, p, ssD ss, cs, rfl, hch.keep s1, fun H2 s2 => ⟨(ssD ss).length, rfl, by unfold ssD; rw [List.length_map]; omega, _, _, rfl, rfl, ?_⟩⟩
  refine ⟨.ref a, ss, cs, last, congrArg (fun z => [V.ref a, V.int z]) el, (ltk s2 l1).dp, R, hl, hlen, fun a2 H3 m ks na2 s3 M I l3 => fun x dx2 nx ndx nex => ?_⟩
  have hks := kept_runs R M I (by omega)
  have hlt := idx_lt M I (by omega)
  have kl := kept_len hlt
  have hpos : 0 < ks.length := List.length_pos_of_mem ((I.mem last).mpr M.a)
  have gm : ∀ c ∈ ks.filterMap (fun k => cs[k]?), c ∈ cs := fun c hc => by
    obtain ⟨k, _, e⟩ := List.mem_filterMap.mp hc
    exact List.mem_of_getElem? e
  have klen : ks.length ≤ ss.length := by
    have h1 := nd_lenN ks (List.range ss.length) (up_nodup I.up) fun x hx => List.mem_range.mpr (hlt x hx)
    rw [List.length_range] at h1
    exact h1
  have sd := same_newD ndx (.own x)
  have nx' : (upd H3 dx2 (.own x)) x = none := by rw [upd_ne nex.symm]; exact nx
  have sx := same_newD nx' (.ins C dx2 [])
  have s4 := sd.trans sx
  refine ⟨x, dx2, .ref a2, ssD (kept ss ks), rfl, upd_same, (ltk s4 l3).dp, fits_runs hks (fun c hc => hg c (gm c hc)) (fun c hc => hgl c (gm c hc)) (by omega) (by omega), fun cls hrun H4 keep ch => ⟨rfl, ?_⟩, fun k cls y h1 h2 h3 => (runs_nofail hks h1 h2 h3).elim⟩
  have ec : cls = ks.filterMap fun k => cs[k]? := by
    unfold Runs at hks
    rw [hks] at hrun
    exact (Option.some.inj hrun).symm
  subst ec
  refine q x H4 m ks (fun b o h => ?_) M I ch
  have h3 := s3 _ _ (s2 _ _ (s1 _ _ h))
  exact keep b o (s4 _ _ h3) (ne_of_none h3 nx)
end
end My

set_option maxRecDepth 100000
set_option maxHeartbeats 4000000
namespace My
open PySem PySem.Spec PyProof.Rows L2 Dl
section
variable {R : Hp → Hp → Prop} [Edg R] {T L X : Addr} {n m i j : Nat} {K : PySem.W.Frag} {σ : L2.St} {H H' : Hp} {ta tb te tx to : TE} {v : V} {d e f : PD} {ds es fs : List PD} {a l : Addr} {D : Ends}
/-- xs + e, xs one's own -/
theorem le_catV (ha : σ[i]? = some (some (.ref l))) (hl : Lt K H l ds) (hb : LE R K tb σ H es) (hz : ds.length + es.length ≤ 100000) : LE R K (tOp rCat (tVar i) tb) σ H (ds ++ es) := fun H1 g _ q =>
  ⟨_, ha, hb H1 g _ fun b H3 n3 s3 ⟨ys, e2, h2⟩ => by
    obtain ⟨xs, e1, h1⟩ := ltk (Edg.trans g (Edg.same s3)) hl
    exact ⟨l, b, xs, ys, rfl, rfl, e1, e2, szl (by rw [dpa_len h1, dpa_len h2]; exact hz), fun p hp => q p _ (s3.free hp) (s3.trans (same_newD hp _)) ⟨_, upd_same, dpak (same_newD hp _) (dpa_app h1 h2)⟩⟩⟩
theorem any_ints (ls : List Nat) (k : Nat) : ((ls.map fun x : Nat => PyData.int (x : Int)).any fun y => PyData.eqv y (.int (k : Int))) = decide (k ∈ ls) := by
  induction ls with
  | nil => rfl
  | cons x r ih =>
    rw [List.map_cons, List.any_cons, ih]
    by_cases h : x = k
    · subst h
      simp [PyData.eqv]
    · have h1 : PyData.eqv (.int (x : Int)) (.int (k : Int)) = false := by
        simp [PyData.eqv]
        omega
      have h2 : ¬ k = x := fun e => h e.symm
      rw [h1, Bool.false_or]
      exact decide_eq_decide.mpr (by simp [h2])
theorem plain_natsA (ls : List Nat) : PyData.plainAll (ls.map fun x : Nat => PyData.int (x : Int)) = true := by
  induction ls with
  | nil => simp [PyData.plainAll]
  | cons x r ih => simp [PyData.plainAll, PyData.plain, ih]
theorem depth_natsA (ls : List Nat) : PyData.depthAll (ls.map fun x : Nat => PyData.int (x : Int)) = 0 := by
  induction ls with
  | nil => simp [PyData.depthAll]
  | cons x r ih => simp [PyData.depthAll, PyData.depth, ih]
/-- k in xs, whole numbers -/
theorem rd_inN {ls : List Nat} {k : Nat} : RD K (rInP K false) (.int (k : Int)) (.list (ls.map fun x : Nat => PyData.int (x : Int))) (.bool (decide (k ∈ ls))) := by
  have h := rd_inL (K := K) (neg := false) (d := .int (k : Int)) (xs := ls.map fun x : Nat => PyData.int (x : Int)) (plain_natsA ls) rfl (by rw [depth_natsA]; exact Nat.le_trans (Nat.min_le_left _ _) (Nat.zero_le _))
  simp only [Bool.false_eq_true, if_false, any_ints] at h
  exact h
theorem ty_lst (H : Hp) (x : V) (h : Dp K H x (.list ds)) : tyV K "list" x H := by
  obtain ⟨a, xs, rfl, hs, _⟩ := dp_lstI h
  exact .inl ⟨rfl, _, hs⟩
/-- where x stands first -/
theorem idx_before : ∀ {ls : List Nat} {x m z : Nat}, m < ls.idxOf x → ls[m]? = some z → z ≠ x
  | [], x, m, z, h, e => by cases e
  | y :: r, x, m, z, h, e => by
    rw [List.idxOf_cons] at h
    by_cases q : y = x
    · have : (y == x) = true := by simp [q]
      rw [this] at h
      exact absurd h (Nat.not_lt_zero _)
    · have : (y == x) = false := by simp [q]
      rw [this] at h
      cases m with
      | zero =>
        have : y = z := Option.some.inj e
        rw [← this]
        exact q
      | succ m => exact idx_before (Nat.lt_of_succ_lt_succ h) e
theorem de_index {ls : List Nat} {x : Nat} (h : DE R K te σ H (.list (ls.map fun x : Nat => PyData.int (x : Int)))) (hx : DE R K tx σ H (.int (x : Int))) (hm : x ∈ ls) : DE R K (tBM K "list" (rIndex K) te (tCons tx tNil)) σ H (.int ((ls.idxOf x : Nat) : Int)) :=
  de_bm h (da_cons hx da_nil) (fun H x h => ty_lst H x h) fun H1 y vs hy hvs => ⟨ty_lst H1 y hy, fun Q q => by
    obtain ⟨a, ys, rfl, hs, ha⟩ := dp_lstI hy
    cases hvs with
    | cons h1 h2 =>
      cases h1
      cases h2
      have e : (ls.map fun x : Nat => PyData.int (x : Int)) = (ls.map fun x : Nat => (x : Int)).map .int := by rw [List.map_map]; rfl
      rw [e] at ha
      have ey := dpa_ints ha
      subst ey
      have hl := List.idxOf_lt_length_of_mem hm
      refine ⟨a, _, .int (x : Int), ls.idxOf x, .int (x : Int), rfl, rfl, hs, rfl, ?_, ?_, ?_, fun m z hm' hz => ?_, q _ H1 (Same.refl _) (.int _)⟩
      · rw [List.all_map]
        exact List.all_eq_true.mpr fun _ _ => rfl
      · rw [List.getElem?_map, List.getElem?_map, List.getElem?_eq_getElem hl, List.getElem_idxOf hl]
        rfl
      · show ((x : Int) == (x : Int)) = true
        simp
      · rw [List.getElem?_map, List.getElem?_map] at hz
        cases e : ls[m]? with
        | none => rw [e] at hz; cases hz
        | some k =>
          rw [e] at hz
          cases hz
          have := idx_before hm' e
          show ((k : Int) == (x : Int)) = false
          simp
          omega⟩
/-- for k in range(hi, lo, -1) -/
theorem s_forDown (R : Hp → Hp → Prop) [Edg R] {ta : L2.TA} {hi lo : Int} {tu : TS} (h : DA R K ta σ H [.int hi, .int lo, .int (-1)]) (b1 : -(2 ^ 62) ≤ hi) (b2 : hi < 2 ^ 62) (b3 : -(2 ^ 62) ≤ lo) (b4 : lo < 2 ^ 62)
    (k : ∀ H1, Same H H1 → ∃ Pv : Nat → L2.St → Hp → Prop, Pv 0 σ H1 ∧ (∀ t σ' H', t < (hi - lo).toNat → Pv t σ' H' → tu { D with nx := Pv (t + 1), ct := Pv (t + 1), bk := D.nx } (σ'.set j (some (.int (hi - t)))) H') ∧ (∀ σ' H', Pv (hi - lo).toNat σ' H' → D.nx σ' H')) : tFor (iRng3 ta) (gName j) tu D σ H :=
  h H (Edg.refl H) _ fun vs H1 s hv => by
    cases hv with
    | cons a1 hv =>
    cases hv with
    | cons a2 hv =>
    cases hv with
    | cons a3 hv =>
    cases hv
    cases a1
    cases a2
    cases a3
    obtain ⟨Pv, h0, ht, hd⟩ := k H1 s
    refine ⟨hi, lo, -1, _, rfl, RgC.neg b1 b2 b3 b4, for_rangeC Pv h0 (fun t σ' H' hlt p => ?_) hd⟩
    have e : hi + (t : Int) * (-1) = hi - t := by omega
    rw [e]
    exact ht t σ' H' hlt p
theorem dp_ints' : ∀ xs : List Int, DpAll K H (xs.map V.int) (xs.map .int)
  | [] => .nil
  | x :: r => .cons (.int x) (dp_ints' r)
/-- sorted(set(xs)), whole numbers -/
theorem le_sset {P : Program} {w : World} {xs : List Int} {KS : List Nat} (h : DE R K te σ H (.list (xs.map .int))) (hl : xs.length ≤ 1000) (up : KS.Pairwise (· < ·)) (hm : ∀ z : Int, z ∈ xs ↔ ∃ k ∈ KS, z = (k : Int)) :
    LE R K (tCB (rSortedSI P w) (tCons (tCB (rSetOfI K P w) (tCons te tNil)) tNil)) σ H (KS.map fun x : Nat => PyData.int (x : Int)) := fun H1 g Q q => h H1 g _ fun v H2 s2 hv => by
  obtain ⟨a, ys, rfl, hs, ha⟩ := dp_lstI hv
  have ey := dpa_ints ha
  subst ey
  refine ⟨a, xs, rfl, hs, hl, fun p ks np nd hk hlen => ⟨p, ks, rfl, upd_same, by omega, fun zs p2 pm pw np2 => ?_⟩⟩
  have e : zs = KS.map fun x : Nat => (x : Int) := by
    have nz : zs.Nodup := pm.nodup_iff.mpr nd
    have uz : zs.Pairwise (· < ·) := (nz.and pw).imp fun {a b} ⟨n, l⟩ => by have : a ≠ b := n; omega
    have uk : (KS.map fun x : Nat => (x : Int)).Pairwise (· < ·) := List.pairwise_map.mpr (up.imp fun {a b} h => by omega)
    have nk : (KS.map fun x : Nat => (x : Int)).Nodup := uk.imp fun {a b} h => by omega
    have p := (List.perm_ext_iff_of_nodup nz nk).mpr fun z => by
      rw [pm.mem_iff, hk, hm, List.mem_map]
      exact ⟨fun ⟨k, h1, h2⟩ => ⟨k, h1, h2.symm⟩, fun ⟨k, h1, h2⟩ => ⟨k, h1, h2.symm⟩⟩
    exact List.Perm.eq_of_pairwise (le := fun a b => a < b) (fun a b _ _ x y => by omega) uz uk p
  subst e
  have sp := same_newD np (SetIO P w p ks)
  have e2 : ((KS.map fun x : Nat => (x : Int)).map V.int) = (KS.map fun x : Nat => V.int (x : Int)) := by rw [List.map_map]; rfl
  refine q p2 _ ((s2.trans sp).free np2) ((s2.trans sp).trans (same_newD np2 _)) ⟨_, upd_same, ?_⟩
  have e3 : (KS.map fun x : Nat => PyData.int (x : Int)) = (KS.map fun x : Nat => (x : Int)).map .int := by rw [List.map_map]; rfl
  rw [e3]
  exact dp_ints' _
end
end My

set_option maxRecDepth 100000
set_option maxHeartbeats 4000000
namespace My
open PySem PySem.Spec PyProof.Rows L2 Dl
def spLTrim (K : PySem.W.Frag) : Sp := fun vs H Q _ => ∃ (v : V) (ss : List Stp) (cs : List Cl) (last : Nat), vs = [v] ∧ Dp K H v (.list (ssD ss)) ∧ Runs ss cs ∧ last + 1 = ss.length ∧ ss.length ≤ 400 ∧
  ∀ a H' (m : Nat → Prop) (ks : List Nat), H a = none → Same H H' → Mark ss last m → Idx ss last m ks → Lt K H' a (ssD (kept ss ks)) → Q (.ref a) H'
structure Lm (K : PySem.W.Frag) (mg : Str → Option Value) : Prop where
  mrange : mg "range" = none
  mlen : mg "len" = none
  msorted : mg "sorted" = none
  mset : mg "set" = none
section
variable {P : Program} {w : World} {K : PySem.W.Frag} {mg : Str → Option Value} {base : Heap} {f : Addr} {fd : FuncData}
theorem ok_ltrim (F : FnP K "_law_trimmed" sLt f fd) (T0 : Lm K mg) : FnOk P w K mg base CX0 1 f fd ["_law_steps"] (spLTrim K) := by
  refine F.ok scLt (fun vs H Q E h => ?_) (fun cdv A outer s H vs Q E hr h => ?_)
  · obtain ⟨v, ss, cs, last, rfl, _⟩ := h
    rfl
  obtain ⟨v, ss, cs, last, rfl, hv, R, hl, hlen, q⟩ := h
  have hu := hu_of hr
  have hu64 := hr.units
  have A := runs_ahead R
  have sat : ∀ k : Nat, k < ss.length → ∀ s, ss[k]? = some s → (ssD ss)[k]? = some s.d := fun k hk s e => by
    unfold ssD
    rw [List.getElem?_map, e]
    rfl
  have el : (((ssD ss).length : Nat) : Int) - 1 = (last : Int) := by
    unfold ssD
    rw [List.length_map]
    omega
  refine ⟨_, PSs.nox (pss_cons (ps_set (i := 1) scLt.nd rfl (Or.inl rfl) (pe_lst (pa_cons (pe_op op_sub (pe_callB call_len_seq (by rfl) T0.mlen PySem.boot_len (pa_cons (pv 0) pa_nil)) pe_int) pa_nil)))
 (pss_cons (ps_for PassesOwn.never rfl (pi_range3 (by rfl) T0.mrange (pa_cons (pe_op op_sub (pe_callB call_len_seq (by rfl) T0.mlen PySem.boot_len (pa_cons (pv 0) pa_nil)) pe_int) (pa_cons (pe_un un_neg pe_int) (pa_cons (pe_un un_neg pe_int) pa_nil)))) (pg_name (i := 2) scLt.nd rfl (Or.inl rfl))
 (pss_one (ps_if (PW.pt (pw_and (pt_cmpR (op_inP hu64) (pv 2) (pv 1) rfl) (pw_and1 (pt_cmpR op_eq (pe_ix ix_tup (pe_ix ix_list (pv 0) (pv 2) (fun _ _ => rfl)) pe_int (fun _ _ => rfl)) pe_str (nomark _)))))
 (pss_one (ps_set (i := 1) scLt.nd rfl (Or.inl rfl) (pe_op op_cat (pv 1) (pe_lst (pa_cons (pe_ix ix_tup (pe_ix ix_list (pv 0) (pv 2) (fun _ _ => rfl)) pe_int (fun _ _ => rfl)) (pa_cons (pe_ix ix_tup (pe_ix ix_list (pv 0) (pv 2) (fun _ _ => rfl)) pe_int (fun _ _ => rfl)) pa_nil)))))) pss_nil)))
 (pss_cons (ps_set (i := 3) scLt.nd rfl (Or.inl rfl) (pe_callB (cr_sortedSI rfl) (by rfl) T0.msorted (by decide +kernel) (pa_cons (pe_callTy (cr_setOfI rfl) (by rfl) T0.mset (by decide +kernel) (pa_cons (pv 1) pa_nil)) pa_nil)))
 (pss_cons (ps_set (i := 4) scLt.nd rfl (Or.inl rfl) (pe_lst pa_nil))
 (pss_cons (ps_for PassesOwn.never rfl (pi_list (pv 3)) (pg_name (i := 2) scLt.nd rfl (Or.inl rfl))
 (pss_cons (ps_set (i := 5) scLt.nd rfl (Or.inl rfl) (pe_ix ix_list (pv 0) (pv 2) (fun _ _ => rfl)))
 (pss_cons (ps_if (pt_cmpR op_eq (pe_ix ix_tup (pv 5) pe_int (fun _ _ => rfl)) pe_str (nomark _))
 (pss_one (ps_set (i := 5) scLt.nd rfl (Or.inl rfl) (pe_tup (pa_cons pe_str (pa_cons (pe_bm PySem.F.plainAttrs_list PySem.F.slot_list_index PySem.F.type_list_index mt_index (pv 3) (pa_cons (pe_ix ix_tup (pv 5) pe_int (fun _ _ => rfl)) pa_nil)) (pa_cons (pe_bm PySem.F.plainAttrs_list PySem.F.slot_list_index PySem.F.type_list_index mt_index (pv 3) (pa_cons (pe_ix ix_tup (pv 5) pe_int (fun _ _ => rfl)) pa_nil)) (pa_cons (pe_ix ix_tup (pv 5) pe_int (fun _ _ => rfl)) pa_nil))))))) pss_nil)
 (pss_one (ps_expr (pe_bm PySem.F.plainAttrs_list PySem.F.slot_list_append PySem.F.type_list_append mt_append (pv 4) (pa_cons (pv 5) pa_nil)))))))
 (pss_one (ps_ret (pv 4)))))))), ?_⟩
  refine s_setL Same (K := K) (le_is (le_lst (da_cons (de_op (de_cb (da_cons (de_var rfl hv) da_nil) rc_lenL) de_int rd_i) da_nil) (Nat.le_of_ble_eq_true rfl)) (es := [last].map fun x : Nat => PyData.int (x : Int)) (by rw [el]; rfl)) fun pl H1 n1 s1 l1 => ?_
  have v1 := dpk s1 hv
  refine s_forDown Same (K := K) (da_cons (de_op (de_cb (da_cons (de_var rfl v1) da_nil) rc_lenL) de_int rd_i) (da_cons (de_neg de_int) (da_cons (de_neg de_int) da_nil))) (by rw [el]; omega) (by rw [el]; omega) (by decide) (by decide) fun H2 s2 => ?_
  have s02 := s1.trans s2
  have en : ((((ssD ss).length : Nat) : Int) - 1 - (-1)).toNat = last + 1 := by rw [el]; omega
  rw [en]
  refine ⟨fun t σ' H' => ∃ (ls : List Nat) (pl' : Addr) (u : Option V), Mks ss last t (fun x => x ∈ ls) ∧ ls.length ≤ 1 + 2 * t ∧ Lt K H' pl' (ls.map fun x : Nat => PyData.int (x : Int)) ∧ Same H H' ∧ σ' = [some v, some (.ref pl'), u, none, none, none], ?_, ?_, ?_⟩
  · refine ⟨[last], pl, none, ?_, Nat.le_refl _, ltk s2 l1, s02, rfl⟩
    have ex : (fun x => x ∈ [last]) = fun x => x = last := by
      funext x
      simp
    rw [ex]
    exact Mks.zero ss last
  · rintro t σ' H3 ht ⟨ls, pl', u, M, hls, l3, s3, rfl⟩
    have htl : t ≤ last := by omega
    have ek : (((ssD ss).length : Nat) : Int) - 1 - (t : Int) = ((last - t : Nat) : Int) := by rw [el]; omega
    obtain ⟨k0, hk0⟩ : ∃ k0, k0 = last - t := ⟨_, rfl⟩
    rw [ek, ← hk0]
    have hkl : k0 < ss.length := by omega
    have es := List.getElem?_eq_getElem hkl
    have ed := sat k0 hkl _ es
    have v3 := dpk s3 hv
    cases hs : ss[k0] with
    | giv c =>
      rw [hs] at es ed
      have eb : decide (("given" : Str) = "met") = false := by decide +kernel
      refine s_if Same (K := K) (b := false) (bt_is (bt_and (c := false) (bt_test (de_op (de_var rfl (.int (k0 : Int))) (de_var rfl l3.dp) rd_inN)) fun _ => bt_is (bt_test (de_op (de_op (de_op (de_var rfl v3) (de_var rfl (.int (k0 : Int))) (rd_ixL (f := (Stp.giv c).d) (at_nat ed))) de_int (rd_ixT (f := .str "given") rfl)) de_str rd_eqS)) eb) (Bool.and_false _)) (fun h => by cases h) (fun _ H4 s4 => ?_)
      exact ⟨ls, pl', _, M.skip htl (.inr ⟨c, by rw [← hk0]; exact es⟩), by omega, ltk s4 l3, s3.trans s4, rfl⟩
    | met i j n =>
      rw [hs] at es ed
      have eb : decide (("met" : Str) = "met") = true := by decide +kernel
      obtain ⟨hi, hj⟩ := A k0 i j n es
      refine s_if Same (K := K) (b := decide (k0 ∈ ls)) (bt_is (bt_and (c := true) (bt_test (de_op (de_var rfl (.int (k0 : Int))) (de_var rfl l3.dp) rd_inN)) fun _ => bt_is (bt_test (de_op (de_op (de_op (de_var rfl v3) (de_var rfl (.int (k0 : Int))) (rd_ixL (f := (Stp.met i j n).d) (at_nat ed))) de_int (rd_ixT (f := .str "met") rfl)) de_str rd_eqS)) eb) (Bool.and_true _)) (fun hb H4 s4 => ?_) (fun hb H4 s4 => ?_)
      · have v4 := dpk s4 v3
        refine s_setL Same (K := K) (le_catV rfl (ltk s4 l3) (le_lst (da_cons (de_op (de_op (de_var rfl v4) (de_var rfl (.int (k0 : Int))) (rd_ixL (f := (Stp.met i j n).d) (at_nat ed))) de_int (rd_ixT (f := .int (i : Int)) rfl)) (da_cons (de_op (de_op (de_var rfl v4) (de_var rfl (.int (k0 : Int))) (rd_ixL (f := (Stp.met i j n).d) (at_nat ed))) de_int (rd_ixT (f := .int (j : Int)) rfl)) da_nil)) (Nat.le_of_ble_eq_true rfl)) (by rw [List.length_map]; simp only [List.length_cons, List.length_nil]; omega)) fun p5 H5 n5 s5 l5 => ?_
        have M2 := M.mark A htl (by rw [← hk0]; exact of_decide_eq_true hb) (by rw [← hk0]; exact es)
        refine ⟨ls ++ [i, j], p5, _, ?_, by rw [List.length_append]; simp only [List.length_cons, List.length_nil]; omega, ?_, (s3.trans s4).trans s5, rfl⟩
        · have ex : (fun x => x ∈ ls ++ [i, j]) = fun x => x ∈ ls ∨ x = i ∨ x = j := by
            funext x
            simp
          rw [ex]
          exact M2
        · rw [List.map_append]
          exact l5
      · exact ⟨ls, pl', _, M.skip htl (.inl (by rw [← hk0]; exact of_decide_eq_false hb)), by omega, ltk s4 l3, s3.trans s4, rfl⟩
  rintro σ' H3 ⟨ls, pl', u, M, hls, l3, s3, rfl⟩
  obtain ⟨KS, hKS⟩ : ∃ KS, KS = (List.range (last + 1)).filter fun x => decide (x ∈ ls) := ⟨_, rfl⟩
  have I : Idx ss last (fun x => x ∈ ls) KS := by
    rw [hKS]
    refine ⟨idx_range.filter _, fun x => ?_⟩
    rw [List.mem_filter, List.mem_range]
    exact ⟨fun h => of_decide_eq_true h.2, fun h => ⟨by have := M.le x h; omega, decide_eq_true h⟩⟩
  have hlt := idx_lt M I (by omega)
  have klen : KS.length ≤ last + 1 := by
    rw [hKS]
    have := List.length_filter_le (fun x => decide (x ∈ ls)) (List.range (last + 1))
    rw [List.length_range] at this
    exact this
  have e0 : (ls.map fun x : Nat => PyData.int (x : Int)) = (ls.map fun x : Nat => (x : Int)).map .int := by rw [List.map_map]; rfl
  refine s_setL Same (K := K) (le_sset (P := P) (w := w) (xs := ls.map fun x : Nat => (x : Int)) (KS := KS) (de_is (de_var (by rfl) l3.dp) (by rw [e0])) (by rw [List.length_map]; omega) I.up (fun z => by
    rw [List.mem_map]
    exact ⟨fun ⟨k, h1, h2⟩ => ⟨k, (I.mem k).mpr h1, h2.symm⟩, fun ⟨k, h1, h2⟩ => ⟨k, (I.mem k).mp h1, h2.symm⟩⟩)) fun pk H4 n4 s4 l4 => ?_
  have s04 := s3.trans s4
  refine s_setL Same (K := K) (le_lst da_nil (by decide)) fun pf H5 n5 s5 l5 => ?_
  have s05 := s04.trans s5
  have nf0 : H pf = none := s04.free n5
  have nf3 : H4 pf = none := n5
  refine s_forV Same Same (K := K) (H0 := H4) (xs := KS) (enc := fun x : Nat => PyData.int (x : Int)) s5 (srcV_list rfl l4.dp) (fun t σ' H' => ∃ (u1 u2 : Option V), Lt K H' pf ((KS.take t).filterMap fun k => (ss[k]?).map fun s => (ren KS s).d) ∧ Same H4 H' ∧ σ' = [some v, some (.ref pl'), u1, some (.ref pk), some (.ref pf), u2]) ?_ ?_ ?_ ?_
  · exact ⟨u, none, l5, s5, rfl⟩
  · rintro t σ' H' ⟨u1, u2, _, s', _⟩
    exact s'
  · rintro t k w' σ' H6 H7 ek ⟨u1, u2, l6, s6, rfl⟩ s67 hw
    cases hw
    have hkm := List.mem_of_getElem? ek
    have hks := hlt k hkm
    have es := List.getElem?_eq_getElem hks
    generalize hsx : ss[k] = sx at es
    have ed := sat k hks _ es
    have s47 := s6.trans s67
    have v7 := dpk (s04.trans s47) hv
    have fin : ((KS.take (t + 1)).filterMap fun k => (ss[k]?).map fun s => (ren KS s).d) = ((KS.take t).filterMap fun k => (ss[k]?).map fun s => (ren KS s).d) ++ [(ren KS sx).d] := by
      rw [List.take_add_one, ek, List.filterMap_append]
      congr 1
      show List.filterMap _ [k] = _
      rw [List.filterMap_cons_some (b := (ren KS sx).d) (by rw [es]; rfl)]
      rfl
    have nlk : nlA ((KS.take t).filterMap fun k => (ss[k]?).map fun s => (ren KS s).d) = true := nlA_iff.mpr fun y hy => by
      obtain ⟨k, _, e⟩ := List.mem_filterMap.mp hy
      cases es : ss[k]? with
      | none => rw [es] at e; cases e
      | some s =>
        rw [es] at e
        rw [← Option.some.inj e]
        exact nl_stp _
    have len6 : ((KS.take t).filterMap fun k => (ss[k]?).map fun s => (ren KS s).d).length < 100000 := by
      have h1 := List.length_filterMap_le (fun k => (ss[k]?).map fun s => (ren KS s).d) (KS.take t)
      rw [List.length_take] at h1
      omega
    refine s_set Same (K := K) (de_op (de_var rfl v7) (de_var rfl (.int (k : Int))) (rd_ixL (f := sx.d) (at_nat ed))) fun v8 H8 s8 h8 => ?_
    have l8 := ltk s8 (ltk s67 l6)
    have lk8 := ltk s8 (ltk s47 l4)
    cases sx with
    | giv c =>
      have eb : decide (("given" : Str) = "met") = false := by decide +kernel
      refine s_if Same (K := K) (b := false) (bt_is (bt_test (de_op (de_op (de_var rfl h8) de_int (rd_ixT (f := .str "given") rfl)) de_str rd_eqS)) eb) (fun h => by cases h) (fun _ H9 s9 => ?_)
      refine s_app Same (d := (ren KS (.giv c)).d) (ltk s9 l8) rfl (de_var rfl (dpk s9 h8)) len6 nlk (nl_stp _) fun Ha sa oa la tka => ⟨_, _, ?_, same_mut (((s47.trans s8).trans s9).trans sa) nf3, rfl⟩
      rw [fin]
      exact la
    | met i j n =>
      obtain ⟨hi, hj⟩ := A k i j n es
      obtain ⟨mi, mj⟩ := M.b k (by omega) ((I.mem k).mp hkm) i j n es
      refine s_if Same (K := K) (b := true) (bt_is (bt_test (de_op (de_op (de_var rfl h8) de_int (rd_ixT (f := .str "met") rfl)) de_str rd_eqS)) (by decide +kernel)) (fun _ H9 s9 => ?_) (fun h => by cases h)
      have h9 := dpk s9 h8
      have lk9 := ltk s9 lk8
      refine s_set Same (K := K) (d := (ren KS (.met i j n)).d) (de_tup (da_cons de_str (da_cons (de_index (de_var rfl lk9.dp) (de_op (de_var rfl h9) de_int (rd_ixT (f := .int (i : Int)) rfl)) ((I.mem i).mpr mi)) (da_cons (de_index (de_var rfl lk9.dp) (de_op (de_var rfl h9) de_int (rd_ixT (f := .int (j : Int)) rfl)) ((I.mem j).mpr mj)) (da_cons (de_op (de_var rfl h9) de_int (rd_ixT (f := .str n) rfl)) da_nil)))) (Nat.le_of_ble_eq_true rfl)) fun v10 H10 s10 h10 => ?_
      refine s_app Same (d := (ren KS (.met i j n)).d) (ltk s10 (ltk s9 l8)) rfl (de_var rfl h10) len6 nlk (nl_stp _) fun Ha sa oa la tka => ⟨_, _, ?_, same_mut ((((s47.trans s8).trans s9).trans s10).trans sa) nf3, rfl⟩
      rw [fin]
      exact la
  · rintro σ' H6 ⟨u1, u2, l6, s6, rfl⟩
    rw [List.take_length] at l6
    have ek : (KS.filterMap fun k => (ss[k]?).map fun s => (ren KS s).d) = ssD (kept ss KS) := by
      unfold ssD kept
      rw [List.map_filterMap]
      congr 1
      funext k
      cases ss[k]? <;> rfl
    rw [ek] at l6
    exact ⟨_, rfl, q pf H6 _ KS nf0 (s04.trans s6) M I l6⟩
end
end My

set_option maxRecDepth 100000
set_option maxHeartbeats 4000000
namespace My
open PySem PySem.Spec PyProof.Rows L2 Dl
abbrev sLaw : Stmt := top 40
theorem scLaw : FnScope ["_law_script", "_law_tape_here", "_law_names", "_law_turn", "_law_steps", "_law_clauses", "_law_size", "_law_chain_here", "_law_found"] ["_law_script"] (defScope sLaw) := ⟨rfl, rfl, rfl, by decide +kernel, rfl, by decide +kernel, by decide +kernel⟩
structure Defs (P : Program) (w : World) (K : PySem.W.Frag) (mg : Str → Option Value) (base : Heap) (fI fS fA fE Cc CN fT fF fH fL fP fD fR fU : Addr) (dI dS dA dE dT dF dH dL dP dD dR dU : FuncData) : Prop where
  GT : FnOk P w K mg base CX0 1 fT dT ["_law_script"] (spTape K)
  gT : mg "_law_tape" = some (.ref fT)
  kT : PySem.W.keepIn K (.ref fT) = true
  bT : Binds K dT ["_law_script"] []
  GF : FnOk P w K mg base CX0 13 fF dF ["_law_tape_here", "_law_many"] (spTL K 2000 GFresh)
  gF : mg "_law_fresh" = some (.ref fF)
  kF : PySem.W.keepIn K (.ref fF) = true
  bF : Binds K dF ["_law_tape_here", "_law_many"] []
  GH : FnOk P w K mg base CX0 20 fH dH ["_law_tape_here", "_law_names", "_law_clause_here", "_law_left", "_law_deep"] (spLChain K 7)
  gH : mg "_law_chain" = some (.ref fH)
  kH : PySem.W.keepIn K (.ref fH) = true
  bH : Binds K dH ["_law_tape_here", "_law_names", "_law_clause_here", "_law_left", "_law_deep"] []
  GL : FnOk P w K mg base CX0 12 fL dL ["_law_tape_here", "_law_names", "_law_few"] (spT K 300 GLClause)
  gL : mg "_law_clause" = some (.ref fL)
  kL : PySem.W.keepIn K (.ref fL) = true
  bL : Binds K dL ["_law_tape_here", "_law_names", "_law_few"] []
  GP : FnOk P w K mg base CX0 13 fP dP ["_law_tape_here", "_law_steps", "_law_clauses", "_law_names"] (spT K 70000 GPad)
  gP : mg "_law_padded" = some (.ref fP)
  kP : PySem.W.keepIn K (.ref fP) = true
  bP : Binds K dP ["_law_tape_here", "_law_steps", "_law_clauses", "_law_names"] []
  GD : FnOk P w K mg base CX0 11 fD dD ["_law_tape_here", "_law_many"] (spDraw 11)
  gD : mg "_law_draw" = some (.ref fD)
  kD : PySem.W.keepIn K (.ref fD) = true
  bD : Binds K dD ["_law_tape_here", "_law_many"] []
  GR : FnOk P w K mg base CX0 8 fR dR ["chain"] (spTrim K Cc)
  gR : mg "trimmed" = some (.ref fR)
  kR : PySem.W.keepIn K (.ref fR) = true
  bR : Binds K dR ["chain"] []
  GU : FnOk P w K mg base CX0 1 fU dU ["_law_steps"] (spLTrim K)
  gU : mg "_law_trimmed" = some (.ref fU)
  kU : PySem.W.keepIn K (.ref fU) = true
  bU : Binds K dU ["_law_steps"] []
  mrange : mg "range" = none
  mlen : mg "len" = none
  cl : Cls K Cc
  mkC : Mk K Cc fI
  gC : mg "Chain" = some (.ref Cc)
  GI : FnOk P w K mg base CX0 6 fI dI ["self", "steps"] (spInitC K Cc CN)
  bI : Binds K dI ["self", "steps"] []
  mS : Meth K Cc "steps" fS
  GS : FnOk P w K mg base CX0 1 fS dS ["self"] (spCSteps K Cc)
  bS : Binds K dS ["self"] []
  mA : Meth K Cc "last" fA
  GA : FnOk P w K mg base CX0 1 fA dA ["self"] (spCLast K Cc)
  bA : Binds K dA ["self"] []
  GE : FnOk P w K mg base CX0 1 fE dE ["self", "other"] (spCEq K Cc)
  bE : Binds K dE ["self", "other"] []
  eS : PySem.W.findIn K (.ref Cc) "__eq__" = some (some (.ref fE))
  eF : PySem.W.isFn K (.ref fE) = true
def spLaw (K : PySem.W.Frag) : Sp := fun vs H Q _ => ∃ (a : Addr) (ns : List Int), vs = [.ref a] ∧ SqL K H a (ns.map V.int) ∧ ∀ H', Q (.bl true) H'
theorem idx_same {ss : List Stp} {last : Nat} {m m' : Nat → Prop} {ks ks' : List Nat} (M : Mark ss last m) (I : Idx ss last m ks) (M' : Mark ss last m') (I' : Idx ss last m' ks') : ks' = ks := up_uniq I'.up I.up fun x => by
  rw [I'.mem, I.mem]
  exact ⟨mark_uniq M' M x, mark_uniq M M' x⟩
section
variable {K : PySem.W.Frag} {σ : L2.St} {H : Hp} {C p : Addr} {i : Nat} {ss : List Stp} {cs : List Cl} {E : XK}
/-- chain.steps() -/
theorem le_steps {R : Hp → Hp → Prop} [Edg R] {ps : List PD} (h : σ[i]? = some (some (.ref p))) (ch : ChainAt K C H p ps cs) : LE R K (tMeth C "steps" (spCSteps K C) [] E (tVar i) tNil) σ H ps := fun H1 g Q q => by
  have ch1 := ch.keep g
  obtain ⟨dx, a, b, hp, _, _⟩ := id ch1
  exact ⟨_, h, p, dx, _, rfl, hp, fldsC_no _ _ (by decide +kernel) (by decide +kernel), p, ps, cs, rfl, ch1, fun a H2 na s2 l2 => q a H2 na s2 l2⟩
/-- chain.last() -/
theorem de_last {R : Hp → Hp → Prop} [Edg R] {ps : List PD} {c : Cl} (h : σ[i]? = some (some (.ref p))) (ch : ChainAt K C H p ps cs) (hc : cs.getLast? = some c) : DE R K (tMeth C "last" (spCLast K C) [] E (tVar i) tNil) σ H (clD c) := fun H1 g Q q => by
  have ch1 := ch.keep g
  obtain ⟨dx, a, b, hp, _, _⟩ := id ch1
  exact ⟨_, h, p, dx, _, rfl, hp, fldsC_no _ _ (by decide +kernel) (by decide +kernel), p, ps, cs, c, rfl, ch1, hc, fun v H2 s2 h2 => q v H2 s2 h2⟩
/-- _law_trimmed(steps) -/
theorem le_ltrim {v : V} {last : Nat} {m : Nat → Prop} {ks : List Nat} (h : σ[i]? = some (some v)) (hv : Dp K H v (.list (ssD ss))) (R : Runs ss cs) (hl : last + 1 = ss.length) (hlen : ss.length ≤ 400) (M : Mark ss last m) (I : Idx ss last m ks) : LE Same K (tCall (spLTrim K) [] E (tCons (tVar i) tNil)) σ H (ssD (kept ss ks)) := fun H1 g Q q =>
  ⟨_, h, v, ss, cs, last, rfl, dpk g hv, R, hl, hlen, fun a H2 m' ks' na s2 M' I' l2 => q a H2 na s2 (by rw [← idx_same M I M' I']; exact l2)⟩
end
theorem last_kept {cs : List Cl} {ks : List Nat} {last : Nat} (h : ∀ k ∈ ks, k < cs.length) (e : ks.getLast? = some last) : (ks.filterMap fun k => cs[k]?).getLast? = cs[last]? := by
  obtain ⟨l, rfl⟩ := List.getLast?_eq_some_iff.mp e
  rw [List.filterMap_append]
  have hl := h last (by simp)
  rw [show List.filterMap (fun k => cs[k]?) [last] = [cs[last]] by rw [List.filterMap_cons_some (List.getElem?_eq_getElem hl)]; rfl, List.getLast?_append, List.getElem?_eq_getElem hl]
  rfl
section
variable {P : Program} {w : World} {K : PySem.W.Frag} {mg : Str → Option Value} {base : Heap} {f fI fS fA fE Cc CN fT fF fH fL fP fD fR fU : Addr} {fd dI dS dA dE dT dF dH dL dP dD dR dU : FuncData}
theorem ok_law (F0 : FnP K "law" sLaw f fd) (C : Defs P w K mg base fI fS fA fE Cc CN fT fF fH fL fP fD fR fU dI dS dA dE dT dF dH dL dP dD dR dU) : FnOk P w K mg base CX0 21 f fd ["_law_script"] (spLaw K) := by
  refine F0.ok scLaw (fun vs H Q E h => ?_) (fun cdv A outer s H vs Q E hr h => ?_)
  · obtain ⟨a, ns, rfl, _⟩ := h
    rfl
  obtain ⟨a0, ns, rfl, hS, q⟩ := h
  have hu := hu_of hr
  have hu64 := hr.units
  have hr1 : Room 1 _ := hr.mono (by omega)
  have hr7 : Room 7 _ := hr.mono (by omega)
  have hr8 : Room 8 _ := hr.mono (by omega)
  have hr11 : Room 11 _ := hr.mono (by omega)
  have hr12 : Room 12 _ := hr.mono (by omega)
  have hr13 : Room 13 _ := hr.mono (by omega)
  have g7 : gN 7 = 25400 := rfl
  have s7 : gS 7 = 127 := rfl
  refine ⟨_, PSs.nox (pss_cons (ps_set (i := 1) scLaw.nd rfl (Or.inl rfl) (pe_call C.GT hr1 (by rfl) C.gT C.kT C.bT .nil pass0 (pa_cons (pv 0) pa_nil)))
 (pss_cons (ps_set (i := 2) scLaw.nd rfl (Or.inl rfl) (pe_call C.GF hr13 (by rfl) C.gF C.kF C.bF .nil pass0 (pa_cons (pv 1) (pa_cons pe_int pa_nil))))
 (pss_cons (ps_for PassesOwn.never rfl (pi_range1 (by rfl) C.mrange (pa_cons pe_int pa_nil)) (pg_name (i := 3) scLaw.nd rfl (Or.inl rfl))
 (pss_cons (ps_asg (pe_call C.GH hr (by rfl) C.gH C.kH C.bH .nil pass0 (pa_cons (pv 1) (pa_cons (pv 2) (pa_cons (pe_call C.GL hr12 (by rfl) C.gL C.kL C.bL .nil pass0 (pa_cons (pv 1) (pa_cons (pv 2) (pa_cons pe_int pa_nil)))) (pa_cons (pe_ix ix_list (pe_lst (pa_cons pe_int (pa_cons pe_int (pa_cons pe_int pa_nil)))) (pv 3) (fun _ _ => rfl)) (pa_cons pe_int pa_nil)))))) (pg_tup (by rfl) (pgs_cons (pg_name (i := 4) scLaw.nd rfl (Or.inl rfl)) (pgs_cons (pg_name (i := 5) scLaw.nd rfl (Or.inl rfl)) pgs_nil))))
 (pss_cons (ps_asg (pe_call C.GP hr13 (by rfl) C.gP C.kP C.bP .nil pass0 (pa_cons (pv 1) (pa_cons (pv 4) (pa_cons (pv 5) (pa_cons (pv 2) pa_nil))))) (pg_tup (by rfl) (pgs_cons (pg_name (i := 4) scLaw.nd rfl (Or.inl rfl)) (pgs_cons (pg_name (i := 5) scLaw.nd rfl (Or.inl rfl)) pgs_nil))))
 (pss_cons (ps_set (i := 6) scLaw.nd rfl (Or.inl rfl) (pe_op op_sub (pe_callB call_len_seq (by rfl) C.mlen PySem.boot_len (pa_cons (pv 4) pa_nil)) (pe_op op_mulW (pe_call C.GD hr11 (by rfl) C.gD C.kD C.bD .nil pass0 (pa_cons (pv 1) (pa_cons pe_int pa_nil))) (pe_call C.GD hr11 (by rfl) C.gD C.kD C.bD .nil pass0 (pa_cons (pv 1) (pa_cons (pe_callB call_len_seq (by rfl) C.mlen PySem.boot_len (pa_cons (pv 4) pa_nil)) pa_nil))))))
 (pss_cons (ps_set (i := 4) scLaw.nd rfl (Or.inl rfl) (pe_slice sl_list (pv 4) po_none (po_some (pv 6))))
 (pss_cons (ps_set (i := 7) scLaw.nd rfl (Or.inl rfl) (pe_make C.mkC C.GI hr7 (by rfl) C.gC C.bI .nil pass0 (pa_cons (pv 4) pa_nil)))
 (pss_cons (ps_set (i := 8) scLaw.nd rfl (Or.inl rfl) (pe_call C.GR hr8 (by rfl) C.gR C.kR C.bR .nil pass0 (pa_cons (pv 7) pa_nil)))
 (pss_cons (ps_if (PW.pt (pw_or (pt_cmpR (op_neP hu64) (pe_meth0 (pv 8) C.cl C.mS C.GS hr1 C.bS .nil pass0) (pe_call C.GU hr1 (by rfl) C.gU C.kU C.bU .nil pass0 (pa_cons (pv 4) pa_nil)) (nomark _)) (pw_or1 (pt_cmpR (op_neP hu64) (pe_meth0 (pv 7) C.cl C.mS C.GS hr1 C.bS .nil pass0) (pv 4) (nomark _)))))
 (pss_one (ps_ret pe_bl)) pss_nil)
 (pss_one (ps_if (PW.pt (pw_or (pt_not (pt_cmpR (op_eqOwn C.GE hr1 C.eS C.eF C.bE pass0) (pe_call C.GR hr8 (by rfl) C.gR C.kR C.bR .nil pass0 (pa_cons (pv 8) pa_nil)) (pv 8) (nomark _))) (pw_or1 (pt_cmpR (op_neP hu64) (pe_meth0 (pv 8) C.cl C.mA C.GA hr1 C.bA .nil pass0) (pe_meth0 (pv 7) C.cl C.mA C.GA hr1 C.bA .nil pass0) (nomark _)))))
 (pss_one (ps_ret pe_bl)) pss_nil))))))))))
 (pss_one (ps_ret pe_bl))))), ?_⟩
  refine ⟨_, rfl, a0, ns, rfl, hS, fun H1 T L t1 s1 _ _ => ?_⟩
  refine t_setL (n := 2000) t1 (tl_call (m := 0) (n := 2000) (G := GFresh) rfl (ta_cons (n := 0) (m := 0) (td_pure de_int) ta_nil) (by
    rintro ds ⟨_, _, rfl, rfl, rfl⟩
    exact ⟨6, by decide, rfl, rfl⟩)) (by omega) fun N ds H2 nN k2 t2 lN hp => ?_
  obtain ⟨zs, rfl, hz6, nms⟩ := hp
  have eN := lt_strs lN
  refine ⟨3, rfl, by decide, by decide, for_range (lo := 0) (n := (3 : Int).toNat) (fun i σ H' => ∃ (v3 v4 v5 v6 v7 v8 : Option V), σ = [some (.ref a0), some (.ref T), some (.ref N), v3, v4, v5, v6, v7, v8] ∧ H' N = some (.lst (zs.map V.str)) ∧ Tape H' T L (2000 + 96000 * i)) ?_ ?_ ?_⟩
  · exact ⟨_, _, _, _, _, _, rfl, eN, t2.more (by omega)⟩
  case refine_3 =>
    rintro σ H4 ⟨v3, v4, v5, v6, v7, v8, rfl, _, _⟩
    exact q H4
  rintro i σ H3 hi ⟨v3, v4, v5, v6, v7, v8, rfl, eN3, t3⟩
  have hi3 : i < 3 := hi
  have hN3 : Dp K H3 (.ref N) (.list (zs.map .str)) := dp_strL (SqL.of eN3)
  have et : (0 : Int) + (i : Int) = (i : Int) := Int.zero_add _
  rw [et]
  -- a clause, a chain
  refine ⟨_, rfl, _, rfl, _, rfl, _, rfl, T, L, _, [.ref N, .int 3], [.list (zs.map .str), .int 3], _, rfl, t3, by omega, .cons hN3 (.cons (.int 3) .nil), ⟨zs, 3, by decide, nms.nd, by omega, rfl, rfl⟩, fun vc dc H4 k4 t4 hc pc => ?_⟩
  obtain ⟨c, rfl, cr, cn, clen⟩ := pc
  have gc : GoodC c := ⟨cr, fun l hl => nms.nm _ (cn l hl)⟩
  have eN4 : H4 N = some (.lst (zs.map V.str)) := k4 _ _ eN3 fun _ _ z => nomatch z
  obtain ⟨lf, hlf⟩ : ∃ lf : Int, atI [V.int 3, V.int 20, V.int 70] (i : Int) = some (.int lf) := by
    have c3 : i = 0 ∨ i = 1 ∨ i = 2 := by omega
    rcases c3 with rfl | rfl | rfl <;> exact ⟨_, rfl⟩
  refine ⟨(by show 3 ≤ sizeLine; decide), fun pl npl => ⟨_, rfl, pl, _, _, _, rfl, rfl, SqL.of upd_same, hlf, ?_⟩⟩
  have spl := same_newD npl (.lst [.int 3, .int 20, .int 70])
  refine ⟨T, L, N, _, vc, zs, c, lf, 6, rfl, t4.same spl, by omega, spl _ _ eN4, dpk spl hc, nms, by omega, gc, cn, by decide, by decide, fun v H5 ss cs k5 t5 hv chd => ?_⟩
  have eN5 : H5 N = some (.lst (zs.map V.str)) := k5 _ _ (spl _ _ eN4) fun _ _ z => nomatch z
  have cl5 := chd.len
  have cp5 := chd.pos
  obtain ⟨a5, xs5, rfl, hT5, hx5⟩ := dp_tupI hv
  cases hx5 with
  | @cons w1 _ _ _ hw1 hx5 =>
  cases hx5 with
  | @cons w2 _ _ _ hw2 hx5 =>
  cases hx5
  refine ⟨a5, _, rfl, hT5, rfl, w1, [w2], rfl, w2, [], rfl, rfl, ?_⟩
  -- padded
  have hN5 : Dp K H5 (.ref N) (.list (zs.map .str)) := dp_strL (SqL.of eN5)
  refine ⟨_, rfl, _, rfl, _, rfl, _, rfl, T, L, _, [w1, w2, .ref N], [.list (ssD ss), .list (cs.map clD), .list (zs.map .str)], _, rfl, t5, by omega, .cons hw1 (.cons hw2 (.cons hN5 .nil)), ⟨zs, ss, cs, rfl, nms, by omega, chd.run, chd.all, by omega, cp5, rfl⟩, fun v d6 H6 k6 t6 hv6 pd => ?_⟩
  obtain ⟨fs, bs, rfl, R, all, fl, fpos, _⟩ := pd
  have eN6 : H6 N = some (.lst (zs.map V.str)) := k6 _ _ eN5 fun _ _ z => nomatch z
  obtain ⟨a6, xs6, rfl, hT6, hx6⟩ := dp_tupI hv6
  cases hx6 with
  | @cons u1 _ _ _ hu1 hx6 =>
  cases hx6 with
  | @cons u2 _ _ _ hu2 hx6 =>
  cases hx6
  refine ⟨a6, _, rfl, hT6, rfl, u1, [u2], rfl, u2, [], rfl, rfl, ?_⟩
  have fll : (ssD fs).length = fs.length := by unfold ssD; rw [List.length_map]
  have bl := runs_len R
  -- the size
  refine t_set (n := 22) t6 (td_op (n := 0) (m := 22) (td_pure (de_cb (da_cons (de_var rfl hu1) da_nil) rc_lenL)) (td_op (n := 11) (m := 11) (td_draw (j := 2) rfl de_int (by decide) (by decide)) (td_draw (j := ((ssD fs).length : Int)) rfl (de_cb (da_cons (de_var rfl hu1) da_nil) rc_lenL) (by omega) (Nat.lt_of_le_of_lt (show (((ssD fs).length : Nat) : Int).natAbs ≤ 400 by omega) (by decide))) (χ := fun d => ∃ r : Int, d = .int r ∧ 0 ≤ r ∧ r < ((ssD fs).length : Int)) (by
    rintro d e ⟨r, rfl, r0, r1⟩ ⟨r', rfl, r0', r1'⟩
    refine ⟨.int (r * r'), rd_ic (mul64 r0 (by omega) r0' (by omega)), _, rfl, ?_, ?_⟩
    · exact Int.mul_nonneg r0 r0'
    · have c2 : r = 0 ∨ r = 1 := by omega
      rcases c2 with rfl | rfl
      · rw [Int.zero_mul]; omega
      · rw [Int.one_mul]; exact r1')) (χ := fun d => ∃ k : Nat, d = .int (k : Int) ∧ 1 ≤ k ∧ k ≤ fs.length) (by
    rintro d e rfl ⟨r, rfl, r0, r1⟩
    refine ⟨_, rd_i, ((ssD fs).length - r.toNat), ?_, by omega, by omega⟩
    congr 1
    omega)) (by omega) fun vk dk H7 k7 t7 hvk pk => ?_
  obtain ⟨k, rfl, k1, kl⟩ := pk
  cases hvk
  have eN7 : H7 N = some (.lst (zs.map V.str)) := k7 _ _ eN6 fun _ _ z => nomatch z
  -- cut
  have e7 : cutD (ssD fs) none (some (k : Int)) = ssD (fs.take k) := by
    rw [cutD_to]
    unfold ssD
    rw [List.map_take]
  refine s_setL (Kd T) (K := K) (le_is (le_slL (de_var rfl (dpk k7 hu1)) do_none (do_some (de_var rfl (.int (k : Int))))) e7) fun pq H8 nq s8 l8 => ?_
  have eN8 := s8 _ _ eN7
  have t8 := t7.same s8
  have Rq := runs_pre R k
  have qlen : (fs.take k).length = k := by rw [List.length_take]; omega
  have blen : (bs.take k).length = k := by rw [List.length_take]; omega
  generalize hqs : fs.take k = qs at Rq qlen l8
  have gq : ∀ c ∈ bs.take k, GoodC c := fun c hc => all.g c (List.mem_of_mem_take hc)
  have nq' : ∀ c ∈ bs.take k, c.length ≤ 2000 := fun c hc => by
    have := good_len (gq c hc) (all.n c (List.mem_of_mem_take hc))
    omega
  generalize hqc : bs.take k = qc at Rq blen gq nq'
  -- the Chain
  refine ⟨_, rfl, fun x dx nx ndx nex => ?_⟩
  have sd := same_newD ndx (.own x)
  have nx' : (upd H8 dx (.own x)) x = none := by rw [upd_ne nex.symm]; exact nx
  have sx := same_newD nx' (.ins Cc dx [])
  have s4 := sd.trans sx
  refine ⟨x, dx, .ref pq, ssD qs, rfl, upd_same, (ltk s4 l8).dp, fits_runs Rq gq nq' (by omega) (by omega), fun cls hrun H9 keep ch => ⟨rfl, ?_⟩, fun k cls y h1 h2 h3 => (runs_nofail Rq h1 h2 h3).elim⟩
  have ec : cls = qc := by
    have Rq' := Rq
    unfold Runs at Rq'
    rw [Rq'] at hrun
    exact (Option.some.inj hrun).symm
  subst ec
  have s89 : Same H8 H9 := fun b o h => keep b o (s4 _ _ h) (ne_of_none h nx)
  have l9 := ltk s89 l8
  have eN9 := s89 _ _ eN8
  have t9 := t8.same s89
  clear keep hrun s4 sx sd nx' nx ndx nex
  obtain ⟨last, hlast⟩ : ∃ last, last + 1 = qs.length := ⟨k - 1, by omega⟩
  -- trimmed
  refine ⟨_, rfl, x, qs, cls, last, rfl, ch, Rq, gq, nq', hlast, by omega, fun y Ha m ks sa M I ch2 => ?_⟩
  have cha := ch.keep sa
  have la := ltk sa l9
  have hks := kept_runs Rq M I (by omega)
  have hlt := idx_lt M I (by omega)
  have kpl := kept_len hlt
  have hkpos : 0 < ks.length := List.length_pos_of_mem ((I.mem last).mpr M.a)
  have kle : ks.length ≤ qs.length := by
    have h1 := nd_lenN ks (List.range qs.length) (up_nodup I.up) fun x hx => List.mem_range.mpr (hlt x hx)
    rw [List.length_range] at h1
    exact h1
  have pls : ∀ ss : List Stp, PyData.plain (.list (ssD ss)) = true := fun ss => by simp only [PyData.plain]; exact plain_ss ss
  have dls : ∀ ss : List Stp, PyData.depth (.list (ssD ss)) ≤ 60 := fun ss => by
    have := depth_ss ss
    simp only [PyData.depth]
    omega
  have ne_ : ∀ ss : List Stp, (!PyData.eqv (.list (ssD ss)) (.list (ssD ss))) = false := fun ss => by rw [eqv_refl _ (pls ss)]; rfl
  refine s_if Same (K := K) (b := false) (bt_or (b := false) (c := false) (bt_is (bt_test (de_op (de_le (le_steps rfl ch2)) (de_le (le_ltrim rfl la.dp Rq hlast (by omega) M I)) (rd_neP (pls _) (pls _) (Nat.le_trans (Nat.min_le_left _ _) (dls _))))) (ne_ _)) fun _ => bt_is (bt_test (de_op (de_le (le_steps rfl cha)) (de_var rfl la.dp) (rd_neP (pls _) (pls _) (Nat.le_trans (Nat.min_le_left _ _) (dls _))))) (ne_ _)) (fun h => by cases h) (fun _ Hb sb => ?_)
  have chb := cha.keep sb
  have ch2b := ch2.keep sb
  -- trimmed again
  have kc_g : ∀ c ∈ ks.filterMap (fun k => cls[k]?), GoodC c ∧ c.length ≤ 2000 := fun c hc => by
    obtain ⟨k', _, e⟩ := List.mem_filterMap.mp hc
    have := List.mem_of_getElem? e
    exact ⟨gq c this, nq' c this⟩
  obtain ⟨last2, hlast2⟩ : ∃ last2, last2 + 1 = (kept qs ks).length := ⟨ks.length - 1, by omega⟩
  have elast2 : last2 = ks.length - 1 := by omega
  have hbt : BT Same K (tTest (tOp (rEqOwn Cc (spCEq K Cc) E0) (tCall (spTrim K Cc) [] E0 (tCons (tVar 8) tNil)) (tVar 8))) [some (.ref a0), some (.ref T), some (.ref N), some (.int (i : Int)), some (.ref pq), some u2, some (.int (k : Int)), some (.ref x), some (.ref y)] Hb true := fun Hc rc Qc qc => by
    have chc := ch2b.keep rc
    refine ⟨_, rfl, y, kept qs ks, _, last2, rfl, chc, hks, fun c hc => (kc_g c hc).1, fun c hc => (kc_g c hc).2, hlast2, by omega, fun y2 Hd m2 ks2 sd M2 I2 chd2 => ?_⟩
    have all2 := kept_all Rq M I (by omega) (by rw [← elast2]; exact M2)
    have e2 := kept_self hks hlast2 M2 I2 (fun p hp => all2 p (by omega))
    rw [e2] at chd2
    have chd := chc.keep sd
    obtain ⟨dx2, a2, b2, hp2, _, _⟩ := id chd2
    obtain ⟨dx1, a1, b1, hp1, _, _⟩ := id chd
    have plt : PyData.plain (.tuple (ssD (kept qs ks))) = true := by simp only [PyData.plain]; exact plain_ss _
    refine ⟨_, rfl, y2, y, dx2, dx1, _, _, rfl, rfl, hp2, hp1, y2, y, _, _, _, _, rfl, chd2, chd, plt, plt, ?_, fun He se => ⟨_, rfl, ?_⟩⟩
    · have := depth_ss (kept qs ks)
      simp only [PyData.depth]
      omega
    · rw [eqv_refl _ plt]
      exact ⟨true, rfl, qc He (sd.trans se)⟩
  obtain ⟨cl, hcl⟩ : ∃ cl, cls[last]? = some cl := ⟨_, List.getElem?_eq_getElem (by omega)⟩
  have hcl1 : cls.getLast? = some cl := by
    rw [List.getLast?_eq_getElem?, ← hcl]
    congr 1
    omega
  have hcl2 : (ks.filterMap fun k => cls[k]?).getLast? = some cl := by
    rw [last_kept (fun k hk => by have := hlt k hk; omega) (kept_last M I)]
    exact hcl
  refine s_if Same (K := K) (b := false) (bt_or (b := false) (c := false) (bt_not (b := true) hbt) fun _ => bt_is (bt_test (de_op (de_last rfl ch2b hcl2) (de_last rfl chb hcl1) (rd_neP (plain_cl cl) (plain_cl cl) (Nat.le_trans (Nat.min_le_left _ _) (Nat.le_trans (depth_cl _) (by decide)))))) (by rw [eqv_refl _ (plain_cl cl)]; rfl)) (fun h => by cases h) (fun _ Hf sf => ?_)
  exact ⟨_, _, _, _, _, _, rfl, sf _ _ (sb _ _ (sa _ _ eN9)), (((t9.same sa).same sb).same sf).more (by omega)⟩
end
end My

set_option maxRecDepth 100000
set_option maxHeartbeats 0
namespace My
open PySem PySem.Spec PyProof.Rows L2 XE Dl
def dd (x : Str) (i : Nat) : He.DefD := ⟨(x, none), x, x, defArgs (top i), defBody (top i), defScope (top i), [], []⟩
def iSt (i : Nat) : Stmt := inClass (top i) 0
def di (x q : Str) (i : Nat) : He.DefD := ⟨(x, some "__init__"), "__init__", q, defArgs (iSt i), defBody (iSt i), defScope (iSt i), [], []⟩
def mI (K : PySem.W.Frag) (x : Str) : Addr := He.ma K (He.ga K x) "__init__"
def errB (K : PySem.W.Frag) (x : Str) (fl : Fl) (bm : List Value) (nw : String) : Bool :=
  PySem.W.excInitIn K (He.ga K x) bm nw && (PySem.W.excOver K (He.ga K x) bm && (decide (PySem.W.findIn K (.ref (He.ga K x)) "__init__" = some (some (.ref (mI K x)))) && (PySem.W.isFn K (.ref (mI K x)) &&
  (decide (PySem.W.findIn K (.ref (He.ga K x)) "__setattr__" = some (some (.builtin "object.__setattr__"))) && (decide (PySem.W.takerIn K (He.ga K x) fl.s = some none) && (PySem.W.hasDictIn K (He.ga K x) && (decide (PySem.W.findIn K (.ref (He.ga K x)) fl.s = some none) &&
  (decide (PySem.W.findIn K (.ref (He.ga K x)) "__getattribute__" = some (some (.builtin "BaseException.__getattribute__"))) && (decide (PySem.W.findIn K (.ref (He.ga K x)) "__getattr__" = some none) && (decide (PySem.W.subIn K (.ref (He.ga K x)) (.type "BaseException") = some true) && (PySem.W.keepIn K (.ref (He.ga K x)) &&
  (decide (PySem.W.findIn K (.ref (He.ga K x)) "__class__" = some (some (.builtin "object.__class__"))) && (decide (PySem.W.specialIn K (.builtin "object.__class__") "__get__" = some (some (.builtin "getset_descriptor.__get__"))) &&
  (decide (PySem.W.takesIn K (.builtin "object.__class__") = some true) && (decide (PySem.W.mroIn K (He.ga K x) (.type "object") = some true) && (decide (PySem.W.typeIn K (.ref (He.ga K x)) = some (.type "type")) && decide (PySem.W.exmOne K (.ref (He.ga K x)) (.ref (He.ga K x)) = some true)))))))))))))))))
theorem init_of {K : PySem.W.Frag} {f : Addr} {fd : FuncData} {qual : Str} {st : Stmt} {fl : Fl} {p1 p2 q1 q2 q3 q4 : Pos} (F : FunD K "__init__" qual (defArgs st) (defBody st) (defScope st) [] [] f fd) (e1 : defArgs st = iA fl p1 p2) (e2 : defBody st = iB fl q1 q2 q3 q4) (e3 : defScope st = iS fl) :
    ∃ (qual : Str) (oc : Value) (od : Option Addr) (kv doc pm : Value) (an : Option Addr) (cdv ct : Value) (osl : Array (Option Value)) (p1 p2 q1 q2 q3 q4 : Pos),
      K.lookup f = some ⟨oc, od, .func (PySem.W.fnOf "__init__" qual (iA fl p1 p2) (iB fl q1 q2 q3 q4) (iS fl) .none kv doc pm an cdv ct), osl⟩ ∧ PySem.W.codeIn K cdv qual = true := by
  obtain ⟨oc, od, dV, kV, doc, pm, an, cdv, ct, osl, rfl, lk, hcd, hD, hK⟩ := F.ex
  rcases hD with ⟨_, rfl⟩ | ⟨e, _⟩
  · rw [e1, e2, e3] at lk
    exact ⟨qual, oc, od, kV, doc, pm, an, cdv, ct, osl, p1, p2, q1, q2, q3, q4, lk, hcd⟩
  · exact absurd rfl e
theorem both {a b : Bool} (h : (a && b) = true) : a = true ∧ b = true := Bool.and_eq_true_iff.mp h
theorem err_of {K : PySem.W.Frag} {x : Str} {fl : Fl} {bm : List Value} {nw : String} (five : Five bm nw) (h0 : errB K x fl bm nw = true) (ini : ∃ (qual : Str) (oc : Value) (od : Option Addr) (kv doc pm : Value) (an : Option Addr) (cdv ct : Value) (osl : Array (Option Value)) (p1 p2 q1 q2 q3 q4 : Pos),
      K.lookup (mI K x) = some ⟨oc, od, .func (PySem.W.fnOf "__init__" qual (iA fl p1 p2) (iB fl q1 q2 q3 q4) (iS fl) .none kv doc pm an cdv ct), osl⟩ ∧ PySem.W.codeIn K cdv qual = true) :
    Err K (He.ga K x) (mI K x) fl bm nw ∧ PySem.W.typeIn K (.ref (He.ga K x)) = some (.type "type") ∧ PySem.W.exmOne K (.ref (He.ga K x)) (.ref (He.ga K x)) = some true := by
  unfold errB at h0
  obtain ⟨h1, h0⟩ := both h0
  obtain ⟨h2, h0⟩ := both h0
  obtain ⟨h3, h0⟩ := both h0
  obtain ⟨h4, h0⟩ := both h0
  obtain ⟨h5, h0⟩ := both h0
  obtain ⟨h6, h0⟩ := both h0
  obtain ⟨h7, h0⟩ := both h0
  obtain ⟨h8, h0⟩ := both h0
  obtain ⟨h9, h0⟩ := both h0
  obtain ⟨h10, h0⟩ := both h0
  obtain ⟨h11, h0⟩ := both h0
  obtain ⟨h12, h0⟩ := both h0
  obtain ⟨h13, h0⟩ := both h0
  obtain ⟨h14, h0⟩ := both h0
  obtain ⟨h15, h0⟩ := both h0
  obtain ⟨h16, h0⟩ := both h0
  obtain ⟨h17, h18⟩ := both h0
  exact ⟨⟨five, h1, h2, of_decide_eq_true h3, h4, of_decide_eq_true h5, of_decide_eq_true h6, h7, of_decide_eq_true h8, of_decide_eq_true h9, of_decide_eq_true h10, of_decide_eq_true h11, h12, of_decide_eq_true h13, of_decide_eq_true h14, of_decide_eq_true h15, of_decide_eq_true h16, ini⟩, of_decide_eq_true h17, of_decide_eq_true h18⟩
def bm_NoStep : List Value := [.type "IndexError", .type "LookupError", .type "Exception", .type "BaseException", .type "object"]
def dm (x m q : Str) (i j : Nat) : He.DefD := ⟨(x, some m), m, q, defArgs (inClass (top i) j), defBody (inClass (top i) j), defScope (inClass (top i) j), [], []⟩
def cn_BARRED : List He.Dv := [.str "not", .str "and", .str "or", .str "gives", .str "is", .str "yes", .str "no"]
def fn : List He.DefD := [di "NoStep" "NoStep.__init__" 2, dm "Chain" "__init__" "Chain.__init__" 19 0, dm "Chain" "steps" "Chain.steps" 19 1, dm "Chain" "last" "Chain.last" 19 3, dm "Chain" "__len__" "Chain.__len__" 19 5, dm "Chain" "__eq__" "Chain.__eq__" 19 6, dd "is_word" 7, dd "is_name" 11, dd "_is_literal" 12, dd "is_clause" 13, dd "clause_of" 14, dd "_clause_of_step" 20, dd "_is_below" 21, dd "meeting" 22, dd "renumbered" 25, dd "leaning" 26, dd "trimmed" 28, dd "_law_tape" 30, dd "_law_draw" 31, dd "_law_words" 32, dd "_law_clause" 33, dd "_law_fresh" 35, dd "_law_grown" 36, dd "_law_chain" 37, dd "_law_padded" 38, dd "_law_trimmed" 39, dd "law" 40]
def fa : List He.Fa := [.glo "NoStep", .glo "is_word", .glo "is_name", .glo "_is_literal", .glo "is_clause", .glo "clause_of", .glo "_clause_of_step", .glo "_is_below", .glo "meeting", .glo "renumbered", .glo "leaning", .glo "trimmed", .glo "_law_tape", .glo "_law_draw", .glo "_law_words", .glo "_law_clause", .glo "_law_fresh", .glo "_law_grown", .glo "_law_chain", .glo "_law_padded", .glo "_law_trimmed", .glo "law", .glo "Chain", .cls "Chain", .mkr "Chain", .noat "Chain" "_steps", .noat "Chain" "_clauses", .meth "Chain" "steps", .meth "Chain" "last", .meth "Chain" "__len__", .meth "Chain" "__eq__", .int "MOST_LETTERS" 8, .int "MOST_SIGNS" 12, .str "SMALL_LETTERS" abc, .str "FIGURES" figs, .glo "BARRED", .free "len", .free "range", .free "isinstance", .free "str", .free "tuple", .free "bool", .free "all", .free "zip", .free "list", .free "sorted", .free "set", .free "enumerate", .free "max", .free "reversed", .free "int"]

def exK (K : PySem.W.Frag) : Bool := errB K "NoStep" .step bm_NoStep "IndexError.__new__" && (He.tupB K "BARRED" cn_BARRED && (decide (PySem.W.findIn K (.ref (He.ga K "Chain")) "__class__" = some (some (.builtin "object.__class__"))) && (decide (PySem.W.specialIn K (.builtin "object.__class__") "__get__" = some (some (.builtin "getset_descriptor.__get__"))) && (decide (PySem.W.takesIn K (.builtin "object.__class__") = some true) && (decide (PySem.W.mroIn K (He.ga K "Chain") (.type "object") = some true) && (decide (PySem.W.kitOne K (.ref (He.ga K "Chain")) (.ref (He.ga K "Chain")) = some true)))))))
def ts : List He.Tab := []
abbrev R : PySem.W.OpenRow := PySem.W.OpenLaw.row PySem.Challenge.rw_middlesay_k17_chains_trimmed
def hookM : PySem.W.Hook := He.hookX 5 fa fn ts [] exK
def ob (s : PySem.W.SharedT) : hookM.α := He.obsX 5 fa fn ts [] exK (HandSHeadRun.getT s)
theorem ob_eq (s : PySem.W.SharedT) : ob s = hookM.obs s.abs := He.obsX_eq (fun a => HandSHeadRun.getT_eq s a)
abbrev loose : List Str := ["_wall", "NoStep", "is_word", "is_name", "_is_literal", "is_clause", "clause_of", "_show_literal", "show_clause", "Chain", "_clause_of_step", "_is_below", "meeting", "_show_step", "renumbered", "leaning", "trimmed", "_law_tape", "_law_draw", "_law_words", "_law_clause", "_law_joined", "_law_fresh", "_law_grown", "_law_chain", "_law_padded", "_law_trimmed", "SMALL_LETTERS", "MOST_LETTERS", "BARRED", "FIGURES", "MOST_SIGNS"]
theorem run (w : World) : HandSHeadRun.RunEq R (PySem.W.view R.prog [40]) hookM ob 4000 loose w := by
  intro os
  kernel_rfl
end My

set_option maxRecDepth 100000
set_option maxHeartbeats 0
namespace My
open PySem PySem.Spec PyProof.Rows L2 XE Dl

theorem facts {P : Program} {w : World} {K : PySem.W.Frag} {h : Heap} {mg : Str → Option Value} {f : Addr} (X : K.In h) (G : h.Ns mainGlobals mg) (hfa : mg ("law" : Str) = some (.ref f)) (c : He.SaysX fa fn ts [] exK w h K) :
    ∃ fd : FuncData, (∀ (s : Shared) (v : Value), BindsTo s fd ⟨[v], []⟩ [("_law_script", v)]) ∧ ∀ base : Heap, K.In base → base.Ns mainGlobals mg → FnOk P w K mg base CX0 21 f fd ["_law_script"] (spLaw K) := by
  have cd : He.SaysD fa fn K := c.t.d
  have cm : exK K = true := c.more
  have g : ∀ {x : Str} (i : Nat), fa[i]? = some (.glo x) → mg x = some (.ref (He.ga K x)) := fun i e => He.glo_ok X G (cd.fact i e)
  have fr : ∀ {x : Str} (i : Nat), fa[i]? = some (.free x) → mg x = none := fun i e => He.free_ok X G (cd.fact i e)
  obtain ⟨dI_NoStep, FI_NoStep⟩ := cd.def_ 0 (d := di "NoStep" "NoStep.__init__" 2) rfl
  have g_NoStep := g (x := "NoStep") 0 rfl
  obtain ⟨d_is_word, F_is_word⟩ := cd.def_ 6 (d := dd "is_word" 7) rfl
  have b_is_word : Binds K d_is_word ["thing"] [] := F_is_word.bindsN fun _ _ _ _ _ _ us hl => match us, hl with | [_], _ => rfl
  have g_is_word := g (x := "is_word") 1 rfl
  obtain ⟨d_is_name, F_is_name⟩ := cd.def_ 7 (d := dd "is_name" 11) rfl
  have b_is_name : Binds K d_is_name ["thing"] [] := F_is_name.bindsN fun _ _ _ _ _ _ us hl => match us, hl with | [_], _ => rfl
  have g_is_name := g (x := "is_name") 2 rfl
  obtain ⟨d__is_literal, F__is_literal⟩ := cd.def_ 8 (d := dd "_is_literal" 12) rfl
  have b__is_literal : Binds K d__is_literal ["thing"] [] := F__is_literal.bindsN fun _ _ _ _ _ _ us hl => match us, hl with | [_], _ => rfl
  have g__is_literal := g (x := "_is_literal") 3 rfl
  obtain ⟨d_is_clause, F_is_clause⟩ := cd.def_ 9 (d := dd "is_clause" 13) rfl
  have b_is_clause : Binds K d_is_clause ["thing"] [] := F_is_clause.bindsN fun _ _ _ _ _ _ us hl => match us, hl with | [_], _ => rfl
  have g_is_clause := g (x := "is_clause") 4 rfl
  obtain ⟨d_clause_of, F_clause_of⟩ := cd.def_ 10 (d := dd "clause_of" 14) rfl
  have b_clause_of : Binds K d_clause_of ["literals"] [] := F_clause_of.bindsN fun _ _ _ _ _ _ us hl => match us, hl with | [_], _ => rfl
  have g_clause_of := g (x := "clause_of") 5 rfl
  obtain ⟨d__clause_of_step, F__clause_of_step⟩ := cd.def_ 11 (d := dd "_clause_of_step" 20) rfl
  have b__clause_of_step : Binds K d__clause_of_step ["step", "ahead"] [] := F__clause_of_step.bindsN fun _ _ _ _ _ _ us hl => match us, hl with | [_, _], _ => rfl
  have g__clause_of_step := g (x := "_clause_of_step") 6 rfl
  obtain ⟨d__is_below, F__is_below⟩ := cd.def_ 12 (d := dd "_is_below" 21) rfl
  have b__is_below : Binds K d__is_below ["thing", "count"] [] := F__is_below.bindsN fun _ _ _ _ _ _ us hl => match us, hl with | [_, _], _ => rfl
  have g__is_below := g (x := "_is_below") 7 rfl
  obtain ⟨d_meeting, F_meeting⟩ := cd.def_ 13 (d := dd "meeting" 22) rfl
  have b_meeting : Binds K d_meeting ["first", "second", "name"] [] := F_meeting.bindsN fun _ _ _ _ _ _ us hl => match us, hl with | [_, _, _], _ => rfl
  have g_meeting := g (x := "meeting") 8 rfl
  obtain ⟨d_renumbered, F_renumbered⟩ := cd.def_ 14 (d := dd "renumbered" 25) rfl
  have b_renumbered : Binds K d_renumbered ["step", "numbers"] [] := F_renumbered.bindsN fun _ _ _ _ _ _ us hl => match us, hl with | [_, _], _ => rfl
  have g_renumbered := g (x := "renumbered") 9 rfl
  obtain ⟨d_leaning, F_leaning⟩ := cd.def_ 15 (d := dd "leaning" 26) rfl
  have b_leaning : Binds K d_leaning ["steps", "last"] [] := F_leaning.bindsN fun _ _ _ _ _ _ us hl => match us, hl with | [_, _], _ => rfl
  have g_leaning := g (x := "leaning") 10 rfl
  obtain ⟨d_trimmed, F_trimmed⟩ := cd.def_ 16 (d := dd "trimmed" 28) rfl
  have b_trimmed : Binds K d_trimmed ["chain"] [] := F_trimmed.bindsN fun _ _ _ _ _ _ us hl => match us, hl with | [_], _ => rfl
  have g_trimmed := g (x := "trimmed") 11 rfl
  obtain ⟨d__law_tape, F__law_tape⟩ := cd.def_ 17 (d := dd "_law_tape" 30) rfl
  have b__law_tape : Binds K d__law_tape ["_law_script"] [] := F__law_tape.bindsN fun _ _ _ _ _ _ us hl => match us, hl with | [_], _ => rfl
  have g__law_tape := g (x := "_law_tape") 12 rfl
  obtain ⟨d__law_draw, F__law_draw⟩ := cd.def_ 18 (d := dd "_law_draw" 31) rfl
  have b__law_draw : Binds K d__law_draw ["_law_tape_here", "_law_many"] [] := F__law_draw.bindsN fun _ _ _ _ _ _ us hl => match us, hl with | [_, _], _ => rfl
  have g__law_draw := g (x := "_law_draw") 13 rfl
  obtain ⟨d__law_words, F__law_words⟩ := cd.def_ 19 (d := dd "_law_words" 32) rfl
  have b__law_words : Binds K d__law_words ["_law_tape_here", "_law_many"] [] := F__law_words.bindsN fun _ _ _ _ _ _ us hl => match us, hl with | [_, _], _ => rfl
  have g__law_words := g (x := "_law_words") 14 rfl
  obtain ⟨d__law_clause, F__law_clause⟩ := cd.def_ 20 (d := dd "_law_clause" 33) rfl
  have b__law_clause : Binds K d__law_clause ["_law_tape_here", "_law_names", "_law_few"] [] := F__law_clause.bindsN fun _ _ _ _ _ _ us hl => match us, hl with | [_, _, _], _ => rfl
  have g__law_clause := g (x := "_law_clause") 15 rfl
  obtain ⟨d__law_fresh, F__law_fresh⟩ := cd.def_ 21 (d := dd "_law_fresh" 35) rfl
  have b__law_fresh : Binds K d__law_fresh ["_law_tape_here", "_law_many"] [] := F__law_fresh.bindsN fun _ _ _ _ _ _ us hl => match us, hl with | [_, _], _ => rfl
  have g__law_fresh := g (x := "_law_fresh") 16 rfl
  obtain ⟨d__law_grown, F__law_grown⟩ := cd.def_ 22 (d := dd "_law_grown" 36) rfl
  have b__law_grown : Binds K d__law_grown ["_law_tape_here", "_law_box", "_law_clause_here", "_law_deep"] [] := F__law_grown.bindsN fun _ _ _ _ _ _ us hl => match us, hl with | [_, _, _, _], _ => rfl
  have g__law_grown := g (x := "_law_grown") 17 rfl
  obtain ⟨d__law_chain, F__law_chain⟩ := cd.def_ 23 (d := dd "_law_chain" 37) rfl
  have b__law_chain : Binds K d__law_chain ["_law_tape_here", "_law_names", "_law_clause_here", "_law_left", "_law_deep"] [] := F__law_chain.bindsN fun _ _ _ _ _ _ us hl => match us, hl with | [_, _, _, _, _], _ => rfl
  have g__law_chain := g (x := "_law_chain") 18 rfl
  obtain ⟨d__law_padded, F__law_padded⟩ := cd.def_ 24 (d := dd "_law_padded" 38) rfl
  have b__law_padded : Binds K d__law_padded ["_law_tape_here", "_law_steps", "_law_clauses", "_law_names"] [] := F__law_padded.bindsN fun _ _ _ _ _ _ us hl => match us, hl with | [_, _, _, _], _ => rfl
  have g__law_padded := g (x := "_law_padded") 19 rfl
  obtain ⟨d__law_trimmed, F__law_trimmed⟩ := cd.def_ 25 (d := dd "_law_trimmed" 39) rfl
  have b__law_trimmed : Binds K d__law_trimmed ["_law_steps"] [] := F__law_trimmed.bindsN fun _ _ _ _ _ _ us hl => match us, hl with | [_], _ => rfl
  have g__law_trimmed := g (x := "_law_trimmed") 20 rfl
  obtain ⟨fd, F_law⟩ := cd.def_ 26 (d := dd "law" 40) rfl
  have e := hfa.symm.trans (g (x := "law") 21 rfl)
  cases e
  have b_law := FunD.bindsA (ps := ["_law_script"]) F_law fun _ _ _ _ _ _ us hl => match us, hl with | [_], _ => rfl
  have g_Chain := g (x := "Chain") 22 rfl
  have cl_Chain := He.cls_ok (cd.fact 23 rfl)
  have mk_Chain := He.mkr_ok (cd.fact 24 rfl)
  have no_Chain__steps := He.noat_ok (x := "Chain") (f := "_steps") (cd.fact 25 rfl)
  have no_Chain__clauses := He.noat_ok (x := "Chain") (f := "_clauses") (cd.fact 26 rfl)
  have me_Chain_steps := He.meth_ok (x := "Chain") (m := "steps") (cd.fact 27 rfl)
  have me_Chain_last := He.meth_ok (x := "Chain") (m := "last") (cd.fact 28 rfl)
  have me_Chain___len__ := He.meth_ok (x := "Chain") (m := "__len__") (cd.fact 29 rfl)
  have me_Chain___eq__ := He.meth_ok (x := "Chain") (m := "__eq__") (cd.fact 30 rfl)
  obtain ⟨d_Chain___init__, F_Chain___init__⟩ := cd.def_ 1 (d := dm "Chain" "__init__" "Chain.__init__" 19 0) rfl
  have b_Chain___init__ : Binds K d_Chain___init__ ["self", "steps"] [] := F_Chain___init__.bindsN fun _ _ _ _ _ _ us hl => match us, hl with | [_, _], _ => rfl
  obtain ⟨d_Chain_steps, F_Chain_steps⟩ := cd.def_ 2 (d := dm "Chain" "steps" "Chain.steps" 19 1) rfl
  have b_Chain_steps : Binds K d_Chain_steps ["self"] [] := F_Chain_steps.bindsN fun _ _ _ _ _ _ us hl => match us, hl with | [_], _ => rfl
  obtain ⟨d_Chain_last, F_Chain_last⟩ := cd.def_ 3 (d := dm "Chain" "last" "Chain.last" 19 3) rfl
  have b_Chain_last : Binds K d_Chain_last ["self"] [] := F_Chain_last.bindsN fun _ _ _ _ _ _ us hl => match us, hl with | [_], _ => rfl
  obtain ⟨d_Chain___len__, F_Chain___len__⟩ := cd.def_ 4 (d := dm "Chain" "__len__" "Chain.__len__" 19 5) rfl
  have b_Chain___len__ : Binds K d_Chain___len__ ["self"] [] := F_Chain___len__.bindsN fun _ _ _ _ _ _ us hl => match us, hl with | [_], _ => rfl
  obtain ⟨d_Chain___eq__, F_Chain___eq__⟩ := cd.def_ 5 (d := dm "Chain" "__eq__" "Chain.__eq__" 19 6) rfl
  have b_Chain___eq__ : Binds K d_Chain___eq__ ["self", "other"] [] := F_Chain___eq__.bindsN fun _ _ _ _ _ _ us hl => match us, hl with | [_, _], _ => rfl
  have i_MOST_LETTERS := He.int_ok X G (x := "MOST_LETTERS") (i := 8) (cd.fact 31 rfl)
  have i_MOST_SIGNS := He.int_ok X G (x := "MOST_SIGNS") (i := 12) (cd.fact 32 rfl)
  have i_SMALL_LETTERS := He.str_ok X G (x := "SMALL_LETTERS") (z := abc) (cd.fact 33 rfl)
  have i_FIGURES := He.str_ok X G (x := "FIGURES") (z := figs) (cd.fact 34 rfl)
  have g_BARRED := g (x := "BARRED") 35 rfl
  have m_len := fr (x := "len") 36 rfl
  have m_range := fr (x := "range") 37 rfl
  have m_isinstance := fr (x := "isinstance") 38 rfl
  have m_str := fr (x := "str") 39 rfl
  have m_tuple := fr (x := "tuple") 40 rfl
  have m_bool := fr (x := "bool") 41 rfl
  have m_all := fr (x := "all") 42 rfl
  have m_zip := fr (x := "zip") 43 rfl
  have m_list := fr (x := "list") 44 rfl
  have m_sorted := fr (x := "sorted") 45 rfl
  have m_set := fr (x := "set") 46 rfl
  have m_enumerate := fr (x := "enumerate") 47 rfl
  have m_max := fr (x := "max") 48 rfl
  have m_reversed := fr (x := "reversed") 49 rfl
  have m_int := fr (x := "int") 50 rfl
  obtain ⟨e_NoStep, cm0⟩ := both cm
  obtain ⟨ex0, cm1⟩ := both cm0
  obtain ⟨ex1, cm2⟩ := both cm1
  obtain ⟨ex2, cm3⟩ := both cm2
  obtain ⟨ex3, cm4⟩ := both cm3
  obtain ⟨ex4, ex5⟩ := both cm4
  obtain ⟨err_NoStep, ty_NoStep, own_NoStep⟩ := err_of (x := "NoStep") (fl := .step) .ind e_NoStep (init_of (st := iSt 2) FI_NoStep rfl rfl rfl)
  refine ⟨fd, fun s v => b_law s [v] rfl, fun base _ _ => ?_⟩
  have WD : Wd K mg (He.ga K "BARRED") (He.ga K "is_word") (He.ga K "is_name") (He.ga K "_is_literal") d_is_word d_is_name d__is_literal := { gML := i_MOST_LETTERS, gSL := i_SMALL_LETTERS, gMS := i_MOST_SIGNS, gFI := i_FIGURES, gB := g_BARRED, bB := fun H => He.tupB_ok ex0 H, gW := g_is_word, kW := F_is_word.kp, bW := b_is_word, gN := g_is_name, kN := F_is_name.kp, bN := b_is_name, gL := g__is_literal, kL := F__is_literal.kp, bL := b__is_literal, mstr := m_str, mtuple := m_tuple, mbool := m_bool, misinstance := m_isinstance, mall := m_all, mlen := m_len, mzip := m_zip }
  have OWd : FnOk P w K mg base CX0 1 (He.ga K "is_word") d_is_word ["thing"] (spD K GWord) := ok_word (k := 0) F_is_word WD
  have ONa : FnOk P w K mg base CX0 2 (He.ga K "is_name") d_is_name ["thing"] (spD K GName) := ok_name (k := 1) F_is_name OWd WD
  have OLi : FnOk P w K mg base CX0 3 (He.ga K "_is_literal") d__is_literal ["thing"] (spD K GLit) := ok_literal (k := 2) F__is_literal ONa WD
  have OCl : FnOk P w K mg base CX0 4 (He.ga K "is_clause") d_is_clause ["thing"] (spD K GClause) := ok_clause (k := 3) F_is_clause OLi WD
  have ME : Me K mg (He.ga K "clause_of") (He.ga K "_is_below") (He.ga K "meeting") (He.ga K "is_clause") d_clause_of d__is_below d_meeting d_is_clause := { gO := g_clause_of, kO := F_clause_of.kp, bO := b_clause_of, gB := g__is_below, kB := F__is_below.kp, bB := b__is_below, gM := g_meeting, kM := F_meeting.kp, bM := b_meeting, gC := g_is_clause, kC := F_is_clause.kp, bC := b_is_clause, msorted := m_sorted, mtuple := m_tuple, mint := m_int, mbool := m_bool, misinstance := m_isinstance, mlen := m_len }
  have OCO : FnOk P w K mg base CX0 3 (He.ga K "clause_of") d_clause_of ["literals"] (spD K GCO) := ok_clause_of (k := 2) F_clause_of ME
  have OBe : FnOk P w K mg base CX0 1 (He.ga K "_is_below") d__is_below ["thing", "count"] (spD K GBe) := ok_below (k := 0) F__is_below ME
  have OMe : FnOk P w K mg base CX0 4 (He.ga K "meeting") d_meeting ["first", "second", "name"] (spD K GMe) := ok_meeting (k := 3) F_meeting OCO ME
  have OCS : FnOk P w K mg base CX0 5 (He.ga K "_clause_of_step") d__clause_of_step ["step", "ahead"] (spD K GCS) := ok_cstep (k := 4) (by decide) F__clause_of_step OCl OBe OMe ME
  have CH : Ch K mg (He.ga K "Chain") (He.ma K (He.ga K "Chain") "__init__") (He.ga K "NoStep") (mI K "NoStep") (He.ga K "_clause_of_step") d__clause_of_step bm_NoStep "IndexError.__new__" := { cl := cl_Chain, nS := no_Chain__steps, nC := no_Chain__clauses, gC := g_Chain, cc := of_decide_eq_true ex1, cs := of_decide_eq_true ex2, ct := of_decide_eq_true ex3, cm := of_decide_eq_true ex4, ck := of_decide_eq_true ex5, err := err_NoStep, tyN := ty_NoStep, gN := g_NoStep, gS := g__clause_of_step, kS := F__clause_of_step.kp, bS := b__clause_of_step, misinstance := m_isinstance, mlist := m_list, mtuple := m_tuple, menumerate := m_enumerate, mlen := m_len }
  have OI : FnOk P w K mg base (L2.CX P w) 6 (He.ma K (He.ga K "Chain") "__init__") d_Chain___init__ ["self", "steps"] (spInit K (He.ga K "Chain") (He.ga K "NoStep")) := ok_init (k := 5) F_Chain___init__ OCS CH
  have OIc : FnOk P w K mg base CX0 6 (He.ma K (He.ga K "Chain") "__init__") d_Chain___init__ ["self", "steps"] (spInitC K (He.ga K "Chain") (He.ga K "NoStep")) := fnok_calm OI
  have OS : FnOk P w K mg base CX0 1 (He.ma K (He.ga K "Chain") "steps") d_Chain_steps ["self"] (spCSteps K (He.ga K "Chain")) := ok_steps (k := 0) F_Chain_steps CH
  have OA : FnOk P w K mg base CX0 1 (He.ma K (He.ga K "Chain") "last") d_Chain_last ["self"] (spCLast K (He.ga K "Chain")) := ok_last (k := 0) F_Chain_last CH
  have ON : FnOk P w K mg base CX0 1 (He.ma K (He.ga K "Chain") "__len__") d_Chain___len__ ["self"] (spCLen K (He.ga K "Chain")) := ok_len (k := 0) F_Chain___len__ CH
  have OE : FnOk P w K mg base CX0 1 (He.ma K (He.ga K "Chain") "__eq__") d_Chain___eq__ ["self", "other"] (spCEq K (He.ga K "Chain")) := ok_eq (k := 0) F_Chain___eq__ CH
  have ORe : FnOk P w K mg base CX0 1 (He.ga K "renumbered") d_renumbered ["step", "numbers"] (spRen K) := ok_renumbered F_renumbered
  have OLe : FnOk P w K mg base CX0 2 (He.ga K "leaning") d_leaning ["steps", "last"] (spLean K) := ok_leaning F_leaning { GR := ORe, gR := g_renumbered, kR := F_renumbered.kp, bR := b_renumbered, mrange := m_range, mreversed := m_reversed, mlen := m_len }
  have OTr : FnOk P w K mg base CX0 8 (He.ga K "trimmed") d_trimmed ["chain"] (spTrim K (He.ga K "Chain")) := ok_trimmed (CN := He.ga K "NoStep") F_trimmed { cl := cl_Chain, mkC := mk_Chain, gC := g_Chain, GI := OIc, bI := b_Chain___init__, mS := me_Chain_steps, GS := OS, bS := b_Chain_steps, GN := ON, bN := b_Chain___len__, lS := me_Chain___len__.at_, lF := me_Chain___len__.fn, GL := OLe, gL := g_leaning, kL := F_leaning.kp, bL := b_leaning, mlen := m_len }
  have OT : FnOk P w K mg base CX0 1 (He.ga K "_law_tape") d__law_tape ["_law_script"] (spTape K) := ok_tape (k := 0) F__law_tape
  have OD : FnOk P w K mg base CX0 11 (He.ga K "_law_draw") d__law_draw ["_law_tape_here", "_law_many"] (spDraw 11) := all_draw F__law_draw b__law_draw g__law_draw m_len 11 (by decide)
  have OW : FnOk P w K mg base CX0 12 (He.ga K "_law_words") d__law_words ["_law_tape_here", "_law_many"] (spWords K) := ok_words (k := 11) (by decide) F__law_words OD b__law_draw g__law_draw F__law_draw.kp m_range
  have DR : Dr P w K mg base (He.ga K "_law_draw") (He.ga K "_law_words") d__law_draw d__law_words := { GD := OD, gD := g__law_draw, kD := F__law_draw.kp, bD := b__law_draw, GW := OW, gW := g__law_words, kW := F__law_words.kp, bW := b__law_words, mlist := m_list, mtuple := m_tuple, mrange := m_range, mlen := m_len, msorted := m_sorted }
  have OFr : FnOk P w K mg base CX0 13 (He.ga K "_law_fresh") d__law_fresh ["_law_tape_here", "_law_many"] (spTL K 2000 GFresh) := ok_fresh F__law_fresh DR
  have OLC : FnOk P w K mg base CX0 12 (He.ga K "_law_clause") d__law_clause ["_law_tape_here", "_law_names", "_law_few"] (spT K 300 GLClause) := ok_lclause F__law_clause DR
  have OGn : FnOk P w K mg base CX0 19 (He.ga K "_law_grown") d__law_grown ["_law_tape_here", "_law_box", "_law_clause_here", "_law_deep"] (spGrown K 7) := all_grown F__law_grown { GD := OD, gD := g__law_draw, kD := F__law_draw.kp, bD := b__law_draw, gG := g__law_grown, bG := b__law_grown, mtuple := m_tuple, mrange := m_range, mlen := m_len, msorted := m_sorted } 7
  have CNs : Cn P w K mg base (He.ga K "_law_draw") (He.ga K "_law_clause") (He.ga K "_law_grown") d__law_draw d__law_clause d__law_grown := { GD := OD, gD := g__law_draw, kD := F__law_draw.kp, bD := b__law_draw, GC := OLC, gC := g__law_clause, kC := F__law_clause.kp, bC := b__law_clause, gG := g__law_grown, kG := F__law_grown.kp, bG := b__law_grown, mrange := m_range, mlen := m_len, mzip := m_zip, mmax := m_max }
  have OCh : FnOk P w K mg base CX0 20 (He.ga K "_law_chain") d__law_chain ["_law_tape_here", "_law_names", "_law_clause_here", "_law_left", "_law_deep"] (spLChain K 7) := ok_lchain (D := 7) (by decide) F__law_chain OGn CNs
  have OPd : FnOk P w K mg base CX0 13 (He.ga K "_law_padded") d__law_padded ["_law_tape_here", "_law_steps", "_law_clauses", "_law_names"] (spT K 70000 GPad) := ok_padded F__law_padded CNs
  have OLt : FnOk P w K mg base CX0 1 (He.ga K "_law_trimmed") d__law_trimmed ["_law_steps"] (spLTrim K) := ok_ltrim F__law_trimmed { mrange := m_range, mlen := m_len, msorted := m_sorted, mset := m_set }
  exact ok_law F_law { GT := OT, gT := g__law_tape, kT := F__law_tape.kp, bT := b__law_tape, GF := OFr, gF := g__law_fresh, kF := F__law_fresh.kp, bF := b__law_fresh, GH := OCh, gH := g__law_chain, kH := F__law_chain.kp, bH := b__law_chain, GL := OLC, gL := g__law_clause, kL := F__law_clause.kp, bL := b__law_clause, GP := OPd, gP := g__law_padded, kP := F__law_padded.kp, bP := b__law_padded, GD := OD, gD := g__law_draw, kD := F__law_draw.kp, bD := b__law_draw, GR := OTr, gR := g_trimmed, kR := F_trimmed.kp, bR := b_trimmed, GU := OLt, gU := g__law_trimmed, kU := F__law_trimmed.kp, bU := b__law_trimmed, mrange := m_range, mlen := m_len, cl := cl_Chain, mkC := mk_Chain, gC := g_Chain, GI := OIc, bI := b_Chain___init__, mS := me_Chain_steps, GS := OS, bS := b_Chain_steps, mA := me_Chain_last, GA := OA, bA := b_Chain_last, GE := OE, bE := b_Chain___eq__, eS := me_Chain___eq__.at_, eF := me_Chain___eq__.fn }
end My
open PySem PySem.W PySem.Calls PyProof.Rows
theorem PySem.Challenge.cw_middlesay_k17_chains_trimmed_holds : PySem.Challenge.rw_middlesay_k17_chains_trimmed.Holds := by
  w_on; o_law
  refine HandSHeadRun.head_any (r := OpenLaw.row PySem.Challenge.rw_middlesay_k17_chains_trimmed) (q := view (OpenLaw.row PySem.Challenge.rw_middlesay_k17_chains_trimmed).prog [40]) (H := My.hookM) (ob := My.ob) (M := 4000) (loose := My.loose)
    (d := HandSHeadRun.topDef (OpenLaw.row PySem.Challenge.rw_middlesay_k17_chains_trimmed).prog 40) (kwd := []) My.ob_eq
    (by kernel_rfl) (fun s => by kernel_rfl) My.run (by kernel_rfl) (by kernel_rfl) (by kernel_rfl) (by rfl) (by first | assumption | decide +kernel) (by decide +kernel) ⟨rfl, rfl, rfl, rfl, rfl, by decide +kernel⟩ ?hw ?hc
  case hw => w_witness2
  case hc =>
    refine L2.walk_ofE (l := PySem.Challenge.rw_middlesay_k17_chains_trimmed) (n := 63) (k := 21) (x := "_law_script") (CX := L2.CX0) rfl (by decide) (by kernel_rfl) ⟨rfl, by decide, by decide⟩ ?F (fun _ _ _ _ z => z)
    intro w mg fa h Y G hmg0
    obtain ⟨K, KX, c⟩ := Y
    have hmg : mg ("law" : PySem.Str) = some (.ref fa) := by
      have e : (HandSHeadRun.topDef (OpenLaw.row PySem.Challenge.rw_middlesay_k17_chains_trimmed).prog 40).name = ("law" : PySem.Str) := by kernel_rfl
      rw [← e]
      exact hmg0
    obtain ⟨fd, hb, hF⟩ := My.facts (P := (PySem.Challenge.rw_middlesay_k17_chains_trimmed).prog) (w := w) KX G hmg c
    exact ⟨K, fd, My.spLaw K, KX, hb, fun H a ns hl _ hS => ⟨a, ns, rfl, hS, fun _ => rfl⟩, hF⟩
