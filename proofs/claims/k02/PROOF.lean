import PyProof.Rows.All
import Wide.All
import OpenK.AllK
import Wide.FinOn
import HandS.ForMost
import HandS.Defaults
import HandS.Flow
import HandS.Wide
import KE.KExcInit
import KE.KExcIs
import KE.KIsAll
import HandS.Exc
import HandS.ExcInit
import HandS.ExcValue
import HandS.IsInst
import HandS.Set
import HandS.Strs
import HandS.SetIn
import HandS.TupSets
import HandS.SortInts
import PyProof.Rows.SortShellAny
import PyProof.AutoSeq1
import HandS.DictComp
import HandS.ExcOwn
import HandS.Walk
import KE.DataEq
import HandS.Words
import HandS.More
import HandS.TupAny
import KE.KStateDown
import HandS.Head0
import HandS.Head1
import HandS.Head2
import HandS.HeadEnd
import HandS.HeadHook1
import HandS.HeadHook2
import HandS.HeadHook3
import HandS.HeadHook4
import PySem.Challenge.RW_middlesay_k02_sayings_hold
set_option Elab.async false
set_option linter.all false
set_option maxRecDepth 100000
set_option maxHeartbeats 4000000
/-! Classes of errors over five built-in ones, each with an __init__ that stores its one parameter: made as values, their field read, asked by isinstance. KeyError makes its instances by LookupError's __new__. -/
namespace XE
open PySem PySem.W PySem.Calls PyProof.Rows
abbrev mroK : List Value := [.type "KeyError", .type "LookupError", .type "Exception", .type "BaseException", .type "object"]
theorem slot_key : Slot "KeyError" "__setattr__" "object.__setattr__" := .of (owner := "object")
  (n := "__setattr__")
  (by
    rw [typeLookup_type, builtinLookup_eq_fast]
    kernel_rfl)
  (by decide +kernel) (by decide +kernel) (by decide +kernel)
  (by
    first
      | exact .inl (by decide +kernel)
      | exact .inr (by decide +kernel))
  (by
    rw [isSubtype_type]
    kernel_rfl)
theorem store_key : StoreFacts "KeyError" mroK "object.__setattr__" "object" :=
  { mro := by kernel_rfl
    slot := slot_key
    entry := PySem.F.store_object.entry
    kind := PySem.F.store_object.kind
    split := PySem.F.store_object.split
    hasOwner := by decide +kernel
    args := PySem.F.store_object.args
    passes := fun self => by kernel_rfl }
section
variable {prog : Program} {w : World} {A : Around} {E : Value → Shared → Prop} {R : Result → Shared → Prop} {h : Heap} {g : Array GenState} {d : Drawn} {t : Nat} {os : OsState}
variable {nm q : Str} {C N : Addr} {bs bm : List Value} {hdct : Bool} {sn : List Str} {sub : List Value} {ab : Bool} {col : Option Bool} {dd : Option Addr} {k0 k1 k2 k3 k5 : Option Value}
/-- what a list of classes says of a KeyError -/
structure Keyed (bm : List Value) : Prop where
  own : bm.contains (.type "LookupError") = true
  noA : bm.contains (.type "AttributeError") = false
  noN : bm.contains (.type "NameError") = false
theorem keyed_of (hT : ∀ X : String, bm.contains (.type X) = mroK.contains (.type X)) : Keyed bm :=
  ⟨(hT _).trans (by decide +kernel), (hT _).trans (by decide +kernel), (hT _).trans (by decide +kernel)⟩
theorem behind {X : String} {b : Bool} (e : bm.contains (.type X) = b) : (Value.ref C :: bm).contains (.type X) = b := by
  rw [List.contains_cons, e]
  rfl
theorem key_check {M : Model} {rest : List Value} {Q : Unit → Shared → Prop} (Y : Keyed bm) (cl : h.get? C = some (excClassObj nm q C N bs bm hdct sn sub ab col dd k0 k1 k2 k3 k5 "LookupError.__new__")) (yes : Q () ⟨h, g, d, t, os⟩) :
    wpAny M A (checkBuiltinCall "LookupError.__new__" ⟨.ref C :: rest, []⟩) Q E ⟨h, g, d, t, os⟩ := by
  have L := PySem.F.excBase_LookupError
  have in1 := behind (C := C) Y.own
  have star := L.noStar
  simp only [checkBuiltinCall, L.newKind, L.newSplit, L.newRow]
  repeat (first
    | refine wpAny_loadPart_at cl ?_
    | (refine wpAny_isSubtype_exc cl ?_; rw [in1])
    | refine wpAny_staticBase_exc cl ?_
    | refine wpAny_madeBy_exc cl ?_
    | simp only [bne_self_eq_false, Bool.false_eq_true, if_false]
    | wp_step)
  exact yes
theorem key_new {rest : List Value} (Y : Keyed bm) (cl : h.get? C = some (excClassObj nm q C N bs bm hdct sn sub ab col dd k0 k1 k2 k3 k5 "LookupError.__new__"))
    (yes : R (.ok (.ret (.ref (h.objs.size + 1)))) ⟨(h.push (kdv_tup rest)).push (PySem.PX.excO C h.objs.size), g, d, t, os⟩) (few : rest.length ≤ sizeLine) :
    codeAny (model prog w) A (.builtin "LookupError.__new__" ⟨.ref C :: rest, []⟩) R ⟨h, g, d, t, os⟩ := by
  have L := PySem.F.excBase_LookupError
  have hends := L.ends
  have in1 := behind (C := C) Y.own
  have in2 := behind (C := C) Y.noA
  have in3 := behind (C := C) Y.noN
  refine codeAny_builtinAt L.entry ?_
  unfold Builtin.«BaseException.__new__»
  refine PySem.wpAt_bind ?_
  show PySem.wpAt _ _ _ (stack >>= _) _ _ _
  refine PySem.wpAt_bind (PySem.wpAt_stack fun p below => PySem.wpAt_of_wpAny ?_)
  wp_walk
  refine PySem.wpAt_of_wpAny ?_
  rw [L.owner]
  repeat (first
    | with_reducible refine wpAny_madeHere_exc L.canon cl ?_
    | with_reducible refine wpAny_loadPart_at cl ?_
    | (with_reducible refine wpAny_isSubtype_exc cl ?_
       first
        | rw [in1]
        | rw [in2]
        | rw [in3])
    | wp_step)
  show R _ _
  rw [Heap.size_push]
  exact yes
theorem key_type {rest : List Value} {fI : Addr} {Q : Fin → Shared → Prop} (Y : Keyed bm) (cl : h.get? C = some (excClassObj nm q C N bs bm hdct sn sub ab col dd k0 k1 k2 k3 k5 "LookupError.__new__"))
    (ini : Looks (model prog w) h (typeLookup (.ref C) "__init__") (some (.ref fI))) (bnd : ∀ self, Looks (model prog w) h (bindSpecial (.ref fI) self) (.ref fI, [self])) (few : rest.length ≤ sizeLine)
    (run : codeAny (model prog w) A (.call (.ref fI) ⟨.ref (h.objs.size + 1) :: rest, []⟩)
      (fun r s' => match r with | .ok (.ret v) => v = .none ∧ Q (.done (.ret (.ref (h.objs.size + 1)))) s' | .ok _ => False | .error e => E e s') ⟨(h.push (kdv_tup rest)).push (PySem.PX.excO C h.objs.size), g, d, t, os⟩) :
    wpAny (model prog w) A (Builtin.«type.__call__» ⟨.ref C :: rest, []⟩) Q E ⟨h, g, d, t, os⟩ := by
  repeat (first
    | with_reducible refine wpAny_loadPart_at cl ?_
    | with_reducible refine wpAny_madeBy_exc cl ?_
    | wp_step)
  refine codeAny_call_builtin_code (Code.quiet_builtin _ PySem.F.excBase_LookupError.quiet) (key_check Y cl ?_)
  refine key_new Y cl ?_ few
  show wpAny _ _ _ _ _ _
  have k : ∀ b o, h.get? b = some o → ((h.push (kdv_tup rest)).push (PySem.PX.excO C h.objs.size)).get? b = some o := fun b o e =>
    Heap.get?_push_of_some _ (Heap.get?_push_of_some _ e)
  have cl1 := k _ _ cl
  have at1 : ((h.push (kdv_tup rest)).push (PySem.PX.excO C h.objs.size)).get? (h.objs.size + 1) = some (PySem.PX.excO C h.objs.size) := by
    heap_get
  have self1 : (Value.ref C :: bm).contains (.ref C) = true := by simp
  have i1 := ini.keeps k
  have b1 := (bnd (.ref (h.objs.size + 1))).keeps k
  unfold isInstance
  repeat (first
    | with_reducible refine wpAny_loadPart_at at1 ?_
    | (with_reducible refine wpAny_isSubtype_exc cl1 ?_; rw [self1])
    | wp_step)
  show wpAny _ _ (typeLookup (.ref C) _) _ _ _
  refine i1.at (wpAny_holding (wpAny_bind (b1.at ?_)))
  refine wpAny_bind (wpAny_call (codeAny_mono run fun r s' z => ?_))
  rcases r with e | (v | _ | _ | _) <;>
    first
      | exact z
      | exact z.elim
      | skip
  obtain ⟨rfl, z2⟩ := z
  first
    | exact wpAny_pure (wpAny_pure z2)
    | (wp_walk
       exact z2)
theorem key_call {rest : List Value} {fI : Addr} (Y : Keyed bm) (cl : h.get? C = some (excClassObj nm q C N bs bm hdct sn sub ab col dd k0 k1 k2 k3 k5 "LookupError.__new__"))
    (ini : Looks (model prog w) h (typeLookup (.ref C) "__init__") (some (.ref fI))) (bnd : ∀ self, Looks (model prog w) h (bindSpecial (.ref fI) self) (.ref fI, [self])) (few : rest.length ≤ sizeLine)
    (run : codeAny (model prog w) (A.under (.builtin "type.__call__" ⟨.ref C :: rest, []⟩)) (.call (.ref fI) ⟨.ref (h.objs.size + 1) :: rest, []⟩) (InitBack (h.objs.size + 1) R) ⟨(h.push (kdv_tup rest)).push (PySem.PX.excO C h.objs.size), g, d, t, os⟩) :
    codeAny (model prog w) A (.call (.ref C) ⟨rest, []⟩) R ⟨h, g, d, t, os⟩ := by
  have a1 := tc_lookup
  have a2 := tc_bind (.ref C)
  have a3 : (⟨h, g, d, t, os⟩ : Shared).TypeIs (.ref C) "type" := ⟨_, cl, rfl⟩
  refine codeAny_of_tree ?_
  show wpAny _ _ (callAny (.ref C) _) _ _ _
  repeat (any_goals (first
    | assumption
    | with_reducible refine wpAny_loadPart_at cl ?_
    | wp_step))
  refine ⟨rfl, ?_⟩
  have quiet : Code.quiet (.builtin "type.__call__" ⟨.ref C :: rest, []⟩) = true := Code.quiet_builtin _ (by decide +kernel)
  refine codeAny_call_builtin_at quiet entry_typeCall (wpAny_check_type_call_sub cl (key_type Y cl ini bnd few ?_))
  refine codeAny_mono run fun r s' z => ?_
  rcases r with e | (v | _ | _ | _) <;> exact z
end
end XE

set_option maxRecDepth 100000
set_option maxHeartbeats 4000000
namespace XE
open PySem PySem.W PySem.Calls PyProof.Rows
/-- the names of the fields -/
inductive Fl where
  | row | why | name | label | step | spot | most
def Fl.s : Fl → Str
  | .row => "row"
  | .why => "why"
  | .name => "name"
  | .label => "label"
  | .step => "step"
  | .spot => "spot"
  | .most => "most"
/-- the five built-in classes: what stands behind a class over it, what makes its instances -/
inductive Five : List Value → String → Prop where
  | val : Five [.type "ValueError", .type "Exception", .type "BaseException", .type "object"] "ValueError.__new__"
  | key : Five mroK "LookupError.__new__"
  | ind : Five [.type "IndexError", .type "LookupError", .type "Exception", .type "BaseException", .type "object"] "IndexError.__new__"
  | look : Five [.type "LookupError", .type "Exception", .type "BaseException", .type "object"] "LookupError.__new__"
  | over : Five [.type "OverflowError", .type "ArithmeticError", .type "Exception", .type "BaseException", .type "object"] "OverflowError.__new__"
theorem Five.store {bmB : List Value} {newId : String} (F : Five bmB newId) : ∃ B, StoreFacts B bmB "object.__setattr__" "object" := by
  cases F
  · exact ⟨_, PySem.F.store_ValueError⟩
  · exact ⟨_, store_key⟩
  · exact ⟨_, PySem.F.store_IndexError⟩
  · exact ⟨_, PySem.F.store_LookupError⟩
  · exact ⟨_, PySem.F.store_OverflowError⟩
def iA (f : Fl) (p1 p2 : Pos) : Arguments := { posonlyargs := [], args := [{ arg := "self", annotation := none, pos := p1 }, { arg := f.s, annotation := none, pos := p2 }], vararg := none, kwonlyargs := [], kw_defaults := [], kwarg := none, defaults := [] }
def iB (f : Fl) (q1 q2 q3 q4 : Pos) : List Stmt := [.Assign [.Attribute (.Name "self" q1) f.s q2] (.Name f.s q3) q4]
def iS (f : Fl) : Scope := { kind := .function, names := [(PySem.Str.ofString "self", .local), (f.s, .local)], isGenerator := false, isCoroutine := false, more := [] }
/-- what the written part says of such a class, at C, and of its __init__, at fI -/
structure Err (K : Frag) (C fI : Addr) (f : Fl) (bmB : List Value) (newId : String) : Prop where
  five : Five bmB newId
  ini : excInitIn K C bmB newId = true
  ovr : excOver K C bmB = true
  iC : findIn K (.ref C) "__init__" = some (some (.ref fI))
  isF : isFn K (.ref fI) = true
  sa : findIn K (.ref C) "__setattr__" = some (some (.builtin "object.__setattr__"))
  tk : takerIn K C f.s = some none
  hd : hasDictIn K C = true
  noF : findIn K (.ref C) f.s = some none
  ga : findIn K (.ref C) "__getattribute__" = some (some (.builtin "BaseException.__getattribute__"))
  gg : findIn K (.ref C) "__getattr__" = some none
  exC : subIn K (.ref C) (.type "BaseException") = some true
  kC : keepIn K (.ref C) = true
  cl : findIn K (.ref C) "__class__" = some (some (.builtin "object.__class__"))
  sp : specialIn K (.builtin "object.__class__") "__get__" = some (some (.builtin "getset_descriptor.__get__"))
  tc : takesIn K (.builtin "object.__class__") = some true
  mo : mroIn K C (.type "object") = some true
  fn : ∃ (qual : Str) (oc : Value) (od : Option Addr) (kv doc pm : Value) (an : Option Addr) (cdv ct : Value) (osl : Array (Option Value)) (p1 p2 q1 q2 q3 q4 : Pos),
    K.lookup fI = some ⟨oc, od, .func (fnOf "__init__" qual (iA f p1 p2) (iB f q1 q2 q3 q4) (iS f) .none kv doc pm an cdv ct), osl⟩ ∧ codeIn K cdv qual = true
section
variable {prog : Program} {w : World} {A : Around} {E : Value → Shared → Prop} {R : Result → Shared → Prop} {s : Shared} {K : Frag} {C fI : Addr} {bmB : List Value} {newId : String} {f : Fl}
theorem exc_store {x t : Addr} {name : Str} {tk : Tok} {v : Value} (F : Five bmB newId) (X : K.In s.heap) (hx : s.heap.get? x = some (excObj C t none .none)) (hp : excOver K C bmB = true) (ht : takerIn K C name = some none) (hh : hasDictIn K C = true)
    (hq : ∀ h' tk' dx, (∀ b o, b ≠ x → s.heap.get? b = some o → h'.get? b = some o) → s.heap.objs.size ≤ dx → dx ≠ x → h'.get? x = some (excObj C t (some dx) .none) → h'.Ns1 dx (fun y => if y = name then some v else none) →
      R (.ok (.ret .none)) { s with heap := h', toks := tk' }) :
    codeAny (model prog w) A (.call (.builtin "object.__setattr__") ⟨[.ref x, .str name tk, v], []⟩) R s := by
  obtain ⟨B, SF⟩ := F.store
  have old := Heap.lt_size hx
  have nx : s.heap.objs.size ≠ x := Nat.ne_of_gt old
  refine osa_openX (od := none) SF X ⟨hx, rfl, rfl, trivial⟩ hp ht fun b => ?_
  obtain ⟨cd, hc, hd'⟩ := any_some hh
  refine wpAny_bind (wpAny_pure (wpAny_bind (instanceDict_exc hx (looks_clsIn X hc) hd' ?_)))
  show wpAny _ _ (Builtin.ObjectAttr.storeInDict s.heap.objs.size (.str name tk) name v) _ _ _
  obtain ⟨hp0, g, d, t0, os⟩ := s
  have hx1 : (hp0.push (dictOf [] 0)).get? x = some (excObj C t none .none) := Heap.get?_push_of_some _ hx
  refine PySem.HandSPX.store_in_new ?_ fun h' tk' hn' hs => ?_
  · refine ⟨dictOf [] 0, #[], _, ?_, rfl, fun e he => absurd he (by simp), fun _ => rfl⟩
    rw [Heap.get?_update_ne _ _ _ _ nx]
    exact Heap.get?_push_at rfl rfl
  · refine hq h' tk' hp0.objs.size (fun b o hb ho => ?_) (Nat.le_refl _) nx ?_ hn'
    · rw [hs.2 b (Nat.ne_of_lt (Heap.lt_size ho)), Heap.get?_update_ne _ _ _ _ hb]
      exact Heap.get?_push_of_some _ ho
    · rw [hs.2 x nx.symm]
      exact Heap.get?_update_self _ hx1 rfl
theorem ldC {M : Model} {s : Shared} {name : Str} {scope : Scope} {L a : Addr} {cd : Value} {m : Str → Option Value} {x : Str} {pos : Pos} {v : Value} {Q : Value → Shared → Prop} {A : Around} {E : Value → Shared → Prop} (hn : s.heap.Ns L m) (hv : m x = some v) (h : Q v s)
    (hk : scope.kind = .function := by rfl) (hl : (envOfC name scope L a cd).kindOf x = some .local := by rfl) (hd : (x == ("__debug__" : Str)) = false := by decide) :
    wpAny M A (eval (.Name x pos) (envOfC name scope L a cd)) Q E s := wpAny_Name (wpAny_loadName_local hk hl hn hv h) hd
/-- what __init__ leaves of a fresh exception at x -/
structure InitEnd (h h' : Heap) (x C dx t1 : Addr) (n : Str) (v : Value) : Prop where
  keep : ∀ b o, b ≠ x → h.get? b = some o → h'.get? b = some o
  obj : h'.get? x = some (excObj C t1 (some dx) .none)
  dbig : h.objs.size ≤ dx
  dne : dx ≠ x
  ns : h'.Ns1 dx (fun y => if y = n then some v else none)
/-- a made one -/
structure OwnMade (h h' : Heap) (e C d : Addr) (n : Str) (v : Value) : Prop where
  keep : ∀ b o, h.get? b = some o → h'.get? b = some o
  new : h.objs.size ≤ e
  obj : ∃ t, h'.get? e = some (excObj C t (some d) .none)
  dbig : h.objs.size ≤ d
  dne : d ≠ e
  ns : h'.Ns1 d (fun y => if y = n then some v else none)
theorem err_init (T : Err K C fI f bmB newId) {x t0 : Addr} {v : Value} (X : K.In s.heap) (hlim : s.heap.NoLimit) (hx : s.heap.get? x = some (excObj C t0 none .none)) (hroom : A.depth < recursionLimit)
    (hq : ∀ h' tk dx, InitEnd s.heap h' x C dx t0 f.s v → R (.ok (.ret .none)) { s with heap := h', toks := tk }) :
    codeAny (model prog w) A (.call (.ref fI) ⟨[.ref x, v], []⟩) R s := by
  obtain ⟨qual, oc, od, kv, doc, pm, an, cdv, ct, osl, p1, p2, q1, q2, q3, q4, ho, hcd⟩ := T.fn
  refine Att.call_fn (binds := [("self", .ref x), (f.s, v)]) X hlim ho hcd hroom (BindsTo.of_eq (by cases f <;> rfl)) (by cases f <;> rfl) (fun s₁ IC => ?_) rfl rfl rfl
  obtain ⟨h₁, tk₁, rfl⟩ := IC.toInCall.same
  have k : ∀ b o, s.heap.get? b = some o → h₁.get? b = some o := IC.toInCall.keep
  have hn := IC.toInCall.ns
  have hxL : s.heap.objs.size ≠ x := Nat.ne_of_gt (Heap.lt_size hx)
  have X₁ : K.In h₁ := X.keeps k
  have hx₁ := k _ _ hx
  show wpAny _ _ (execs _ _) _ _ _
  refine wpAny_execs_cons (plainObj_wpAny_Assign_Attribute ?_ (by cases f <;> rfl))
  refine ldC (v := v) hn (by cases f <;> rfl) (ldC (v := .ref x) hn (by cases f <;> rfl) ?_ rfl (by cases f <;> rfl)) rfl (by cases f <;> rfl) (by cases f <;> decide)
  refine set_plain X₁ (ox := excObj C t0 none .none) (od := none) ⟨hx₁, rfl, rfl, trivial⟩ T.sa ?_
  refine exc_store T.five X₁ hx₁ T.ovr T.tk T.hd (fun h₃ tk₃ dx k₃ dn dne hx₃ hn₃ => ?_)
  show wpAny _ _ (execs _ _) _ _ _
  have z : s.heap.objs.size < h₁.objs.size := hn.lt
  exact wpAny_execs_nil (hq h₃ tk₃ dx ⟨fun b o hb e => k₃ b o hb (k b o e), hx₃, Nat.le_of_lt (Nat.lt_of_lt_of_le z dn), dne, hn₃⟩)
theorem one_size (v : Value) : [v].length ≤ sizeLine := by
  rw [sizeLine_eq]
  exact (by decide : 1 ≤ 16777216)
theorem five_call {nm q : Str} {N : Addr} {bs bm : List Value} {hdct : Bool} {sn : List Str} {sub : List Value} {ab : Bool} {col : Option Bool} {dd : Option Addr} {k0 k1 k2 k3 k5 : Option Value} {h : Heap} {g : Array GenState} {d : Drawn} {t : Nat} {os : OsState} {rest : List Value}
    (F : Five bmB newId) (hT : ∀ X : String, bm.contains (.type X) = bmB.contains (.type X)) (hC : h.get? C = some (excClassObj nm q C N bs bm hdct sn sub ab col dd k0 k1 k2 k3 k5 newId))
    (hi : Looks (model prog w) h (typeLookup (.ref C) "__init__") (some (.ref fI))) (hb : ∀ self, Looks (model prog w) h (bindSpecial (.ref fI) self) (.ref fI, [self])) (few : rest.length ≤ sizeLine)
    (run : codeAny (model prog w) (A.under (.builtin "type.__call__" ⟨.ref C :: rest, []⟩)) (.call (.ref fI) ⟨.ref (h.objs.size + 1) :: rest, []⟩) (InitBack (h.objs.size + 1) R) ⟨(h.push (kdv_tup rest)).push (PySem.PX.excO C h.objs.size), g, d, t, os⟩) :
    codeAny (model prog w) A (.call (.ref C) ⟨rest, []⟩) R ⟨h, g, d, t, os⟩ := by
  cases F
  · exact PySem.PX.call_own PySem.F.excBase_ValueError hT hC hi hb few run
  · exact key_call (keyed_of hT) hC hi hb few run
  · exact PySem.PX.call_own PySem.F.excBase_IndexError hT hC hi hb few run
  · exact PySem.PX.call_own PySem.F.excBase_LookupError hT hC hi hb few run
  · exact PySem.PX.call_own PySem.F.excBase_OverflowError hT hC hi hb few run
theorem err_made (T : Err K C fI f bmB newId) {v : Value} (X : K.In s.heap) (hlim : s.heap.NoLimit) (hroom : A.depth + 1 < recursionLimit)
    (hq : ∀ h' tk e d, OwnMade s.heap h' e C d f.s v → R (.ok (.ret (.ref e))) { s with heap := h', toks := tk }) :
    codeAny (model prog w) A (.call (.ref C) ⟨[v], []⟩) R s := by
  obtain ⟨nm, N, qn, bs, bm, hdct, sn, sub, ab, col, dd, k0, k1, k2, k3, k5, hC, hT⟩ := excInit_of X T.ini
  obtain ⟨oI, hoI, hcI⟩ : ∃ oI, s.heap.get? fI = some oI ∧ oI.cls = .type "function" := by
    obtain ⟨o, ho, hc⟩ := Option.map_eq_some_iff.mp (show (K.lookup fI).map (·.cls) = some (.type "function") from beq_iff_eq.mp T.isF)
    exact ⟨o, X _ _ ho, hc⟩
  obtain ⟨hp, g, dr, tk, os⟩ := s
  have k : ∀ b o, hp.get? b = some o → ((hp.push (kdv_tup [v])).push (PySem.PX.excO C hp.objs.size)).get? b = some o := fun b o e => Heap.get?_push_of_some _ (Heap.get?_push_of_some _ e)
  have hget : ((hp.push (kdv_tup [v])).push (PySem.PX.excO C hp.objs.size)).get? (hp.objs.size + 1) = some (PySem.PX.excO C hp.objs.size) := by heap_get
  refine five_call T.five hT hC (looks_findIn X T.iC) (fun self => exc_bind hoI hcI self) (one_size v) ?_
  refine err_init (s := ⟨(hp.push (kdv_tup [v])).push (PySem.PX.excO C hp.objs.size), g, dr, tk, os⟩) T (X.keeps k) (hlim.keeps k) hget ?_ fun h' tk' dx ⟨k', hx, dn, dne, hns⟩ => ?_
  · show A.depth + 1 < recursionLimit
    exact hroom
  · have old : ∀ b o, hp.get? b = some o → h'.get? b = some o := fun b o e => k' b o (Nat.ne_of_lt (Nat.lt_succ_of_lt (Heap.lt_size e))) (k b o e)
    have z : hp.objs.size + 1 + 1 ≤ dx := by
      first
        | (simpa only [Heap.size_push] using dn)
        | exact dn
        | (have q := dn; rw [Heap.size_push, Heap.size_push] at q; exact q)
    exact ⟨rfl, hq h' tk' (hp.objs.size + 1) dx ⟨old, Nat.le_succ _, ⟨_, hx⟩, Nat.le_trans (Nat.le_trans (Nat.le_succ _) (Nat.le_succ _)) z, dne, hns⟩⟩
end
end XE

set_option maxRecDepth 100000
set_option maxHeartbeats 4000000
namespace L2
open PySem PySem.Spec PyProof.Rows
/-- C(e), C such a class: a new exception at a, its own dict at d -/
def tErr (C : Addr) (f : Str) (ta : TA) : TE := fun σ H Q => ta σ H fun vs H1 => ∃ v, vs = [v] ∧ ∀ a d, H1 a = none → H1 d = none → d ≠ a → Q (.ref a) (upd (upd H1 d (exd d [(f, v)])) a (exo a C (some d)))
theorem pe_err {X : Cx} {C fI : Addr} {f : XE.Fl} {bmB : List Value} {newId : String} {k : Nat} {x : Str} {a : Expr} {ta : TA} {p pos : Pos} (T : XE.Err X.K C fI f bmB newId) (hr : Room k X.A) (mx : X.mg x = some (.ref C)) (ha : PA X [a] ta) (gx : Gl X x := by rfl)
    (he : starEach (a :: []) X.env = (false, eval a X.env) :: starEach [] X.env := by rfl) (hpl : (backTo pos (starEach [] X.env)).any (·.1) = false := by rfl) (nodb : (x == ("__debug__" : Str)) = false := by decide) :
    PE X (.Call (.Name x p) [a] [] pos) (tErr C f.s ta) := by
  refine ⟨fun pins s σ H Q I h => ?_⟩
  refine wpAny_Call_Name_kw (ld_glob I gx mx ?_ nodb)
  refine PySem.W.callWith_K (h₀ := X.base) I.ok.mod.kin T.kC (thn (ha.run pos pins s σ H _ I h) fun us s1 hh => ?_) he hpl
  obtain ⟨vs, H1, I1, r1, v, ev, q1⟩ := hh
  subst ev
  refine ⟨I1.kIn, ?_⟩
  cases r1 with
  | cons rv rn =>
    rename_i v' us'
    cases rn
    show wpAny _ _ (call (.ref C) [v']) _ _ _
    have hlim := I1.nolimit
    obtain ⟨hp, g, dr, tk, os⟩ := s1
    refine wpAny_call (XE.err_made T I1.kIn hlim (by have := hr.dp; omega) fun h' tk' e d M => ?_)
    obtain ⟨t, hoe⟩ := M.obj
    have hns := M.ns
    obtain ⟨G', g1, g2⟩ := restrict h' fun b => decide (b ≠ e)
    have gk : ∀ b, b ≠ e → G'.get? b = h'.get? b := fun b hb => g1 b (decide_eq_true hb)
    have ge : G'.get? e = none := g2 e (by simp)
    have old : ∀ b o, hp.get? b = some o → G'.get? b = some o := fun b o q => (gk b (Nat.ne_of_lt (Nat.lt_of_lt_of_le (Heap.lt_size q) M.new))).trans (M.keep b o q)
    have back : ∀ b o, G'.get? b = some o → h'.get? b = some o := fun b o q => by
      by_cases hb : b = e
      · rw [hb, ge] at q
        cases q
      · exact (gk b hb).symm.trans q
    have nsG : G'.Ns1 d (fun y => if y = f.s then some v' else none) := hns.at (fun o q => (gk d M.dne).trans q)
    have J : Inv X pins σ (upd H1 d (exd d [(f.s, v)])) ⟨G', g, dr, tk', os⟩ := I1.laid (t' := tk') old M.dbig (exd_ok nsG (relO_put (fs := []) rv fun g => True.intro))
    have fe : H1 e = none := I1.hok.fresh M.new
    have fd : H1 d = none := I1.hok.fresh M.dbig
    have fe2 : (upd H1 d (exd d [(f.s, v)])) e = none := by
      rw [upd_ne M.dne.symm]
      exact fe
    have J2 : Inv X pins σ (upd (upd H1 d (exd d [(f.s, v)])) e (exo e C (some d))) ⟨h', g, dr, tk', os⟩ := J.laidN (t' := tk') back ge fe2 (exo_ok hoe)
    exact ⟨.ref e, _, J2, rfl, q1 e d fe fd M.dne⟩
/-- e.n, e such an exception -/
def tErrF (K : PySem.W.Frag) (n : Str) (te : TE) : TE := fun σ H Q => te σ H fun x H1 => ∃ (a C d fI : Addr) (f : XE.Fl) (bmB : List Value) (newId : String) (v : V), x = .ref a ∧ f.s = n ∧ XE.Err K C fI f bmB newId ∧ H1 a = some (exo a C (some d)) ∧ H1 d = some (exd d [(n, v)]) ∧ Q v H1
theorem pe_errF {X : Cx} {e : Expr} {te : TE} {pos : Pos} {n : Str} (he : PE X e te) (hb : attributeBase e n X.env (eval e X.env) = eval e X.env := by rfl) : PE X (.Attribute e n pos) (tErrF X.K n te) := by
  refine ⟨fun pins s σ H Q I h => ?_⟩
  refine attr_of hb (thn (he.run pins s σ H _ I h) fun u s1 ⟨x, H1, I1, rx, a, C, d, fI, f, bmB, newId, v, ex, en, T, ea, ed, q⟩ => ?_)
  subst ex
  subst en
  obtain rfl : u = Value.ref a := rx
  obtain ⟨t1, ho⟩ := exo_at I1.hok ea
  obtain ⟨mA, hns, hr⟩ := exd_at I1.hok ed
  obtain ⟨od, hod, hl⟩ := lookIn_ns hns
  have e1 : List.lookup f.s [(f.s, v)] = some v := by simp [List.lookup]
  obtain ⟨u, hu, ru⟩ := RelO.some_of (v := v) (o := mA f.s) (by rw [← e1]; exact hr f.s)
  have J : PySem.W.InstAt s1.heap a _ C (some od) := ⟨ho, rfl, rfl, hod⟩
  refine HandSPX.exc_get I1.kIn J T.ga T.gg T.exC (PySem.W.findObj_own T.hd T.noF rfl (by rw [hl, hu])) (handed_of ru) ⟨v, H1, I1.tok _, ru, q⟩
/-- isinstance(e, c), e such an exception -/
def rErrIs (K : PySem.W.Frag) : List V → Hp → VK → Prop := fun xs H Q => ∃ (a C fI : Addr) (d : Option Addr) (f : XE.Fl) (bmB : List Value) (newId : String) (c : V) (cv : Value) (b : Bool), xs = [.ref a, c] ∧ ClsV c cv ∧ XE.Err K C fI f bmB newId ∧ H a = some (exo a C d) ∧
  (∀ d', d = some d' → ∃ fs, H d' = some (exd d' fs)) ∧ PySem.W.kitOne K (.ref C) cv = some b ∧ Q (.bl b) H
theorem call_errIs {X : Cx} : CallR X (.builtin "isinstance") (rErrIs X.K) := by
  intro pins s σ H xs us Q I r h
  obtain ⟨a, C, fI, d, f, bmB, newId, c, cv, b, rfl, k, T, ea, ed, e, q⟩ := h
  obtain ⟨u1, u2, rfl, r1, r2⟩ := vals2 r
  have e2 := k.eq r2
  subst e2
  obtain rfl : u1 = Value.ref a := r1
  obtain ⟨t1, ho⟩ := exo_at I.hok ea
  have hcl : (PySem.W.clsIn X.K C).isSome = true := by
    obtain ⟨cd, hc, _⟩ := PySem.W.any_some T.hd
    rw [hc]
    rfl
  have J : ∃ od ox, PySem.W.InstAt s.heap a ox C od := by
    cases d with
    | none => exact ⟨none, _, ho, rfl, rfl, trivial⟩
    | some d' =>
      obtain ⟨fs, ef⟩ := ed d' rfl
      obtain ⟨mA, hns, _⟩ := exd_at I.hok ef
      obtain ⟨od, hod, _⟩ := lookIn_ns hns
      exact ⟨some od, _, ho, rfl, rfl, hod⟩
  obtain ⟨od, ox, J⟩ := J
  exact PySem.W.kia_one (PySem.W.kitx_exc hcl T.ga T.gg T.exC T.cl T.sp T.tc T.mo) I.kIn J e (fun z => nomatch z) fun tk => ⟨.bl b, H, I.tok tk, rfl, q⟩
end L2

set_option maxRecDepth 100000
set_option maxHeartbeats 4000000
/-! an exception that is caught, put into another name, and looked at behind the suite -/
namespace L2
open PySem PySem.Spec PyProof.Rows
/-- an exception's object of class cls, dict d, whatever its flight left in it -/
def exk (a : Addr) (cls : Value) (d : Option Addr) : HO := .ext fun h => ∃ (oe : Obj) (vs : Array Value), h.get? a = some oe ∧ Zc cls d oe ∧ oe.data = .fields vs
theorem exk_ok {P : Program} {w : World} {H : Hp} {h : Heap} {a : Addr} {cls : Value} {d : Option Addr} {oe : Obj} {vs : Array Value} (e : h.get? a = some oe) (z : Zc cls d oe) (f : oe.data = .fields vs) : ObjOk P w H h a (exk a cls d) :=
  ⟨⟨oe, vs, e, z, f⟩, ⟨oe, e⟩, fun h1 h2 q k => by
    obtain ⟨o1, v1, e1, z1, f1⟩ := q
    exact ⟨o1, v1, k _ e1, z1, f1⟩⟩
theorem exk_at {P : Program} {w : World} {H : Hp} {h : Heap} {a b : Addr} {cls : Value} {d : Option Addr} (hok : HOk P w H h) (he : H a = some (exk b cls d)) (hb : b = a) : ∃ (oe : Obj) (vs : Array Value), h.get? a = some oe ∧ Zc cls d oe ∧ oe.data = .fields vs := by
  subst hb
  have x : ObjOk P w H h b (exk b cls d) := hok b _ he
  exact x.1
section
variable {X : Cx} {pins : List (Addr × Obj)} {σ : St} {H : Hp} {sI s s' : Shared} {B : Heap}
/-- the state with a caught exception in it, which is ours from now on -/
theorem Inv.caught {a : Addr} {cls : Value} {d : Option Addr} (I : Inv X pins σ H sI) (nb : ∀ b o, sI.heap.get? b = some o → b ∉ frs X.stack → B.get? b = some o) (up : sI.heap.UpToSlots s'.heap) (os : s'.os = sI.os) (ag : AllBare s'.gens)
    (fl : HandSPX.FlyingZ B X.stack a (Zc cls d) s'.heap) (na : H a = none) : Inv X pins σ (upd H a (exk a cls d)) s' := by
  have J := I.landed nb fl.1 up os ag
  obtain ⟨oe, vs, he, hz, hd⟩ := fl.there
  have out : a ∉ frs X.stack := fun hm => by
    obtain ⟨_, o, e, hn⟩ := fl.2.2.1.mem hm
    rw [he] at e
    cases e
    exact hn _ hd
  have fresh : sI.heap.get? a = none := by
    cases e : sI.heap.get? a with
    | none => rfl
    | some o =>
      have z := nb a o e out
      rw [fl.2.1] at z
      cases z
  have ne : ∀ b o, sI.heap.get? b = some o → b ≠ a := fun b o e z => by
    rw [z, fresh] at e
    cases e
  have moved : ∀ b ∈ frs X.stack, ∀ o, sI.heap.get? b = some o → ∃ sl, s'.heap.get? b = some { o with slots := sl } := fun b hb o e => by
    obtain ⟨_, o2, e2, hn⟩ := I.stack.mem hb
    rw [e] at e2
    cases e2
    exact up b o e hn
  refine I.call' (ch := []) os ⟨fun b o e _ hb _ => fl.1 b o (nb b o e hb), fun b o e _ hb _ => moved b hb o e, fun b o e n _ => ?_, fun b o e _ => ?_, fun b xs e => ?_, fun b o u e => ?_, fun b ps e => ?_⟩
    (J.hok.laidN (fun _ _ e => e) na (exk_ok he hz hd)) ag (fun _ z => nomatch z)
  · rw [upd_ne (ne b o e)]
    exact n
  · by_cases hb : b ∈ frs X.stack
    · obtain ⟨sl, q⟩ := moved b hb o e
      exact ⟨_, q⟩
    · exact ⟨o, fl.1 b o (nb b o e hb)⟩
  · rw [upd_ne (ne_of_none e na)]
    exact e
  · rw [upd_ne (ne_of_none e na)]
    exact e
  · exact ⟨#[], by rw [upd_ne (ne_of_none e na), e]; simp⟩
theorem Inv.intoSuite (I : Inv X pins σ H s) (a : Addr) : Inv (X.suite a (X.pn ++ pins)) [] σ H s :=
  ⟨I.ok.suite _ _, I.os, I.bare, I.base, I.loc, I.cell, I.free, I.freeC, fun p hp => I.pin p (by rw [List.append_nil] at hp; exact hp), I.hok, I.len⟩
theorem Inv.outOfSuite {a : Addr} (I : Inv (X.suite a (X.pn ++ pins)) [] σ H s) (ok : X.Ok) : Inv X pins σ H s :=
  ⟨ok, I.os, I.bare, I.base, I.loc, I.cell, I.free, I.freeC, fun p hp => I.pin p (by rw [List.append_nil]; exact hp), I.hok, I.len⟩
end
/-- the clause's wish: class and dict decide; the object is ours, at the name's slot, which is empty behind the suite -/
def wKeep (K : PySem.W.Frag) (c : Value) (i : Nat) (ts : TS) (Wout : WX) (D : Ends) : WX := fun cls d σ H =>
  ∃ b, PySem.W.exmOne K cls c = some b ∧ (b = false → Wout cls d σ H) ∧
    (b = true → ∀ a, H a = none → ts { nx := fun σ' H' => D.nx (σ'.set i none) H', rt := D.rt, bk := fun σ' H' => D.bk (σ'.set i none) H', ct := fun σ' H' => D.ct (σ'.set i none) H' } (σ.set i (some (.ref a))) (upd H a (exk a cls d)))
section
variable {X : Cx} {x n : Str} {c : Value} {i : Nat} {body suite : List Stmt} {b₀ : Stmt} {np pos pos' : Pos} {tb : WX → TS} {ts : TS} {Wout : WX}
/-- behind the suite: the clause's name goes, the rest stays -/
theorem keep_end {pins : List (Addr × Obj)} {D : Ends} {a : Addr} {fl : Flow} {s : Shared} (ok : X.Ok) (hN : X.N.Nodup) (hi : X.N[i]? = some n) (hln : X.env.kindOf n = some .local)
    (q : SP (X.suite a (X.pn ++ pins)) [] { nx := fun σ' H' => D.nx (σ'.set i none) H', rt := D.rt, bk := fun σ' H' => D.bk (σ'.set i none) H', ct := fun σ' H' => D.ct (σ'.set i none) H' } fl s) :
    wpAny (model X.prog X.w) X.A (do bindName X.env n .none; unbindBehindTheSuite X.env n pos') (fun _ t => SP X pins D fl t) X.xe s := by
  cases fl with
  | ret u =>
    obtain ⟨v, σ1, H1, I1, r, z⟩ := q
    exact gone_ok (I1.outOfSuite ok) hN hi hln fun t J => ⟨v, _, H1, J, r, z⟩
  | next =>
    obtain ⟨σ1, H1, I1, z⟩ := q
    exact gone_ok (I1.outOfSuite ok) hN hi hln fun t J => ⟨_, H1, J, z⟩
  | brk =>
    obtain ⟨σ1, H1, I1, z⟩ := q
    exact gone_ok (I1.outOfSuite ok) hN hi hln fun t J => ⟨_, H1, J, z⟩
  | cont =>
    obtain ⟨σ1, H1, I1, z⟩ := q
    exact gone_ok (I1.outOfSuite ok) hN hi hln fun t J => ⟨_, H1, J, z⟩
/-- what is raised in the body meets the clause -/
theorem keep_catch {pins pn : List (Addr × Obj)} {xe : Value → Shared → Prop} {D : Ends} {u : Value} {s : Shared} (ok : X.Ok) (hpn : pn = X.pn ++ pins) (hs : X.stack = X.env :: X.outer) (hf : X.env.frame = some X.env.locals) (hN : X.N.Nodup) (hi : X.N[i]? = some n)
    (hln : X.env.kindOf n = some .local) (hc : Names X x c) (tk : Takes X Wout) (hsu : ∀ (a : Addr) (pn : List (Addr × Obj)), PSs (X.suite a pn) (b₀ :: suite) ts) (air : XE (X.tr pn xe) (wKeep X.K c i ts Wout D) u s) :
    wpAny (model X.prog X.w) X.A (noteFrame u X.env) (fun _ s2 => wpAny (model X.prog X.w) X.A (setFlight u none)
      (fun _ s3 => wpAny (model X.prog X.w) X.A (handleBy u X.env [.ExceptHandler (some (.Name x np)) (some n) (b₀ :: suite) pos']) (SP X pins D) X.xe s3) X.xe s2) X.xe s := by
  subst hpn
  obtain ⟨a, B, sI, pins1, σ1, H1, cls, d, rfl, J0, nb, up, sky, na, os, ag, b, hb1, no, yes⟩ := air
  have J : Inv X pins σ1 H1 sI := J0.ofTry ok
  have frames : X.A.frames = some (X.env :: X.outer) := ok.frames.trans (congrArg some hs)
  have sky1 : Sky B (X.env :: X.outer) a (Zc cls d) X.env.locals s.heap := hs ▸ sky
  refine Sky.land Zc.steady frames hf sky1 fun h3 fl3 up3 => ?_
  have fl3' : HandSPX.FlyingZ B X.stack a (Zc cls d) h3 := hs ▸ fl3
  have J3 : Inv X pins σ1 (upd H1 a (exk a cls d)) { s with heap := h3 } := J.caught (s' := { s with heap := h3 }) nb (up.trans up3) os ag fl3' na
  obtain ⟨oe, vs, he, hz, hd⟩ := fl3.there
  have cl : PySem.W.Looks (model X.prog X.w) h3 (typeOf (.ref a)) cls := fun A Q E t k q => wpAny_typeOf_ref (k _ _ he) (by rw [hz.1]; exact q)
  have mt := PySem.W.exm_one (M := model X.prog X.w) J3.kIn cl hb1
  have S3 := J3.intoSuite a
  refine wpAny_handleBy_cons (codeAny_handlers_test ?_) (by intro q; cases q)
  have name : ∀ {Q : Value → Shared → Prop} {E : Value → Shared → Prop}, Q c { s with heap := h3 } → wpAny (model X.prog X.w) (X.A.mark (some (.ref a))) (eval (.Name x np) X.env) Q E { s with heap := h3 } := fun {Q E} q => by
    rcases hc with ⟨hg, hdb, hm | ⟨hm, hv, hnn⟩⟩
    · exact ld_glob (X := X.suite a (X.pn ++ pins)) S3 hg hm q hdb
    · exact ld_blt (X := X.suite a (X.pn ++ pins)) S3 hg hm hv q hnn hdb
  refine name (mt.here ?_)
  cases b with
  | false =>
    show wpAny _ X.A (handleBy (.ref a) X.env []) _ _ _
    refine wpAny_handleBy_nil ?_
    obtain ⟨_, _, _, oe2, vs2, T, oT, ts2, he2, _, hd2, h12, _⟩ := id fl3
    have up_again : wpAny (model X.prog X.w) X.A (setFlight (.ref a) X.env.frame) (fun _ s4 => wpAny (model X.prog X.w) X.A (throw (.ref a) : Sem Flow) (SP X pins D) X.xe s4) X.xe { s with heap := h3 } := by
      rw [hf]
      exact HandSPX.setFlight_upZ fl3 fun h4 held up4 => wpAny_throw (tk _ _ ⟨a, B, sI, pins, σ1, H1, cls, d, rfl, J, nb, (up.trans up3).trans up4, .inr (.inr (hs.symm ▸ held)), na, os, ag, no rfl⟩)
    unfold PySem.passOn
    refine wpAny_bind (wpAny_field he2 hd2 h12 ?_)
    rw [if_neg (show ¬ ((Value.ref T == Value.none) = true) from by simp)]
    first
      | exact wpAny_bind (wpAny_pure (wpAny_bind up_again))
      | exact wpAny_bind up_again
  | true =>
    refine codeAny_handlers_suite_as (HandSPX.lands_againZ fl3 fun h4 fl4 up4 => ?_)
    have fl4' : HandSPX.FlyingZ B X.stack a (Zc cls d) h4 := hs ▸ fl4
    have J4 : Inv X pins σ1 (upd H1 a (exk a cls d)) { s with heap := h4 } := J.caught (s' := { s with heap := h4 }) nb ((up.trans up3).trans up4) os ag fl4' na
    refine store_ok (X := X.suite a (X.pn ++ pins)) (v := .ref a) (J4.intoSuite a) hN hi (.inl hln) rfl (fun s5 S5 => ?_) (.inr hln)
    exact wpAny_mono ((hsu a (X.pn ++ pins)).run [] s5 _ _ _ S5 (yes rfl a na)) (fun fl s6 z => keep_end ok hN hi hln z) (fun _ _ z => False.elim z)
theorem ps_try_keep (hs : X.stack = X.env :: X.outer) (hf : X.env.frame = some X.env.locals) (hN : X.N.Nodup) (hi : X.N[i]? = some n) (hln : X.env.kindOf n = some .local) (hc : Names X x c) (tk : Takes X Wout)
    (hb : ∀ (W : WX) (pn : List (Addr × Obj)) (xe : Value → Shared → Prop), Takes (X.tr pn xe) W → PassesOwn (model X.prog X.w) X.A X.env xe → PSs (X.tr pn xe) body (tb W)) (hsu : ∀ (a : Addr) (pn : List (Addr × Obj)), PSs (X.suite a pn) (b₀ :: suite) ts) :
    PS X (.Try body [.ExceptHandler (some (.Name x np)) (some n) (b₀ :: suite) pos'] [] [] pos) (fun D σ H => tb (wKeep X.K c i ts Wout D) D σ H) := by
  refine ⟨fun pins s σ H D I h => wpAny_Try_except ?_⟩
  have ok := I.ok
  refine wpAny_mono ((hb (wKeep X.K c i ts Wout D) (X.pn ++ pins) _ (fun u t air => keep_catch ok rfl hs hf hN hi hln hc tk hsu air) PassesOwn.looking).run [] s σ H D (I.toTry _) h) (fun fl t z => ?_) (fun _ _ z => z)
  cases fl with
  | ret u =>
    obtain ⟨v, σ1, H1, I1, r, q⟩ := z
    exact ⟨v, σ1, H1, I1.ofTry ok, r, q⟩
  | next =>
    obtain ⟨σ1, H1, I1, q⟩ := z
    exact wpAny_execs_nil ⟨σ1, H1, I1.ofTry ok, q⟩
  | brk =>
    obtain ⟨σ1, H1, I1, q⟩ := z
    exact ⟨σ1, H1, I1.ofTry ok, q⟩
  | cont =>
    obtain ⟨σ1, H1, I1, q⟩ := z
    exact ⟨σ1, H1, I1.ofTry ok, q⟩
end
end L2

set_option maxRecDepth 100000
set_option maxHeartbeats 4000000
namespace L2
open PySem PySem.Spec PyProof.Rows
/-- raise C(e), C such a class: its dict d holds the field -/
def tMkErr (C : Addr) (f : Str) (ta : TA) : St → Hp → XK → Prop := fun σ H Q => ta σ H fun vs H1 => ∃ v, vs = [v] ∧ ∀ d, H1 d = none → Q (.ref C) (some d) (upd H1 d (exd d [(f, v)]))
theorem pmk_err {X : Cx} {C fI : Addr} {f : XE.Fl} {bmB : List Value} {newId : String} {k : Nat} {x : Str} {a : Expr} {ta : TA} {p pos : Pos} (T : XE.Err X.K C fI f bmB newId) (tyC : PySem.W.typeIn X.K (.ref C) = some (.type "type")) (hr : Room k X.A) (mx : X.mg x = some (.ref C)) (ha : PA X [a] ta) (gx : Gl X x := by rfl)
    (he : starEach (a :: []) X.env = (false, eval a X.env) :: starEach [] X.env := by rfl) (hpl : (backTo pos (starEach [] X.env)).any (·.1) = false := by rfl) (nodb : (x == ("__debug__" : Str)) = false := by decide) :
    PMk X (.Call (.Name x p) [a] [] pos) (tMkErr C f.s ta) := by
  intro pins s σ H Q I h
  refine wpAny_Call_Name_kw (ld_glob I gx mx ?_ nodb)
  refine PySem.W.callWith_K (h₀ := X.base) I.ok.mod.kin T.kC (thn (ha.run pos pins s σ H _ I h) fun us s1 hh => ?_) he hpl
  obtain ⟨vs, H1, I1, r1, v, ev, q1⟩ := hh
  subst ev
  refine ⟨I1.kIn, ?_⟩
  cases r1 with
  | cons rv rn =>
    rename_i v' us'
    cases rn
    show wpAny _ _ (call (.ref C) [v']) _ _ _
    have hlim := I1.nolimit
    obtain ⟨hp, g, dr, tk, os⟩ := s1
    refine wpAny_call (XE.err_made T I1.kIn hlim (by have := hr.dp; omega) fun h' tk' e d M => ?_)
    obtain ⟨t, hoe⟩ := M.obj
    have hns := M.ns
    obtain ⟨G', g1, g2⟩ := restrict h' fun b => decide (b ≠ e)
    have gk : ∀ b, b ≠ e → G'.get? b = h'.get? b := fun b hb => g1 b (decide_eq_true hb)
    have ge : G'.get? e = none := g2 e (by simp)
    have old : ∀ b o, hp.get? b = some o → G'.get? b = some o := fun b o q => (gk b (Nat.ne_of_lt (Nat.lt_of_lt_of_le (Heap.lt_size q) M.new))).trans (M.keep b o q)
    have back : ∀ b o, G'.get? b = some o → h'.get? b = some o := fun b o q => by
      by_cases hb : b = e
      · rw [hb, ge] at q
        cases q
      · exact (gk b hb).symm.trans q
    have nsG : G'.Ns1 d (fun y => if y = f.s then some v' else none) := hns.at (fun o q => (gk d M.dne).trans q)
    have J : Inv X pins σ (upd H1 d (exd d [(f.s, v)])) ⟨G', g, dr, tk', os⟩ := I1.laid (t' := tk') old M.dbig (exd_ok nsG (relO_put (fs := []) rv fun g => True.intro))
    have fe : H1 e = none := I1.hok.fresh M.new
    have fd : H1 d = none := I1.hok.fresh M.dbig
    have fe2 : (upd H1 d (exd d [(f.s, v)])) e = none := by
      rw [upd_ne M.dne.symm]
      exact fe
    exact ⟨e, _, _, ⟨G', g, dr, tk', os⟩, _, .ref C, some d, rfl, J, back, ge, hoe, ⟨rfl, rfl⟩, rfl, rfl, fe2, rfl, I1.bare, raises_own T.exC tyC, q1 d fd⟩
/-- the object of a kept exception, its dict's object -/
theorem exk_inst {X : Cx} {pins : List (Addr × Obj)} {σ : St} {H : Hp} {s : Shared} {a C d : Addr} {fs : List (Str × V)} (I : Inv X pins σ H s) (ea : H a = some (exk a (.ref C) (some d))) (ed : H d = some (exd d fs)) :
    ∃ (ox : Obj) (od : Obj) (mA : Str → Option Value), PySem.W.InstAt s.heap a ox C (some od) ∧ (∀ f, RelO (fs.lookup f) (mA f)) ∧ ∀ n, PySem.W.lookIn n od = some (mA n) := by
  obtain ⟨oe, vs, he, hz, hd⟩ := exk_at I.hok ea rfl
  obtain ⟨mA, hns, hr⟩ := exd_at I.hok ed
  obtain ⟨od, hod, hl⟩ := lookIn_ns hns
  refine ⟨oe, od, mA, ⟨he, hz.1, ?_, ?_⟩, hr, hl⟩
  · unfold PySem.W.notCls
    rw [hd]
  · rw [hz.2]
    exact hod
/-- e.n, e such an exception that was caught -/
def tErrK (K : PySem.W.Frag) (n : Str) (te : TE) : TE := fun σ H Q => te σ H fun x H1 => ∃ (a C d fI : Addr) (f : XE.Fl) (bmB : List Value) (newId : String) (v : V), x = .ref a ∧ f.s = n ∧ XE.Err K C fI f bmB newId ∧ H1 a = some (exk a (.ref C) (some d)) ∧ H1 d = some (exd d [(n, v)]) ∧ Q v H1
theorem pe_errK {X : Cx} {e : Expr} {te : TE} {pos : Pos} {n : Str} (he : PE X e te) (hb : attributeBase e n X.env (eval e X.env) = eval e X.env := by rfl) : PE X (.Attribute e n pos) (tErrK X.K n te) := by
  refine ⟨fun pins s σ H Q I h => ?_⟩
  refine attr_of hb (thn (he.run pins s σ H _ I h) fun u s1 ⟨x, H1, I1, rx, a, C, d, fI, f, bmB, newId, v, ex, en, T, ea, ed, q⟩ => ?_)
  subst ex
  subst en
  obtain rfl : u = Value.ref a := rx
  obtain ⟨ox, od, mA, J, hr, hl⟩ := exk_inst I1 ea ed
  have e1 : List.lookup f.s [(f.s, v)] = some v := by simp [List.lookup]
  obtain ⟨u, hu, ru⟩ := RelO.some_of (v := v) (o := mA f.s) (by rw [← e1]; exact hr f.s)
  exact HandSPX.exc_get I1.kIn J T.ga T.gg T.exC (PySem.W.findObj_own T.hd T.noF rfl (by rw [hl, hu])) (handed_of ru) ⟨v, H1, I1.tok _, ru, q⟩
/-- isinstance(e, c), e such an exception that was caught -/
def rErrKIs (K : PySem.W.Frag) : List V → Hp → VK → Prop := fun xs H Q => ∃ (a C fI d : Addr) (fs : List (Str × V)) (f : XE.Fl) (bmB : List Value) (newId : String) (c : V) (cv : Value) (b : Bool), xs = [.ref a, c] ∧ ClsV c cv ∧ XE.Err K C fI f bmB newId ∧ H a = some (exk a (.ref C) (some d)) ∧
  H d = some (exd d fs) ∧ PySem.W.kitOne K (.ref C) cv = some b ∧ Q (.bl b) H
theorem call_errKIs {X : Cx} : CallR X (.builtin "isinstance") (rErrKIs X.K) := by
  intro pins s σ H xs us Q I r h
  obtain ⟨a, C, fI, d, fs, f, bmB, newId, c, cv, b, rfl, k, T, ea, ed, e, q⟩ := h
  obtain ⟨u1, u2, rfl, r1, r2⟩ := vals2 r
  have e2 := k.eq r2
  subst e2
  obtain rfl : u1 = Value.ref a := r1
  obtain ⟨ox, od, mA, J, _, _⟩ := exk_inst I ea ed
  have hcl : (PySem.W.clsIn X.K C).isSome = true := by
    obtain ⟨cd, hc, _⟩ := PySem.W.any_some T.hd
    rw [hc]
    rfl
  exact PySem.W.kia_one (PySem.W.kitx_exc hcl T.ga T.gg T.exC T.cl T.sp T.tc T.mo) I.kIn J e (fun z => nomatch z) fun tk => ⟨.bl b, H, I.tok tk, rfl, q⟩
end L2

set_option maxRecDepth 100000
set_option maxHeartbeats 4000000
/-! sets of texts, few: made of a list, sorted -/
namespace L2
open PySem PySem.Spec PyProof.Rows
/-- the text of an entry -/
def txt (e : Int × Value) : Str := match e.2 with
  | .str k _ => k
  | _ => Str.empty
def TxtE (P : Program) (w : World) (e : Int × Value) : Prop := ∃ k t, e.2 = .str k t ∧ e.1 = (strKind P w).hash k
/-- the set's own parts: what stands in it (ks, as it stands), a table that can be walked -/
structure TxtS (P : Program) (w : World) (es : Array (Int × Value)) (t : SetTable) (ks : List Str) : Prop where
  all : ∀ e ∈ es.toList, TxtE P w e
  keys : es.toList.map txt = ks
  nd : ks.Nodup
  few : es.size < scanBound
  fits : t.fits es.size = true
  ris : Ris t.place.toList
  led : w.params.followText "set-order" = true ∨ t.led = true
def SetS (P : Program) (w : World) (h : Heap) (a : Addr) (ks : List Str) : Prop := ∃ o es ep t, h.get? a = some o ∧ o.ExactSet ∧ o.data = .set es ep t ∧ TxtS P w es t ks
section
variable {P : Program} {w : World} {A : Around} {E : Value → Shared → Prop} {s : Shared} {a : Addr} {ks : List Str} {es : Array (Int × Value)} {t : SetTable} {k : Str}
theorem TxtE.eq {e : Int × Value} (x : TxtE P w e) (k : Str) : (strKind P w).is k e.2 = true ↔ txt e = k := by
  obtain ⟨k0, u, e2, _⟩ := x
  unfold txt
  rw [e2]
  exact beq_iff_eq
theorem TxtS.elems (x : TxtS P w es t ks) : ElemsOf (strKind P w) es.toList := fun e he => by
  obtain ⟨k, u, e2, e1⟩ := x.all e he
  exact ⟨⟨k, by rw [e2]; exact strKind_is P w k u, e1⟩, by rw [e2]; rfl⟩
theorem TxtS.size (x : TxtS P w es t ks) : es.size = ks.length := by
  have e := congrArg List.length x.keys
  rw [List.length_map, Array.length_toList] at e
  exact e
/-- where the scan ends -/
theorem TxtS.met (x : TxtS P w es t ks) (k : Str) : (k ∈ ks ∧ ∃ j, es.toList.findIdx? (fun e => (strKind P w).is k e.2) = some j) ∨ (k ∉ ks ∧ es.toList.findIdx? (fun e => (strKind P w).is k e.2) = none) := by
  cases q : es.toList.findIdx? (fun e => (strKind P w).is k e.2) with
  | some j =>
    refine .inl ⟨?_, j, rfl⟩
    obtain ⟨hj, p, _⟩ := List.findIdx?_eq_some_iff_getElem.mp q
    have m := List.getElem_mem hj
    rw [← x.keys]
    exact List.mem_map.mpr ⟨_, m, ((x.all _ m).eq k).mp p⟩
  | none =>
    refine .inr ⟨fun m => ?_, rfl⟩
    rw [← x.keys] at m
    obtain ⟨e, he, ek⟩ := List.mem_map.mp m
    have z := List.findIdx?_eq_none_iff.mp q e he
    rw [((x.all e he).eq k).mpr ek] at z
    cases z
/-- the parts laid in another turn -/
theorem TxtS.turn {es' : Array (Int × Value)} {t' : SetTable} (x : TxtS P w es t ks) (pm : es'.toList.Perm es.toList) (f : t'.fits es'.size = true) (r : Ris t'.place.toList) (l : t'.led = t.led) : ∃ ks', TxtS P w es' t' ks' ∧ ks'.Perm ks := by
  have pk : (es'.toList.map txt).Perm ks := by
    rw [← x.keys]
    exact pm.map txt
  have z : es'.size = es.size := by
    have := pm.length_eq
    rw [Array.length_toList, Array.length_toList] at this
    exact this
  exact ⟨_, ⟨fun e he => x.all e (pm.mem_iff.mp he), rfl, pk.nodup_iff.mpr x.nd, by rw [z]; exact x.few, f, r, x.led.imp id fun q => l.trans q⟩, pk⟩
/-- stored; where the table is too full, laid anew -/
theorem setS_store {gw : Bool → Sem Unit} (hg : ∀ (b : Bool) (s₁ : Shared) (Q : Unit → Shared → Prop), Q () s₁ → wpAny (model P w) A (gw b) Q E s₁) {o : Obj} {es0 es1 : Array (Int × Value)} {ep : Nat} {t0 t1 : SetTable} {dm : Bool} {R : Option Bool → Shared → Prop} (ho : s.heap.get? a = some o) (hx : o.ExactSet) (hd : o.data = .set es0 ep t0) (x : TxtS P w es1 t1 ks)
    (hR : ∀ h' ks', Heap.SameBut a s.heap h' → SetS P w h' a ks' → ks'.Perm ks → R (some true) { s with heap := h' }) :
    wpAny (model P w) A (do
      storeSet a es1 t1
      if (!dm && t1.tooFull) = true then do
          gw (relayAll t1 es1 (SetTable.grown es1.size)).2.2
          storeSet a (relayAll t1 es1 (SetTable.grown es1.size)).1 (relayAll t1 es1 (SetTable.grown es1.size)).2.1
          pure (some true)
        else pure (some true)) R E s := by
  refine wpAny_bind (wpAny_storeSet_of ho hd ?_ (fits_of_scanBound x.few))
  have ho1 := store_at (es' := es1) (t' := t1) ho hd
  have same1 := Heap.SameBut.update s.heap a (Obj.putSet es1 t1)
  by_cases c : (!dm && t1.tooFull) = true
  · rw [if_pos c]
    obtain ⟨ks2, x2, p2⟩ := x.turn (relayAll_perm t1 es1 (SetTable.grown es1.size)) (relayAll_fits t1 es1 _) (relayAll_ris t1 es1 _) (relayAll_led t1 es1 _)
    refine wpAny_bind (hg _ _ _ ?_)
    refine wpAny_bind (wpAny_storeSet_of ho1 rfl ?_ (fits_of_scanBound x2.few))
    exact wpAny_pure (hR _ ks2 (same1.trans (Heap.SameBut.update _ a _)) ⟨_, _, _, _, store_at ho1 rfl, hx, rfl, x2⟩ p2)
  · rw [if_neg c]
    exact wpAny_pure (hR _ ks same1 ⟨_, _, _, _, ho1, hx, rfl, x⟩ (List.Perm.refl _))
theorem setS_add {tk : Tok} {Q : Bool → Shared → Prop} (S : SetS P w s.heap a ks) (room : ks.length + 1 < scanBound)
    (hQ : ∀ h' b ks', Heap.SameBut a s.heap h' → SetS P w h' a ks' → (k ∈ ks → ks' = ks) → (k ∉ ks → ks'.Perm (k :: ks)) → Q b { s with heap := h' }) :
    wpAny (model P w) A (setAddHashed a (.str k tk) ((strKind P w).hash k)) Q E s := by
  obtain ⟨o, es, ep, t, ho, hx, hd, x⟩ := S
  have sc : (Value.str k tk).scannable = true := rfl
  unfold setAddHashed setAddHashedIn
  refine wpAny_holding (wpAny_bind (wpAny_setState_of ho hd x.fits ?_))
  dsimp only
  rw [byScan_of sc x.few x.elems]
  simp only [↓reduceIte]
  unfold setAddByScan
  refine wpAny_bind (wpAny_bind (wpAny_rule (wpAny_bind (wpAny_setScan_of (strKind_is P w k tk) ho hd x.fits x.elems ?_))))
  rcases x.met k with ⟨hk, j, e⟩ | ⟨hk, e⟩
  · rw [e]
    dsimp only
    exact wpAny_pure (wpAny_pure (hQ s.heap false ks (Heap.SameBut.refl a s.heap) ⟨o, es, ep, t, ho, hx, hd, x⟩ (fun _ => rfl) (fun z => absurd hk z)))
  · rw [e]
    dsimp only
    have pm := layNew_perm t es ((strKind P w).hash k) (.str k tk)
    have f1 := layNew_fits t es ((strKind P w).hash k) (.str k tk)
    have r1 := layNew_ris t es ((strKind P w).hash k) (.str k tk) x.ris
    have l1 := layNew_led t es ((strKind P w).hash k) (.str k tk)
    generalize layNew t es ((strKind P w).hash k) (.str k tk) = Z at pm f1 r1 l1 ⊢
    obtain ⟨es1, t1, dm, gave⟩ := Z
    dsimp only at pm f1 r1 l1 ⊢
    rw [Array.toList_push] at pm
    have pc : es1.toList.Perm (((strKind P w).hash k, Value.str k tk) :: es.toList) := pm.trans (List.perm_append_singleton _ _)
    have pk : (es1.toList.map txt).Perm (k :: ks) := by
      rw [← x.keys]
      exact pc.map txt
    have sz : es1.size = ks.length + 1 := by
      have := pk.length_eq
      rw [List.length_map, Array.length_toList, List.length_cons] at this
      exact this
    have x1 : ∀ pl : SetTable, pl.fits es1.size = true → Ris pl.place.toList → pl.led = t1.led → TxtS P w es1 pl (es1.toList.map txt) := fun pl f r l =>
      ⟨fun e he => by
        rcases List.mem_cons.mp (pc.mem_iff.mp he) with q | q
        · exact ⟨k, tk, by rw [q], by rw [q]⟩
        · exact x.all e q, rfl, pk.nodup_iff.mpr (List.nodup_cons.mpr ⟨hk, x.nd⟩), by rw [sz]; exact room, f, r, x.led.imp id fun q => by rw [l, l1]; exact q⟩
    have fin : ∀ h' ks', Heap.SameBut a s.heap h' → SetS P w h' a ks' → ks'.Perm (es1.toList.map txt) → Q true { s with heap := h' } := fun h' ks' sb S' p =>
      hQ h' true ks' sb S' (fun z => absurd z hk) (fun _ => p.trans pk)
    have hg : ∀ (b : Bool) (s₁ : Shared) (Q1 : Unit → Shared → Prop), Q1 () s₁ → wpAny (model P w) A (match b with | true => rule "set.scan.the-table-gave-way" | false => pure ()) Q1 E s₁ := fun b s₁ Q1 q => by
      cases b
      · exact wpAny_pure q
      · exact wpAny_rule q
    refine wpAny_bind (hg _ _ _ ?_)
    by_cases c : t1.plain = true
    · rw [if_pos c, hashByValue_scannable 8 sc]
      refine wpAny_bind (wpAny_pure ?_)
      refine setS_store hg ho hx hd (x1 _ ?_ ?_ ?_) fun h' ks' sb S' p => wpAny_pure (fin h' ks' sb S' p)
      · split
        · exact f1
        · exact SetTable.fits_plain_off f1
      · split <;> exact r1
      · split <;> rfl
    · rw [if_neg c]
      refine wpAny_bind (wpAny_pure ?_)
      refine setS_store hg ho hx hd (x1 _ ?_ ?_ ?_) fun h' ks' sb S' p => wpAny_pure (fin h' ks' sb S' p)
      · exact f1
      · exact r1
      · rfl
end
end L2

set_option maxRecDepth 100000
set_option maxHeartbeats 8000000
namespace L2
open PySem PySem.Spec PyProof.Rows
section
variable {P : Program} {w : World} {A : Around} {E : Value → Shared → Prop} {s : Shared} {a : Addr} {ks : List Str}
theorem SetS.at {h h' : Heap} (S : SetS P w h a ks) (k : ∀ o, h.get? a = some o → h'.get? a = some o) : SetS P w h' a ks := by
  obtain ⟨o, es, ep, t, ho, r⟩ := S
  exact ⟨o, es, ep, t, k o ho, r⟩
theorem setS_fresh {h : Heap} (ho : h.get? a = some { cls := .type "set", dict := none, data := .set #[] 0 (.fresh 0 0 (!w.params.followText "set-order")) }) : SetS P w h a [] := by
  refine ⟨_, #[], 0, _, ho, ⟨rfl, rfl, rfl⟩, rfl, fun e he => by simp at he, rfl, List.nodup_nil, by decide, rfl, List.Pairwise.nil, ?_⟩
  show _ ∨ (!w.params.followText "set-order") = true
  cases w.params.followText "set-order"
  · exact .inr rfl
  · exact .inl rfl
/-- of the first i of xs the unlike ones -/
structure Met (xs : List Str) (i : Nat) (ks : List Str) : Prop where
  nd : ks.Nodup
  mem : ∀ z, z ∈ ks ↔ z ∈ xs.take i
  le : ks.length ≤ i
theorem Met.next {xs : List Str} {i : Nat} {ks ks' : List Str} {k : Str} (m : Met xs i ks) (h : xs[i]? = some k) (old : k ∈ ks → ks' = ks) (new : k ∉ ks → ks'.Perm (k :: ks)) : Met xs (i + 1) ks' := by
  have e : xs.take (i + 1) = xs.take i ++ [k] := by rw [List.take_add_one, h]; rfl
  by_cases hk : k ∈ ks
  · rw [old hk]
    refine ⟨m.nd, fun z => ?_, Nat.le_succ_of_le m.le⟩
    rw [e, List.mem_append, ← m.mem z, List.mem_singleton]
    exact ⟨.inl, fun q => q.elim id fun q => q ▸ hk⟩
  · have p := new hk
    refine ⟨p.nodup_iff.mpr (List.nodup_cons.mpr ⟨hk, m.nd⟩), fun z => ?_, by rw [p.length_eq]; exact Nat.succ_le_succ m.le⟩
    rw [e, List.mem_append, ← m.mem z, List.mem_singleton, p.mem_iff, List.mem_cons]
    exact Or.comm
/-- the loop of set(xs) -/
theorem setS_loop {I : Addr} {xs : List Str} {R : Result → Shared → Prop} {fp wr : List Addr} {G : Array GenState → Array GenState → Prop} {St : Nat → Shared → Prop} {Pv : Nat → Value → Prop}
    (W : WalksS P w A.in1 I fp wr G xs.length Pv St) (out : a ∉ fp) (few : xs.length + 1 < scanBound) (val : ∀ i v, Pv i v → ∃ k t, xs[i]? = some k ∧ v = .str k t)
    (fin : ∀ s' ks, Moved (a :: wr) G s s' → SetS P w s'.heap a ks → Met xs xs.length ks → R (.ok (.ret .none)) s') (st : St 0 s) (S : SetS P w s.heap a []) : codeAny (model P w) A (.builtin "set.update.loop" ⟨[.ref a, .ref I], []⟩) R s := by
  have aw : a ∉ wr := fun h => out (W.sub _ h)
  have more : ∀ b ∈ wr, b ∈ a :: wr := fun b hb => List.mem_cons_of_mem _ hb
  have go : ∀ (m i : Nat) (s1 : Shared) (ks : List Str), xs.length - i = m → i ≤ xs.length → St i s1 → SetS P w s1.heap a ks → Met xs i ks → (∀ s' ks, Moved (a :: wr) G s1 s' → SetS P w s'.heap a ks → Met xs xs.length ks → R (.ok (.ret .none)) s') →
      codeAny (model P w) A (.builtin "set.update.loop" ⟨[.ref a, .ref I], []⟩) R s1 := by
    intro m
    induction m with
    | zero =>
      intro i s1 ks hm hi st1 S1 met fin1
      obtain rfl : i = xs.length := by omega
      refine codeAny_builtin F.entry_set_update_loop ?_
      rw [Around.under_plainId F.plain_set_update_loop _]
      refine wpAny_bind (W.done s1 _ _ st1 fun s2 mv => ?_)
      exact wpAny_pure (fin1 s2 ks (mv.mono more) (S1.at fun o e => mv.heap a o aw e) met)
    | succ m ih =>
      intro i s1 ks hm hi st1 S1 met fin1
      have lt : i < xs.length := by omega
      refine codeAny_builtin F.entry_set_update_loop ?_
      rw [Around.under_plainId F.plain_set_update_loop _]
      refine wpAny_bind (W.item i s1 _ _ lt st1 fun v s2 pv st2 mv => ?_)
      obtain ⟨k, tk, hk, rfl⟩ := val i v pv
      have S2 := S1.at (h' := s2.heap) fun o e => mv.heap a o aw e
      refine wpAny_bind (wpAny_holding ?_)
      show wpAny _ A.in1 (setAdd a (.str k tk)) _ _ s2
      unfold setAdd
      refine wpAny_holding (wpAny_bind ((strKind P w).pyHash (k := k) (strKind_is P w k tk) ?_))
      refine setS_add (s := { s2 with toks := s2.toks + 1 }) S2 (by have := met.le; omega) fun h3 b ks3 sb S3 c1 c2 => ?_
      refine wpAny_pure ⟨plainId_quiet F.plain_set_update_loop _, ih (i + 1) _ ks3 (by omega) lt (W.frame _ s2 _ _ st2 (Nat.le_succ _) fun c hc o e => (sb.2 c fun z => out (z ▸ hc)).trans e) S3 (met.next hk c1 c2) fun s4 ks4 mv4 S4 m4 => ?_⟩
      exact fin1 s4 ks4 (Moved.trans W.gtrans ((mv.mono more).then_heap (Nat.le_succ _) fun c o hc e => (sb.2 c fun z => hc (z ▸ List.mem_cons_self)).trans e) mv4) S4 m4
  exact go xs.length 0 s [] (by omega) (Nat.zero_le _) st S ⟨List.nodup_nil, fun z => by simp, Nat.zero_le _⟩ fin
/-- a set with nothing in it -/
abbrev noTxt (w : World) : Obj := { cls := .type "set", dict := none, data := .set #[] 0 (.fresh 0 0 (!w.params.followText "set-order")) }
theorem texts_at {vs : List Value} {xs : List Str} (r : StrsAre vs xs) : ∀ (i : Nat) (v : Value), vs[i]? = some v → ∃ k t, xs[i]? = some k ∧ v = .str k t := by
  induction r with
  | nil => intro i v h; simp at h
  | cons k t r ih =>
    intro i v h
    cases i with
    | zero => exact ⟨k, t, rfl, (Option.some.inj h).symm⟩
    | succ i => exact ih i v h
/-- set's own __init__ over a list of texts -/
theorem setS_init {l a : Addr} {items : Array Value} {xs : List Str} {R : Value → Shared → Prop} (calm : A.handled = none) (hl : s.heap.IsList l items) (r : StrsAre items.toList xs) (few : xs.length + 1 < scanBound) (ha : s.heap.get? a = some (noTxt w)) (la : l < a) (top : a + 1 = s.heap.objs.size)
    (q : ∀ h' tk ks, SetS P w h' a ks → Met xs xs.length ks → (∀ b o, b ≠ a → s.heap.get? b = some o → h'.get? b = some o) → R .none { s with heap := h', toks := tk }) :
    codeAny (model P w) A (.call (.builtin "set.__init__") ⟨[.ref a, .ref l], []⟩) (wants R E) s := by
  have ty : Shared.TypeIs s (.ref a) "set" := ⟨_, ha, rfl⟩
  refine codeAny_call_builtin (R := wants R E) F.called_set.init.plain F.entry_set_init (check_set_init_1 ty ?_)
  obtain ⟨ol, hol, hcl, nl, hdl⟩ := id hl
  obtain ⟨ocls, odict, odata, oslots⟩ := ol
  simp only at hcl hdl
  subst hcl hdl
  have no1 := F.sub_list_set
  have no2 := F.sub_list_frozenset
  have no3 : (Value.type "list" == Value.type "dict") = false := by decide
  unfold Builtin.«set.__init__» noKeywords Builtin.Frozenset.updateFrom
  generalize hPI : pyIter = PI
  wp_walk
  subst hPI
  refine wpAny_pyIter_list hl (wpAny_bind (wpAny_runValue ?_))
  have calm3 : A.in1.in1.handled = none := by simp [calm]
  have as : a < s.heap.objs.size := Nat.lt_of_lt_of_eq (Nat.lt_succ_self a) top
  have nl : l ≠ s.heap.objs.size := Nat.ne_of_lt (Nat.lt_trans la as)
  have na : a ∉ [s.heap.objs.size, l] := by
    simp only [List.mem_cons, List.not_mem_nil, or_false, not_or]
    exact ⟨Nat.ne_of_lt as, Nat.ne_of_gt la⟩
  have sz : items.size = xs.length := by rw [← StrsAre.len_eq r, Array.length_toList]
  have W := (Walks.list (prog := P) (w := w) calm3 s.heap.objs.size l nl items).toS
  rw [sz] at W
  refine setS_loop W na few (fun i v h => texts_at r i v (by rw [Array.getElem?_toList]; exact h)) (fun s2 ks mv S m => ?_) ⟨⟨_, Heap.get?_push_size _ rfl, rfl, rfl⟩, hl.push _⟩ (setS_fresh (Heap.get?_push_of_some _ ha))
  obtain ⟨h2, g2, d2, t2, o2⟩ := s2
  obtain rfl : g2 = s.gens := mv.gens
  obtain rfl : d2 = s.drawn := mv.drawn
  obtain rfl : o2 = s.os := mv.os
  refine wpAny_pure ?_
  show wpAny _ _ (ret Value.none) _ _ _
  exact wpAny_pure (q h2 t2 ks S m fun b o hb e => mv.heap b o (by
    simp only [List.mem_cons, List.not_mem_nil, or_false, not_or]
    exact ⟨hb, Nat.ne_of_lt (Heap.lt_size e)⟩) (Heap.get?_push_of_some _ e))
set_option maxHeartbeats 3200000 in
/-- set(xs), xs a list of texts -/
theorem setS_call {l : Addr} {items : Array Value} {xs : List Str} {Q : Value → Shared → Prop} (calm : A.handled = none) (hl : s.heap.IsList l items) (r : StrsAre items.toList xs) (few : xs.length + 1 < scanBound)
    (q : ∀ h' tk ks, SetS P w h' s.heap.objs.size ks → Met xs xs.length ks → (∀ b o, s.heap.get? b = some o → h'.get? b = some o) → Q (.ref s.heap.objs.size) { s with heap := h', toks := tk }) :
    wpAny (model P w) A (call (.type "set") [.ref l]) Q E s := by
  have made := F.called_set.made
  have sub := F.called_set.sub
  have not1 := F.called_set.notType
  have can := F.called_set.canCreate
  have one := F.typeCall_set_1 (.ref l)
  obtain ⟨c, tl, mro⟩ := F.called_set.mro
  refine wpAny_call (codeAny_of_tree ?_)
  refine wpAny_pure ⟨Code.quiet_builtin _ (by decide +kernel), codeAny_builtin F.entry_type_call ?_⟩
  rw [Around.under_plain (weight_type_call_type "set" [.ref l] []) rfl]
  repeat (any_goals (first | assumption | wp_step))
  refine codeAny_mono (code_set_led1 (.ref l) (E := E) (Q₁ := fun v s1 => v = .ref s.heap.objs.size ∧ s1 = { s with heap := s.heap.push (noTxt w) }) ⟨rfl, rfl⟩) fun res s1 z => ?_
  cases res with
  | error e => exact z
  | ok fl =>
    cases fl with
    | ret v =>
      obtain ⟨rfl, rfl⟩ := z
      have at_ : (s.heap.push (noTxt w)).get? s.heap.objs.size = some (noTxt w) := Heap.get?_push_size _ rfl
      have ty : Shared.TypeIs { s with heap := s.heap.push (noTxt w) } (.ref s.heap.objs.size) "set" := ⟨_, at_, rfl⟩
      have ini := F.called_set.init.lookup
      have bnd := F.called_set.init.bind (.ref s.heap.objs.size)
      repeat (any_goals (first | assumption | wp_step))
      have lt : l < s.heap.objs.size := by
        obtain ⟨_, e, _⟩ := hl
        exact Heap.lt_size e
      refine codeAny_mono (setS_init (E := E) (s := { s with heap := s.heap.push (noTxt w) }) (R := fun v s2 => v = .none ∧ ∃ h' tk ks, s2 = { s with heap := h', toks := tk } ∧ SetS P w h' s.heap.objs.size ks ∧ Met xs xs.length ks ∧ (∀ b o, s.heap.get? b = some o → h'.get? b = some o))
        (by simp [calm]) (hl.push _) r few at_ lt (Heap.size_push ..).symm fun h' tk ks S m k => ⟨rfl, h', tk, ks, rfl, S, m, fun b o e => k b o (Nat.ne_of_lt (Heap.lt_size e)) (Heap.get?_push_of_some _ e)⟩) fun res2 s2 z2 => ?_
      cases res2 with
      | error e => exact z2
      | ok fl2 =>
        cases fl2 with
        | ret v =>
          obtain ⟨rfl, h', tk, ks, rfl, S, m, k⟩ := z2
          repeat (any_goals (first | assumption | wp_step))
          exact q h' tk ks S m k
        | _ => exact z2.elim
    | _ => exact z.elim
end
end L2

set_option maxRecDepth 100000
set_option maxHeartbeats 8000000
namespace L2
open PySem PySem.Spec PyProof.Rows
section
variable {P : Program} {w : World} {A : Around} {E : Value → Shared → Prop} {s : Shared} {a : Addr} {ks : List Str}
theorem strs_of_txt : ∀ (l : List (Int × Value)), (∀ e ∈ l, TxtE P w e) → StrsAre (l.map (·.2)) (l.map txt)
  | [], _ => .nil
  | e :: l, h => by
    obtain ⟨k, u, e2, _⟩ := h e List.mem_cons_self
    have q : txt e = k := by
      unfold txt
      rw [e2]
    rw [List.map_cons, List.map_cons, q, e2]
    exact .cons k u (strs_of_txt l fun x hx => h x (List.mem_cons_of_mem _ hx))
/-- texts in another turn are texts -/
theorem strs_perm {vs us : List Value} {xs : List Str} (r : StrsAre us xs) (p : vs.Perm us) : ∃ ys, StrsAre vs ys ∧ ys.Perm xs := by
  induction p generalizing xs with
  | nil => exact ⟨xs, r, .refl _⟩
  | cons x _ ih =>
    cases r with
    | cons k t r =>
      obtain ⟨ys, h1, h2⟩ := ih r
      exact ⟨k :: ys, .cons k t h1, h2.cons k⟩
  | swap x y l =>
    cases r with
    | cons k t r =>
      cases r with
      | cons j u r => exact ⟨_, .cons j u (.cons k t r), .swap k j _⟩
  | trans _ _ ih1 ih2 =>
    obtain ⟨ys, h1, h2⟩ := ih2 r
    obtain ⟨zs, h3, h4⟩ := ih1 h1
    exact ⟨zs, h3, h4.trans h2⟩
/-- sorted(a set of texts) -/
theorem setS_sorted {Q : Value → Shared → Prop} (S : SetS P w s.heap a ks) (calm : A.handled = none) (few : ks.length < 64)
    (hQ : ∀ s' p (out : Array Value) (c : Nat) (ys : List Str), (∀ b o, s.heap.get? b = some o → s'.heap.get? b = some o) → s'.gens = s.gens → s'.os = s.os → s.heap.objs.size ≤ p →
      s'.heap.get? p = some (seqObj "list" out c) → StrsAre out.toList ys → ys.Perm ks → sortedS ys = true → Q (.ref p) s') :
    wpAny (model P w) A (call (.builtin "sorted") [.ref a]) Q E s := by
  obtain ⟨o, es, ep, t, ho, hx, hd, x⟩ := S
  refine Calls.call_function_entry kind_sorted plain_sorted entry_sorted (args_sorted1 _) ?_
  unfold Builtin.«sorted»
  refine wpAny_bind (m := checkCount "sorted" 1 1 _) (wpAny_pure ?_)
  refine wpAny_bind (collect_set (A := A.in1) calm ⟨o, ho, hx.1, hd⟩ x.fits x.few x.ris x.led fun s1 vs keep big gs os pm => ?_)
  obtain ⟨zs, rz, pz⟩ := strs_perm (strs_of_txt es.toList x.all) pm
  rw [x.keys] at pz
  have lv : vs.length = ks.length := by
    have e1 := StrsAre.len_eq rz
    rw [e1, pz.length_eq]
  have line : vs.length ≤ sizeLine := by
    rw [lv, sizeLine_eq]
    omega
  refine wpAny_bind (wpAny_newList ?_ line)
  have at_ : (s1.heap.push (seqObj "list" vs.toArray 0)).get? s1.heap.objs.size = some (seqObj "list" vs.toArray 0) := Heap.get?_push_size _ rfl
  refine wpAny_bind (wpAny_holding (wpAny_call_entry slot_list_sort ⟨_, at_, rfl⟩ entry_list_sort ?_ (args_list_sort _)))
  refine list_sort_treeKAny strKind_oneLt at_ rz.keysOf (fun v1 v2 rest e => keyKind_strs (by rw [← e]; exact rz)) line fun st hp hs => ?_
  obtain ⟨ys, r1, p1, o1⟩ := sorted_out_str rz hp hs
  obtain ⟨c, hc⟩ := sortedHeap_at (vs := vs) (out := (arrOf st).map (·.2)) at_
  refine ⟨_, rfl, wpAny_pure ⟨_, rfl, hQ _ s1.heap.objs.size _ c ys (fun b u e => ?_) gs os big hc r1 (p1.trans pz) o1⟩⟩
  have lt := Heap.lt_size (keep b u e)
  refine (sortedHeap_old (Nat.ne_of_lt lt) ?_).trans (Heap.get?_push_of_some _ (keep b u e))
  rw [Heap.size_push]
  exact Nat.lt_succ_of_lt lt
end
/-- at a the set of the texts ks -/
def SetSO (P : Program) (w : World) (a : Addr) (ks : List Str) : HO := .ext fun h => SetS P w h a ks
theorem setSO_ok {P : Program} {w : World} {H : Hp} {h : Heap} {a : Addr} {ks : List Str} (S : SetS P w h a ks) : ObjOk P w H h a (SetSO P w a ks) := by
  refine ⟨S, ?_, fun h1 h2 S1 k => S1.at k⟩
  obtain ⟨o, es, ep, t, ho, _⟩ := S
  exact ⟨o, ho⟩
section
variable {X : Cx}
/-- set(xs), xs a list of texts: the unlike ones, in whatever turn -/
def rSetOfS (K : PySem.W.Frag) (P : Program) (w : World) : List V → Hp → VK → Prop := fun vs H Q => ∃ (l : Addr) (xs : List Str), vs = [.ref l] ∧ SqL K H l (xs.map V.str) ∧ xs.length ≤ 1000 ∧
  ∀ (p : Addr) (ks : List Str), H p = none → ks.Nodup → (∀ z, z ∈ ks ↔ z ∈ xs) → ks.length ≤ xs.length → Q (.ref p) (upd H p (SetSO P w p ks))
theorem cr_setOfS (hc : X.calm = true) : CallR X (.type "set") (rSetOfS X.K X.prog X.w) := by
  intro pins s σ H vs us Q I r h
  obtain ⟨l, xs, rfl, hs, few, q⟩ := h
  obtain ⟨its, rv, hl, _⟩ := I.list hs
  rw [Vals.ref1 r]
  refine setS_call (I.ok.hd hc) hl.isList (by simpa using rv.strs) (by unfold scanBound; omega) fun h' tk ks S m k => ?_
  have new : H s.heap.objs.size = none := I.hok.fresh (Nat.le_refl _)
  exact ⟨.ref _, _, I.laid (t' := tk) k (Nat.le_refl _) (setSO_ok S), rfl, q _ ks new m.nd (fun z => by rw [m.mem z, List.take_length]) m.le⟩
/-- sorted(a set of texts) -/
def rSortedSS (P : Program) (w : World) : List V → Hp → VK → Prop := fun vs H Q => ∃ (a : Addr) (ks : List Str), vs = [.ref a] ∧ H a = some (SetSO P w a ks) ∧ ks.length < 64 ∧
  ∀ (ys : List Str) (p : Addr), ys.Perm ks → sortedS ys = true → H p = none → Q (.ref p) (upd H p (.lst (ys.map V.str)))
theorem cr_sortedSS (hc : X.calm = true) : CallR X (.builtin "sorted") (rSortedSS X.prog X.w) := by
  intro pins s σ H vs us Q I r h
  obtain ⟨a, ks, rfl, ha, few, q⟩ := h
  rw [Vals.ref1 r]
  have S : SetS X.prog X.w s.heap a ks := (I.hok a _ ha).1
  refine setS_sorted S (I.ok.hd hc) few fun s' p out c ys k g o hp at_ r1 p1 o1 => ?_
  obtain ⟨h', g', d', t', os'⟩ := s'
  obtain rfl : g' = s.gens := g
  obtain rfl : os' = s.os := o
  have new : H p = none := I.hok.fresh hp
  have len : (ys.map V.str).length ≤ sizeLine := by
    rw [List.length_map, p1.length_eq]
    exact small64 few
  have J : Inv X pins σ (upd H p (.lst (ys.map V.str))) { s with heap := h', gens := s.gens, drawn := d', toks := t' } :=
    I.call (ch := []) (Un.laid k hp new) (I.hok.laid k hp ⟨len, out.toList, c, vals_of_strs r1, at_⟩) I.bare (fun _ z => nomatch z)
  exact ⟨.ref p, _, J, rfl, q ys p p1 o1 new⟩
end
end L2

set_option maxRecDepth 100000
set_option maxHeartbeats 8000000
namespace PyProof.Rows
open PySem PySem.Spec
open PySem.AutoSeq1 in
theorem extend_tup (l : Addr) (items : Array Value) (n : Nat) (b : Addr) (items2 : Array Value) (short : ¬(!items.isEmpty && Builtin.List.listTooLong (items.size + items2.size)) = true) (z1 : items.size ≤ sizeLine) (z2 : items.size + items2.size ≤ sizeLine + 1) :
    Meets (Builtin.«list.extend» ⟨[.ref l, .ref b], []⟩) (fun _ R s => s.heap.get? l = some { cls := .type "list", dict := none, data := .seq items n, slots := #[] } ∧ IsTup s.heap b items2 ∧ R (.ok (.ret Value.none)) { s with heap := s.heap.update l (Obj.mapSeq fun x => x ++ items2), toks := s.toks }) :=
  .of_wp fun prog w A R s h => by
    obtain ⟨hp, g, d, tk, os⟩ := s
    obtain ⟨hl, ⟨o, hb, hc, n2, hd⟩, h⟩ := h
    obtain ⟨oc, od, dt, sl⟩ := o
    dsimp only at hc hd
    subst hc hd
    have i1 := idx_int
    have i2 := sub_tuple_tuple
    have i3 := sub_list_list
    have i4 := sub_tuple_list
    have i5 := sub_list_tuple
    have big : (items ++ items2).size ≤ sizeLine + 1 := by
      rw [Array.size_append]
      exact z2
    wp_walk using (wpAny_updateSeq hl rfl (hz := z1) (_hz' := big)), wpAny_loadPart' hl, wpAny_loadPart' hb
    exact ⟨_, rfl, h⟩
end PyProof.Rows
namespace L2
open PySem PySem.Spec PyProof.Rows
/-- xs.extend(t), t a tuple -/
def rExtendT (K : PySem.W.Frag) : V → List V → Hp → VK → Prop := fun x vs H Q => ∃ l b xs zs, x = .ref l ∧ vs = [.ref b] ∧ H l = some (.lst xs) ∧ SqT K H b zs ∧ xs.length + zs.length ≤ sizeLine ∧ Q .non (upd H l (.lst (xs ++ zs)))
theorem mt_extendT {X : Cx} : MtR X "list.extend" (rExtendT X.K) := by
  intro pins s σ H x vs v us Q I rx rv h
  obtain ⟨l, b, xs, zs, rfl, rfl, hl, hb, hz, q⟩ := h
  obtain rfl : v = Value.ref l := rx
  obtain ⟨u, rfl, ru⟩ := rv.one
  obtain rfl : u = Value.ref b := ru
  obtain ⟨z, its, n, r, ln, e⟩ := I.lstM hl
  obtain ⟨its2, r2, t2, _⟩ := I.tuple hb
  have l2 := r2.length
  have sz : its.toArray.size + its2.toArray.size ≤ sizeLine := by
    rw [List.size_toArray, List.size_toArray]
    omega
  have short : ¬ (!its.toArray.isEmpty && Builtin.List.listTooLong (its.toArray.size + its2.toArray.size)) = true := by
    rw [notLongL sz, Bool.and_false]
    exact Bool.false_ne_true
  refine call_meets F.slot_list_extend ⟨_, e, rfl⟩ F.entry_list_extend (F.args_list_extend_2 _ _) (extend_tup l its.toArray n b its2.toArray short (by rw [List.size_toArray]; omega) (by omega)) ⟨e, t2, ?_⟩
  refine ⟨.non, _, I.lset (its' := its ++ its2) hl e (by simp) (r.append r2) ?_, rfl, q⟩
  rw [List.length_append]
  omega
end L2

set_option maxRecDepth 100000
set_option maxHeartbeats 4000000
namespace L2
open PySem PySem.Spec PyProof.Rows
theorem swd_true {kx vx : Expr} {gs : List Comprehension} {scope : Scope} {pos py : Pos} {y : Str} {l : Nat} {env : Env} (fk : env.scope.kind = .function) (hy : env.scope.names.lookup y = some .local) (line : (py.line == pos.line) = true)
    (out : (scope.names.any fun (n, k) => n == y && (k == .local || k == .cell)) = false) : swapsWith (.DictComp kx vx gs scope pos) (some (.Name y py)) l env = pure true := by
  have k1 : env.kindOf y = some .local := hy
  have k2 : env.blockKind = .function := by
    unfold Env.blockKind
    rw [fk]
    rfl
  unfold swapsWith
  simp only [k2, k1, out, Expr.pos, line]
  rfl
/-- n = {k: v for ..} -/
theorem ps_setDc {X : Cx} {i : Nat} {y : Str} {py : Pos} {kx vx tg iter : Expr} {ifs : List Expr} {scope : Scope} {own : List (Str × Nat)} {pos spos : Pos} {wi : TI} {g : TG} {tt : TT} {tk tv : TE} (hc : X.calm = true) (hN : X.N.Nodup) (hy : X.N[i]? = some y) (hyl : X.env.scope.names.lookup y = some .local)
    (used : swapsWith (.DictComp kx vx [⟨tg, iter, ifs, 0⟩] scope pos) (some (.Name y py)) spos.line X.env = pure true) (hi : PI X tg iter wi) (ok : BlkOk X.N X.env.scope scope own)
    (hg : ∀ (s : Shared) (H : Hp) (C : Addr) (cl : List (Str × Addr)) (fp : List Addr), PG (X.blk s H scope (compEnvC scope cl C X.env) fp) tg g) (ht : ∀ (s : Shared) (H : Hp) (C : Addr) (cl : List (Str × Addr)) (fp : List Addr), PTs (X.blk s H scope (compEnvC scope cl C X.env) fp) ifs tt)
    (hk : ∀ (s : Shared) (H : Hp) (C : Addr) (cl : List (Str × Addr)) (fp : List Addr), PE (X.blk s H scope (compEnvC scope cl C X.env) fp) kx tk)
    (he : ∀ (s : Shared) (H : Hp) (C : Addr) (cl : List (Str × Addr)) (fp : List Addr), PE (X.blk s H scope (compEnvC scope cl C X.env) fp) vx tv) (hs : ∀ x, foldedSetIterable iter X.env x = pure x := by intro _; rfl) :
    PS X (.Assign [.Name y py] (.DictComp kx vx [⟨tg, iter, ifs, 0⟩] scope pos) spos) (tAsg (tDc wi g tt tk tv (own.map (·.2))) (gName i)) := by
  refine ⟨fun pins s σ H D I h => ?_⟩
  have run := dc_core (use := some (assign (.Name y py) X.env)) (Qf := fun _ s' => SP X pins D .next s') (pos := pos) (pos' := firstIterPos [⟨tg, iter, ifs, 0⟩] pos) (scope := scope) (Q := fun x H1 => gName i x σ H1 D.nx) hc hN I hi ok hg ht hk he hs h fun L C s1 m H1 I1 q ns fp => ?_
  · rw [exec_Assign_Name_used _ _ _ _ used]
    refine wpAny_bind (wpAny_standAt (wpAny_bind ?_))
    refine wpAny_bind (m := comprehension (.DictComp kx vx [⟨tg, iter, ifs, 0⟩] scope pos) scope X.env (firstIterPos [⟨tg, iter, ifs, 0⟩] pos) newDict false (eval iter X.env) (some (assign (.Name y py) X.env))) ?_
    exact (thn run fun _ s' hq => wpAny_pure (wpAny_pure hq))
  · show wpAny _ _ (assign (.Name y py) X.env (.ref L)) _ _ _
    refine wpAny_assign_Name (store_ok2 (v := V.ref L) I1 hN hy (.inl hyl) rfl (fun s2 I2 ⟨a, sb, ha⟩ => ?_) (.inr hyl))
    obtain ⟨f0, f1, f2, f3, f4, f5⟩ := fp
    have ne : C ≠ a := by
      rcases ha with z | z
      · rw [z]
        exact f1
      · exact fun e => f4 y a z e.symm
    exact ⟨m, ns.sameBut sb ne, fun h3 sb3 => ⟨_, H1, I2.turned (t' := s2.toks) (fun b o hb e => (sb3.2 b hb).trans e) f0 f1 f3 f4 f5, q⟩⟩
/-- {k: v for ..} over a walk -/
theorem dc_it {J : It} {n : Nat} {G : Hp → Prop} {Y : Nat → Hp → V → Hp → Prop} (w : Walk J n G Y) {g : TG} {tt : TT} {tk tv : TE} {vs : List Nat} {σ : St} {H1 : Hp} {D : Addr} {Qd : Hp → Prop} (Pv : Nat → Hp → Prop) (begin_ : Pv 0 (upd H1 D (.dK []))) (good : ∀ i H, i ≤ n → Pv i H → G H)
    (turn : ∀ i x H H', i < n → Pv i H → Y i H x H' → g x (wipe σ vs) H' fun σ2 H2 => wipe σ2 vs = wipe σ vs ∧ tt σ2 H2 fun b H3 =>
      if b = true then tk σ2 H3 fun y H4 => tv σ2 H4 fun z H5 => ∃ kvs k, y = kV k ∧ H5 D = some (.dK kvs) ∧ kvs.length < sizeLine ∧ Pv (i + 1) (upd H5 D (.dK (putK kvs k z))) else Pv (i + 1) H3) (done : ∀ H, Pv n H → Qd H) :
    ∃ W : Nat → Nat → Hp → Prop, (∃ m, W 0 m (upd H1 D (.dK []))) ∧ ∀ i m H, W i m H →
      (J.stop i H ∧ Qd H) ∨ (J.go i H ∧ ∃ Nx : Hp → Prop, (∀ H', Nx H' → ∃ m', m' < m ∧ W (i + 1) m' H') ∧ ∀ x H', J.yld i H x H' → g x (wipe σ vs) H' fun σ2 H2 => wipe σ2 vs = wipe σ vs ∧ tt σ2 H2 fun b H3 =>
        if b = true then tk σ2 H3 fun y H4 => tv σ2 H4 fun z H5 => ∃ kvs k, y = kV k ∧ H5 D = some (.dK kvs) ∧ kvs.length < sizeLine ∧ Nx (upd H5 D (.dK (putK kvs k z))) else Nx H3) := by
  refine ⟨fun i m H => m = n - i ∧ i ≤ n ∧ Pv i H, ⟨_, rfl, Nat.zero_le _, begin_⟩, fun i m H z => ?_⟩
  obtain ⟨rfl, hi, p⟩ := z
  rcases Nat.lt_or_ge i n with lt | ge
  · exact .inr ⟨w.goes i H lt (good i H hi p), Pv (i + 1), fun H' p' => ⟨_, by omega, rfl, lt, p'⟩, fun x H' y => turn i x H H' lt p (w.yields i H x H' lt (good i H hi p) y)⟩
  · obtain rfl : i = n := by omega
    exact .inl ⟨w.stops H (good i H hi p), done H p⟩
end L2

set_option maxRecDepth 100000
set_option maxHeartbeats 4000000
namespace L2
open PySem PySem.Spec PyProof.Rows
/-! ### ==, !=, in, not in of data without dicts, whatever the texts -/
section
variable {X : Cx}
def rEqP (K : PySem.W.Frag) : R2 := fun x y H Q => ∃ d e, Dp K H x d ∧ Dp K H y e ∧ d.plain = true ∧ e.plain = true ∧ min d.depth e.depth ≤ 60 ∧ Q (.bl (PyData.eqv d e)) H
def rNeP (K : PySem.W.Frag) : R2 := fun x y H Q => ∃ d e, Dp K H x d ∧ Dp K H y e ∧ d.plain = true ∧ e.plain = true ∧ min d.depth e.depth ≤ 60 ∧ Q (.bl (!PyData.eqv d e)) H
theorem op_eqP (hu : X.A.units + 64 < cLine) : OpR X (compareOp .Eq) (rEqP X.K) := by
  intro pins s σ H x y v u Q I rx ry h
  obtain ⟨d, e, hd, he, sd, se, hm, q⟩ := h
  obtain ⟨as, r1⟩ := Dp.reads I d x v hd rx
  obtain ⟨bs, r2⟩ := Dp.reads I e y u he ry
  exact SeqAt.eq_plain r1 r2 sd se (by omega) ⟨.bl _, H, I, rfl, q⟩
theorem op_neP (hu : X.A.units + 64 < cLine) : OpR X (compareOp .NotEq) (rNeP X.K) := by
  intro pins s σ H x y v u Q I rx ry h
  obtain ⟨d, e, hd, he, sd, se, hm, q⟩ := h
  obtain ⟨as, r1⟩ := Dp.reads I d x v hd rx
  obtain ⟨bs, r2⟩ := Dp.reads I e y u he ry
  exact SeqAt.ne_plain r1 r2 sd se (by omega) ⟨.bl _, H, I, rfl, q⟩
def rInP (K : PySem.W.Frag) (neg : Bool) : R2 := fun x y H Q => ∃ (xs : List PyData) (d : PyData), (Dp K H y (.list xs) ∨ Dp K H y (.tuple xs)) ∧ Dp K H x d ∧ PyData.plainAll xs = true ∧ d.plain = true ∧ min (PyData.depthAll xs) d.depth ≤ 60 ∧
  Q (.bl (if neg then !(xs.any fun y => PyData.eqv y d) else xs.any fun y => PyData.eqv y d)) H
theorem op_inP (hu : X.A.units + 64 < cLine) : OpR X (compareOp .In) (rInP X.K false) := by
  intro pins s σ H x y v u Q I rx ry h
  obtain ⟨xs, d, hy, hd, sx, sd, hm, q⟩ := h
  obtain ⟨as, r1⟩ := Dp.reads I d x v hd rx
  rcases hy with hy | hy
  · obtain ⟨bs, r2⟩ := Dp.reads I _ y u hy ry
    exact SeqAt.in_list_data r2 r1 sx sd (by omega) ⟨.bl _, H, I, rfl, q⟩
  · obtain ⟨bs, r2⟩ := Dp.reads I _ y u hy ry
    exact SeqAt.in_tuple_data r2 r1 sx sd (by omega) ⟨.bl _, H, I, rfl, q⟩
theorem op_notInP (hu : X.A.units + 64 < cLine) : OpR X (compareOp .NotIn) (rInP X.K true) := by
  intro pins s σ H x y v u Q I rx ry h
  obtain ⟨xs, d, hy, hd, sx, sd, hm, q⟩ := h
  obtain ⟨as, r1⟩ := Dp.reads I d x v hd rx
  rcases hy with hy | hy
  · obtain ⟨bs, r2⟩ := Dp.reads I _ y u hy ry
    exact SeqAt.notIn_list_data r2 r1 sx sd (by omega) ⟨.bl _, H, I, rfl, q⟩
  · obtain ⟨bs, r2⟩ := Dp.reads I _ y u hy ry
    exact SeqAt.notIn_tuple_data r2 r1 sx sd (by omega) ⟨.bl _, H, I, rfl, q⟩
end
end L2
namespace My
open PySem PySem.Spec PyProof.Rows L2
/-! ### lists of texts as data -/
theorem dp_strs {K : PySem.W.Frag} {H : Hp} : ∀ ys : List Str, DpAll K H (ys.map V.str) (ys.map PyData.str)
  | [] => .nil
  | _ :: r => .cons (.str _) (dp_strs r)
theorem plain_strs : ∀ ys : List Str, PyData.plainAll (ys.map PyData.str) = true
  | [] => by simp [PyData.plainAll]
  | y :: r => by
    have := plain_strs r
    simp [PyData.plainAll, PyData.plain, this]
theorem depth_strs : ∀ ys : List Str, PyData.depthAll (ys.map PyData.str) = 0
  | [] => by simp [PyData.depthAll]
  | y :: r => by
    have := depth_strs r
    simp [PyData.depthAll, PyData.depth, this]
theorem plain_strsL (ys : List Str) : PyData.plain (.list (ys.map PyData.str)) = true := by
  simp only [PyData.plain]
  exact plain_strs ys
theorem depth_strsL (ys : List Str) : PyData.depth (.list (ys.map PyData.str)) = 1 := by
  simp only [PyData.depth, depth_strs]
theorem eqvAll_strs : ∀ xs ys : List Str, PyData.eqvAll (xs.map PyData.str) (ys.map PyData.str) = decide (xs = ys)
  | [], [] => by simp [PyData.eqvAll]
  | [], _ :: _ => by simp [PyData.eqvAll]
  | _ :: _, [] => by simp [PyData.eqvAll]
  | x :: xs, y :: ys => by
    have ih := eqvAll_strs xs ys
    rw [List.map_cons, List.map_cons, PyData.eqvAll, ih, PyData.eqv]
    by_cases h : x = y
    · subst h
      simp
    · have h2 : ¬ x :: xs = y :: ys := fun e => h (List.cons.inj e).1
      rw [decide_eq_false h2]
      simp [h]
theorem eqv_strs (xs ys : List Str) : PyData.eqv (.list (xs.map PyData.str)) (.list (ys.map PyData.str)) = decide (xs = ys) := by
  rw [PyData.eqv]
  exact eqvAll_strs xs ys
theorem eqv_nil (ys : List Str) : PyData.eqv (.list (ys.map PyData.str)) (.list []) = ys.isEmpty := by
  cases ys <;> simp [PyData.eqv, PyData.eqvAll]
theorem eqV_str (x y : Str) : eqV (.str x) (.str y) = decide (x = y) := by
  show (x == y) = _
  by_cases h : x = y
  · subst h
    simp
  · simp [h]
theorem inV_strs (z : Str) (ys : List Str) : inV (.str z) (ys.map V.str) = decide (z ∈ ys) := by
  unfold inV
  induction ys with
  | nil => rfl
  | cons y r ih =>
    rw [List.map_cons, List.any_cons, ih, eqV_str]
    by_cases h : y = z
    · subst h
      simp
    · have h1 : ¬ (z = y) := fun e => h e.symm
      simp [h, h1]
end My

set_option maxRecDepth 100000
set_option maxHeartbeats 4000000
namespace My
open PySem PySem.Spec PyProof.Rows L2
def top (i : Nat) : Stmt := PySem.Challenge.pw_middlesay_k02_sayings_hold.main.body.getD i (.Pass ⟨0, 0, 0, 0⟩)
abbrev FnP (K : PySem.W.Frag) (x : Str) (st : Stmt) (f : Addr) (fd : FuncData) : Prop := FunD K x x (defArgs st) (defBody st) (defScope st) [] [] f fd
abbrev sTape : Stmt := top 11
abbrev sDraw : Stmt := top 12
/-! ### the tape -/
abbrev kC : Key := Sum.inr ("cells" : Str)
abbrev kS : Key := Sum.inr ("spot" : Str)
abbrev kL : Key := Sum.inr ("left" : Str)
def tkv (L : Addr) (s l : Int) : List (Key × V) := [(kC, .ref L), (kS, .int s), (kL, .int l)]
theorem tkv_C (L : Addr) (s l : Int) : valV (tkv L s l) kC = some (.ref L) := rfl
theorem tkv_S (L : Addr) (s l : Int) : valV (tkv L s l) kS = some (.int s) := rfl
theorem tkv_L (L : Addr) (s l : Int) : valV (tkv L s l) kL = some (.int l) := rfl
theorem tkv_putS (L : Addr) (s l v : Int) : putK (tkv L s l) kS (.int v) = tkv L v l := rfl
theorem tkv_putL (L : Addr) (s l v : Int) : putK (tkv L s l) kL (.int v) = tkv L s v := rfl
theorem tkv_len (L : Addr) (s l : Int) : (tkv L s l).length < sizeLine := by
  show 3 < sizeLine
  decide
/-- at T a tape: cells at L, at most B drawn -/
structure TapeAt (H : Hp) (T L : Addr) (ns : List Int) (s l : Int) : Prop where
  d : H T = some (.dK (tkv L s l))
  c : H L = some (.lst (ns.map V.int))
def Tape (H : Hp) (T L : Addr) (B : Int) : Prop := ∃ (ns : List Int) (s l : Int), TapeAt H T L ns s l ∧ 0 ≤ s ∧ s ≤ B ∧ ns.length ≤ 63
/-- all but what stands at T is as it was -/
def Keep (T : Addr) (H H' : Hp) : Prop := ∀ b o, H b = some o → b ≠ T → H' b = some o
theorem Keep.trans {T : Addr} {H H1 H2 : Hp} (a : Keep T H H1) (b : Keep T H1 H2) : Keep T H H2 := fun c o h n => b c o (a c o h n) n
theorem Keep.of {T : Addr} {H H' : Hp} (a : Same H H') : Keep T H H' := fun b o h _ => a b o h
theorem Keep.refl {T : Addr} {H : Hp} : Keep T H H := fun _ _ h _ => h
theorem keep_put {T : Addr} {H : Hp} {o : HO} : Keep T H (upd H T o) := fun b u h n => by
  rw [upd_ne n]
  exact h
theorem same_new {H : Hp} {p : Addr} (h : H p = none) (o : HO) : Same H (upd H p o) := fun b u q => by
  rw [upd_ne (ne_of_none q h)]
  exact q
theorem TapeAt.same {H H' : Hp} {T L : Addr} {ns : List Int} {s l : Int} (t : TapeAt H T L ns s l) (a : Same H H') : TapeAt H' T L ns s l := ⟨a _ _ t.d, a _ _ t.c⟩
theorem Tape.same {H H' : Hp} {T L : Addr} {B : Int} (t : Tape H T L B) (a : Same H H') : Tape H' T L B := by
  obtain ⟨ns, s, l, h, r⟩ := t
  exact ⟨ns, s, l, h.same a, r⟩
theorem Tape.put {H : Hp} {T L p : Addr} {o : HO} {B : Int} (t : Tape H T L B) (h1 : p ≠ T) (h2 : p ≠ L) : Tape (upd H p o) T L B := by
  obtain ⟨ns, s, l, h, r⟩ := t
  exact ⟨ns, s, l, ⟨by rw [upd_ne h1.symm]; exact h.d, by rw [upd_ne h2.symm]; exact h.c⟩, r⟩
theorem Tape.nT {H : Hp} {T L p : Addr} {B : Int} (t : Tape H T L B) (h : H p = none) : p ≠ T := fun z => by
  obtain ⟨ns, s, l, a, _⟩ := t
  rw [z, a.d] at h
  cases h
theorem Tape.nL {H : Hp} {T L p : Addr} {B : Int} (t : Tape H T L B) (h : H p = none) : p ≠ L := fun z => by
  obtain ⟨ns, s, l, a, _⟩ := t
  rw [z, a.c] at h
  cases h
theorem Tape.more {H : Hp} {T L : Addr} {B C : Int} (t : Tape H T L B) (h : B ≤ C) : Tape H T L C := by
  obtain ⟨ns, s, l, a, h0, h1, h2⟩ := t
  exact ⟨ns, s, l, a, h0, by omega, h2⟩
theorem Keep.free {T : Addr} {H H' : Hp} (k : Keep T H H') {p : Addr} (h : H' p = none) (n : p ≠ T) : H p = none := by
  cases e : H p with
  | none => rfl
  | some o =>
    rw [k p o e n] at h
    cases h
theorem TapeAt.ne {H : Hp} {T L : Addr} {ns : List Int} {s l : Int} (t : TapeAt H T L ns s l) : L ≠ T := fun z => by
  have e := t.c
  rw [z, t.d] at e
  cases e
theorem TapeAt.put {H : Hp} {T L : Addr} {ns : List Int} {s l s' l' : Int} (t : TapeAt H T L ns s l) : TapeAt (upd H T (.dK (tkv L s' l'))) T L ns s' l' := ⟨upd_same, by rw [upd_ne t.ne]; exact t.c⟩
theorem TapeAt.gS {H : Hp} {T L : Addr} {ns : List Int} {s l : Int} (t : TapeAt H T L ns s l) : DGet H T (.str ("spot" : Str)) (some (.int s)) := DGet.k (k := kS) t.d
theorem TapeAt.gL {H : Hp} {T L : Addr} {ns : List Int} {s l : Int} (t : TapeAt H T L ns s l) : DGet H T (.str ("left" : Str)) (some (.int l)) := DGet.k (k := kL) t.d
theorem TapeAt.gC {H : Hp} {T L : Addr} {ns : List Int} {s l : Int} (t : TapeAt H T L ns s l) : DGet H T (.str ("cells" : Str)) (some (.ref L)) := DGet.k (k := kC) t.d
theorem TapeAt.pS {H : Hp} {T L : Addr} {ns : List Int} {s l v : Int} (t : TapeAt H T L ns s l) : DPut H T (.str ("spot" : Str)) (.int v) (upd H T (.dK (tkv L v l))) := DPut.k (k := kS) (v := .int v) t.d (tkv_len L s l)
theorem TapeAt.pL {H : Hp} {T L : Addr} {ns : List Int} {s l v : Int} (t : TapeAt H T L ns s l) : DPut H T (.str ("left" : Str)) (.int v) (upd H T (.dK (tkv L s v))) := DPut.k (k := kL) (v := .int v) t.d (tkv_len L s l)
/-! ### numbers -/
theorem fm {i j : Int} (h : 0 < j) : 0 ≤ i.fmod j ∧ i.fmod j < j := by
  rw [Int.fmod_eq_emod_of_nonneg _ (by omega)]
  exact ⟨Int.emod_nonneg _ (by omega), Int.emod_lt_of_pos _ h⟩
theorem mul64 {i j : Int} (h1 : 0 ≤ i) (h2 : i < 18446744073709551616) (h3 : 0 ≤ j) (h4 : j < 18446744073709551616) : CMulW i j :=
  wide_mul (a := 64) (b := 64) (by omega) (by omega) (by decide) (by decide) (by decide)
abbrev sevenP : List V := [.int 2147483647, .int 2147483629, .int 2147483587, .int 2147483579, .int 2147483563, .int 2147483549, .int 2147483543]
theorem prime_at {i : Int} (h0 : 0 ≤ i) (h7 : i < 7) : ∃ p : Int, atI sevenP i = some (.int p) ∧ 2147483543 ≤ p ∧ p ≤ 2147483647 := by
  have c : i = 0 ∨ i = 1 ∨ i = 2 ∨ i = 3 ∨ i = 4 ∨ i = 5 ∨ i = 6 := by omega
  rcases c with rfl | rfl | rfl | rfl | rfl | rfl | rfl <;> exact ⟨_, rfl, by decide, by decide⟩
theorem at_in {α : Type} {xs : List α} {i : Int} (h0 : 0 ≤ i) (h : i < (xs.length : Int)) : ∃ v, v ∈ xs ∧ atI xs i = some v := by
  have hk : i.toNat < xs.length := by omega
  have e : i = ((i.toNat : Nat) : Int) := by omega
  refine ⟨xs[i.toNat], List.getElem_mem hk, ?_⟩
  have z := atI_nat (List.getElem?_eq_getElem hk)
  rw [← e] at z
  exact z
theorem at_mod {cs : List Int} (h : 0 < cs.length) (s : Int) : ∃ v : Int, atI (cs.map V.int) (s.fmod ((cs.map V.int).length : Int)) = some (.int v) := by
  have hl : 0 < (((cs.map V.int).length : Nat) : Int) := by
    rw [List.length_map]
    omega
  obtain ⟨v, hv, e⟩ := at_in (xs := cs.map V.int) (fm hl (i := s)).1 (fm hl (i := s)).2
  obtain ⟨z, _, rfl⟩ := List.mem_map.mp hv
  exact ⟨z, e⟩
theorem both_ways {p : Prop} {i : Decidable p} {R : Bool → Prop} (a : R true) (b : R false) : R (@decide p i) := by
  cases @decide p i
  · exact b
  · exact a
theorem less_draw {m : Int} {n : Nat} (hm : 1000000 < m) (h : m.natAbs < 2 ^ (19 * (n + 1))) : 1 ≤ m / 1000000 + 1 ∧ (m / 1000000 + 1).natAbs < 2 ^ (19 * n) := by
  rw [Nat.mul_succ, Nat.pow_add] at h
  have e : (2 : Nat) ^ 19 = 524288 := by decide
  rw [e] at h
  cases n with
  | zero =>
    rw [Nat.mul_zero, Nat.pow_zero] at h
    omega
  | succ j =>
    have g : 2 ^ 19 ≤ 2 ^ (19 * (j + 1)) := Nat.pow_le_pow_right (by decide) (by omega)
    rw [e] at g
    generalize 2 ^ (19 * (j + 1)) = X at g h
    omega
theorem cutR {R G : Prop} (k : R → G) (r : R) : G := k r
/-! ### the two defs -/
def spTape (K : PySem.W.Frag) : Sp := fun vs H Q _ => ∃ (a : Addr) (ns : List Int), vs = [.ref a] ∧ SqL K H a (ns.map V.int) ∧ ∀ (H' : Hp) (T L : Addr), Tape H' T L 0 → Same H H' → H T = none → H L = none → Q (.ref T) H'
def spDraw (n : Nat) : Sp := fun vs H Q _ => ∃ (T L : Addr) (m B : Int), vs = [.ref T, .int m] ∧ 1 ≤ m ∧ m.natAbs < 2 ^ (19 * n) ∧ B + n ≤ 1000000 ∧ Tape H T L B ∧
  ∀ (H' : Hp) (r : Int), 0 ≤ r → r < m → Tape H' T L (B + n) → Keep T H H' → Q (.int r) H'
theorem scTape : FnScope ["_law_script"] ["_law_script"] (defScope sTape) := ⟨rfl, rfl, rfl, by decide +kernel, rfl, by decide +kernel, by decide +kernel⟩
theorem scDraw : FnScope ["_law_tape_here", "_law_many", "_law_found", "_law_spot", "_law_cells", "_law_cell", "_law_primes", "_law_prime", "_law_seed"] ["_law_tape_here", "_law_many"] (defScope sDraw) := ⟨rfl, rfl, rfl, by decide +kernel, rfl, by decide +kernel, by decide +kernel⟩
section
variable {P : Program} {w : World} {K : PySem.W.Frag} {mg : Str → Option Value} {base : Heap} {f : Addr} {fd : FuncData}
theorem cut63 (ns : List Int) : ∃ ms : List Int, cutV (ns.map V.int) none (some 63) = ms.map V.int ∧ ms.length ≤ 63 := by
  refine ⟨ns.take (min 63 ns.length), ?_, by rw [List.length_take]; omega⟩
  unfold cutV
  rw [show HT.sIx (ns.map V.int).length (ns.map V.int).length (some 63) = min 63 (ns.map V.int).length from HT.sIx_nat _ _ 63, HT.sIx_none]
  rw [List.length_map, List.drop_zero, List.map_take]
  rfl
theorem ok_tape {k : Nat} (F : FnP K "_law_tape" sTape f fd) : FnOk P w K mg base CX0 (k + 1) f fd ["_law_script"] (spTape K) := by
  refine F.ok scTape (fun vs H Q E h => ?_) (fun cdv A outer s H vs Q E hr h => ?_)
  · obtain ⟨a, ns, rfl, _⟩ := h
    rfl
  obtain ⟨a, ns, rfl, hS, q⟩ := h
  refine ⟨_, PSs.nox (pss_one (ps_ret (pe_disp (pps_cons pe_str (pe_slice sl_list (pv 0) po_none (po_some pe_int)) (pps_cons pe_str pe_int (pps_cons pe_str pe_int pps_nil))) (by rfl) (by rfl) (fun z => by cases z) (by decide)))), ?_⟩
  refine fun p np => ⟨.ref a, rfl, ?_⟩
  have s1 : Same H (upd H p (.dK [])) := same_new np _
  refine ⟨63, rfl, a, _, rfl, s1.seq hS, fun c nc => ?_⟩
  have s2 := same_new nc (.lst (cutV (ns.map V.int) none (some 63)))
  have ncp : p ≠ c := fun e => by
    rw [← e, upd_same] at nc
    cases nc
  obtain ⟨ms, em, lm⟩ := cut63 ns
  refine ⟨by rw [upd_ne ncp, upd_same], [(kC, .ref c), (kS, .int 0), (kL, .int 0)], rfl, (by show 3 ≤ 15; decide), ?_⟩
  refine q _ p c ⟨ms, 0, 0, ⟨?_, ?_⟩, Int.le_refl 0, Int.le_refl 0, lm⟩ ?_ np (s1.free nc)
  · rw [upd_same]
    rfl
  · rw [upd_ne ncp.symm, upd_same, em]
  · intro b o h
    have hb : b ≠ p := ne_of_none h np
    rw [upd_ne hb]
    exact s2 _ _ (s1 _ _ h)
theorem or_cells {σ : L2.St} {H : Hp} {T L : Addr} {ns : List Int} {s l : Int} (e0 : σ[0]? = some (some (.ref T))) (t : TapeAt H T L ns s l) (hn : ns.length ≤ 63) :
    ∀ Q : VK, (∀ (C : Addr) (cs : List Int) (H2 : Hp), SqL K H2 C (cs.map V.int) → 0 < cs.length → cs.length ≤ 63 → Same H H2 → Q (.ref C) H2) →
      tOrT K (tDGet (tVar 0) (tC (.str ("cells" : Str)))) (tLst (tCons (tC (.int 0)) tNil)) σ H Q := fun Q q => by
  refine ⟨_, e0, T, _, rfl, t.gC, !(ns.map V.int).isEmpty, .inl ⟨_, SqL.of t.c, rfl⟩, ?_⟩
  cases ns with
  | nil =>
    refine iteF ?_
    exact ⟨(by show 1 ≤ sizeLine; decide), fun p np => q p [0] _ (SqL.of upd_same) (by decide) (by decide) (same_new np _)⟩
  | cons x r =>
    refine iteT ?_
    exact q L (x :: r) _ (SqL.of t.c) (by simp) hn (Same.refl _)
theorem ok_draw {n : Nat} (hn : n ≤ 20) (F : FnP K "_law_draw" sDraw f fd) (G : FnOk P w K mg base CX0 n f fd ["_law_tape_here", "_law_many"] (spDraw n)) (b : Binds K fd ["_law_tape_here", "_law_many"] []) (gD : mg "_law_draw" = some (.ref f)) (ml : mg "len" = none) :
    FnOk P w K mg base CX0 (n + 1) f fd ["_law_tape_here", "_law_many"] (spDraw (n + 1)) := by
  refine F.ok scDraw (fun vs H Q E h => ?_) (fun cdv A outer s H vs Q E hr h => ?_)
  · obtain ⟨T, L, m, B, rfl, _⟩ := h
    rfl
  obtain ⟨T, L, m, B, rfl, hm1, hm2, hB, hT, q⟩ := h
  have hu := hu_of hr
  refine ⟨_, PSs.nox (pss_cons (ps_if (pt_cmpR op_gt (pe_dget hu (pv 0) pe_str (fun _ _ => rfl)) pe_int (nomark _))
 (pss_cons (ps_set (i := 2) scDraw.nd rfl (Or.inl rfl) (pe_op op_modN (pe_dget hu (pv 0) pe_str (fun _ _ => rfl)) (pv 1)))
 (pss_cons (ps_dput hu (pv 0) pe_str (pe_op op_fdivW (pe_dget hu (pv 0) pe_str (fun _ _ => rfl)) (pv 1)) rfl)
 (pss_one (ps_ret (pv 2))))) pss_nil)
 (pss_cons (ps_set (i := 3) scDraw.nd rfl (Or.inl rfl) (pe_dget hu (pv 0) pe_str (fun _ _ => rfl)))
 (pss_cons (ps_dput hu (pv 0) pe_str (pe_op op_add (pv 3) pe_int) rfl)
 (pss_cons (ps_set (i := 4) scDraw.nd rfl (Or.inl rfl) (pe_orT (pe_dget hu (pv 0) pe_str (fun _ _ => rfl)) (pe_one (pe_lst (pa_cons pe_int pa_nil)))))
 (pss_cons (ps_set (i := 5) scDraw.nd rfl (Or.inl rfl) (pe_ix ix_list (pv 4) (pe_op op_modN (pv 3) (pe_callB call_len_seq (by rfl) ml PySem.boot_len (pa_cons (pv 4) pa_nil))) (fun _ _ => rfl)))
 (pss_cons (ps_if (PW.pt (pw_and (pt_cmpR op_ge (pv 5) (pe_op op_pow pe_int pe_int) (nomark _)) (pw_and1 (pt_cmpR op_lt (pv 3) (pe_callB call_len_seq (by rfl) ml PySem.boot_len (pa_cons (pv 4) pa_nil)) (nomark _)))))
 (pss_cons (ps_dput hu (pv 0) pe_str (pe_op op_fdivW (pe_op op_sub (pv 5) (pe_op op_pow pe_int pe_int)) (pv 1)) rfl)
 (pss_one (ps_ret (pe_op op_modN (pe_op op_sub (pv 5) (pe_op op_pow pe_int pe_int)) (pv 1))))) pss_nil)
 (pss_cons (ps_set (i := 6) scDraw.nd rfl (Or.inl rfl) (pe_lst (pa_cons pe_int (pa_cons pe_int (pa_cons pe_int (pa_cons pe_int (pa_cons pe_int (pa_cons pe_int (pa_cons pe_int pa_nil)))))))))
 (pss_cons (ps_set (i := 7) scDraw.nd rfl (Or.inl rfl) (pe_ix ix_list (pv 6) (pe_op op_modN (pv 3) pe_int) (fun _ _ => rfl)))
 (pss_cons (ps_set (i := 8) scDraw.nd rfl (Or.inl rfl) (pe_op op_modN (pe_op op_add (pe_op op_add (pe_op op_add (pe_op op_mulW (pe_op op_modN (pv 5) (pv 7)) pe_int) (pe_op op_mulW (pe_op op_mulW pe_int (pv 3)) (pv 3))) (pe_op op_mulW pe_int (pv 3))) pe_int) (pv 7)))
 (pss_cons (ps_set (i := 8) scDraw.nd rfl (Or.inl rfl) (pe_op op_modN (pe_op op_mulW (pv 8) (pe_op op_add (pv 8) pe_int)) (pe_ix ix_list (pv 6) (pe_op op_modN (pe_op op_add (pv 3) pe_int) pe_int) (fun _ _ => rfl))))
 (pss_cons (ps_set (i := 2) scDraw.nd rfl (Or.inl rfl) (pe_op op_fdivW (pe_op op_modN (pe_op op_mulW (pv 8) (pv 8)) (pv 7)) pe_int))
 (pss_cons (ps_if (pt_cmpR op_gt (pv 1) (pe_op op_pow pe_int pe_int) (nomark _))
 (pss_one (ps_set (i := 2) scDraw.nd rfl (Or.inl rfl) (pe_op op_add (pe_op op_modN (pv 2) (pe_op op_pow pe_int pe_int)) (pe_op op_mul (pe_op op_pow pe_int pe_int) (pe_call G hr (by rfl) gD F.kp b .nil pass0 (pa_cons (pv 0) (pa_cons (pe_op op_add (pe_op op_fdivW (pv 1) (pe_op op_pow pe_int pe_int)) pe_int) pa_nil))))))) pss_nil)
 (pss_one (ps_ret (pe_op op_modN (pv 2) (pv 1)))))))))))))))), ?_⟩
  obtain ⟨ns, s0, l, ht, h0, hB1, hlen⟩ := hT
  have hdv : ∀ i : Int, CDivW i m := fun i => wide_div (b := 19 * (n + 1)) (by omega) hm2 (by omega) (by omega)
  have hm0 : m ≠ 0 := by omega
  have hmp : 0 < m := by omega
  have hBn : B + ((n + 1 : Nat) : Int) = B + n + 1 := by omega
  rw [hBn] at q
  -- the number kept
  refine ⟨_, rfl, T, _, rfl, ht.gL, _, _, rfl, rfl, _, rfl, ite2 (fun c => ?_) (fun c => ?_)⟩
  · refine ⟨_, rfl, T, _, rfl, ht.gL, _, rfl, _, _, rfl, rfl, hm0, ?_⟩
    refine ⟨_, rfl, T, _, rfl, ht.gL, _, rfl, _, _, rfl, rfl, hdv _, _, rfl, T, _, rfl, ht.pL, _, rfl, ?_⟩
    exact q _ _ (fm hmp).1 (fm hmp).2 ⟨ns, s0, l / m, ht.put, h0, by omega, hlen⟩ keep_put
  -- a cell
  refine ⟨_, rfl, T, _, rfl, ht.gS, ?_⟩
  refine ⟨_, rfl, _, _, rfl, rfl, _, rfl, T, _, rfl, ht.pS, ?_⟩
  have t1 : TapeAt (upd H T (.dK (tkv L (s0 + 1) l))) T L ns (s0 + 1) l := ht.put
  refine or_cells rfl t1 hlen _ (fun C cs H2 hC hc1 hc2 sm => ?_)
  have t2 := t1.same sm
  have k2 : Keep T H H2 := Keep.trans keep_put (Keep.of sm)
  have hcl : ((cs.map V.int).length : Int) ≠ 0 := by
    rw [List.length_map]
    omega
  obtain ⟨cell, hcell⟩ := at_mod hc1 s0
  refine ⟨_, rfl, _, rfl, _, rfl, C, _, rfl, .inl hC, _, _, rfl, rfl, hcl, C, _, _, _, rfl, rfl, hC, hcell, ?_⟩
  have cp : CPow 10 18 := ⟨by decide, by decide, by decide⟩
  have cp6 : CPow 10 6 := ⟨by decide, by decide, by decide⟩
  apply cutR
  case k =>
    intro rest
    refine ⟨_, rfl, _, _, rfl, rfl, cp, _, _, rfl, rfl, _, rfl, ite2 (fun _ => ⟨_, rfl, _, rfl, C, _, rfl, .inl hC, _, _, rfl, rfl, _, rfl, ite2 (fun _ => ?ka) (fun _ => ?kb)⟩) (fun _ => ?kc)⟩
    case kb => exact rest
    case kc => exact iteF rest
    case ka =>
      refine ⟨_, rfl, _, _, rfl, rfl, cp, _, _, rfl, rfl, _, rfl, _, _, rfl, rfl, hdv _, _, rfl, T, _, rfl, t2.pL, ?_⟩
      refine ⟨_, rfl, _, _, rfl, rfl, cp, _, _, rfl, rfl, _, rfl, _, _, rfl, rfl, hm0, ?_⟩
      exact q _ _ (fm hmp).1 (fm hmp).2 ⟨ns, s0 + 1, _, t2.put, by omega, by omega, hlen⟩ (k2.trans keep_put)
  refine ⟨(by show 7 ≤ sizeLine; decide), fun p np => ?_⟩
  have sp := same_new np (.lst sevenP)
  have t3 := t2.same sp
  have k3 := k2.trans (Keep.of sp)
  have hp : SqL K (upd H2 p (.lst sevenP)) p sevenP := SqL.of upd_same
  obtain ⟨pr, e1, b1, b2⟩ := prime_at (fm (i := s0) (show (0 : Int) < 7 by decide)).1 (fm (show (0 : Int) < 7 by decide)).2
  obtain ⟨p2, e2, b3, b4⟩ := prime_at (fm (i := s0 + 3) (show (0 : Int) < 7 by decide)).1 (fm (show (0 : Int) < 7 by decide)).2
  have h7 : (7 : Int) ≠ 0 := by decide
  have pr0 : pr ≠ 0 := by omega
  have p20 : p2 ≠ 0 := by omega
  have prp : 0 < pr := by omega
  have p2p : 0 < p2 := by omega
  -- prime
  refine ⟨_, rfl, _, rfl, _, _, rfl, rfl, h7, p, _, _, _, rfl, rfl, hp, e1, ?_⟩
  -- seed
  have hs := hB1
  refine ⟨_, rfl, _, rfl, _, _, rfl, rfl, pr0, _, _, rfl, rfl, mul64 (fm prp).1 (by have := (fm (i := cell) prp).2; omega) (by decide) (by decide), _, rfl, _, _, rfl, rfl, mul64 (by decide) (by decide) h0 (by omega), _, rfl, _, _, rfl, rfl,
    mul64 (by omega) (by omega) h0 (by omega), _, _, rfl, rfl, _, rfl, _, _, rfl, rfl, mul64 (by decide) (by decide) h0 (by omega), _, _, rfl, rfl, _, _, rfl, rfl, _, rfl, _, _, rfl, rfl, pr0, ?_⟩
  have z1 := fm (i := cell.fmod pr * 48271 + 7919 * s0 * s0 + 69621 * s0 + 1) prp
  refine ⟨_, rfl, _, rfl, _, _, rfl, rfl, _, _, rfl, rfl, mul64 z1.1 (by omega) (by omega) (by omega), _, rfl, _, rfl, _, _, rfl, rfl, _, _, rfl, rfl, h7, p, _, _, _, rfl, rfl, hp, e2, _, _, rfl, rfl, p20, ?_⟩
  have z2 := fm (i := (cell.fmod pr * 48271 + 7919 * s0 * s0 + 69621 * s0 + 1).fmod pr * ((cell.fmod pr * 48271 + 7919 * s0 * s0 + 69621 * s0 + 1).fmod pr + 16807)) p2p
  refine ⟨_, rfl, _, rfl, _, _, rfl, rfl, mul64 z2.1 (by omega) z2.1 (by omega), _, rfl, _, _, rfl, rfl, pr0, _, _, rfl, rfl, wide_div (b := 7) (by decide) (by decide) (by decide) (by decide), ?_⟩
  have e6 : (10 : Int) ^ (6 : Int).toNat = 1000000 := by decide
  have n6 : (10 : Int) ^ (6 : Int).toNat ≠ 0 := by decide
  have d6 : ∀ i : Int, CDivW i ((10 : Int) ^ (6 : Int).toNat) := fun i => wide_div (b := 20) (by decide) (by decide) (by decide) (by decide)
  refine ⟨_, rfl, _, _, rfl, rfl, cp6, _, _, rfl, rfl, _, rfl, ite2 (fun c => ?_) (fun c => ?_)⟩
  · have c' : 1000000 < m := by
      have c2 := of_decide_eq_true c
      rw [e6] at c2
      exact c2
    obtain ⟨l1, l2⟩ := less_draw c' hm2
    rw [← e6] at l1 l2
    refine ⟨_, rfl, _, _, rfl, rfl, cp6, _, _, rfl, rfl, n6, _, _, rfl, rfl, cp6, _, rfl, _, rfl, _, _, rfl, rfl, cp6, _, _, rfl, rfl, d6 _, _, _, rfl, rfl, ?_⟩
    refine ⟨T, L, _, B + 1, rfl, l1, l2, by omega, ⟨ns, s0 + 1, l, t3, by omega, by omega, hlen⟩, fun H3 r r0 r1 t4 k4 => ?_⟩
    refine ⟨_, _, rfl, rfl, .inl ⟨by decide, by decide⟩, _, _, rfl, rfl, ?_⟩
    refine ⟨_, rfl, _, rfl, _, _, rfl, rfl, hm0, ?_⟩
    exact q _ _ (fm hmp).1 (fm hmp).2 (t4.more (by omega)) (k3.trans k4)
  · refine ⟨_, rfl, _, rfl, _, _, rfl, rfl, hm0, ?_⟩
    exact q _ _ (fm hmp).1 (fm hmp).2 ⟨ns, s0 + 1, l, t3, by omega, by omega, hlen⟩ k3
theorem no_draw : FnOk P w K mg base CX0 0 f fd ["_law_tape_here", "_law_many"] (spDraw 0) := by
  have no : ∀ vs H Q E, ¬ spDraw 0 vs H Q E := fun vs H Q E h => by
    obtain ⟨T, L, m, B, _, h1, h2, _⟩ := h
    have h3 : m.natAbs < 1 := h2
    omega
  exact ⟨fun vs H Q E h => absurd h (no vs H Q E), fun A outer s H args us vs Q E _ _ _ _ h => absurd h (no vs H Q E)⟩
theorem all_draw (F : FnP K "_law_draw" sDraw f fd) (b : Binds K fd ["_law_tape_here", "_law_many"] []) (gD : mg "_law_draw" = some (.ref f)) (ml : mg "len" = none) :
    ∀ n : Nat, n ≤ 20 → FnOk P w K mg base CX0 n f fd ["_law_tape_here", "_law_many"] (spDraw n)
  | 0, _ => no_draw
  | n + 1, h => ok_draw (by omega) F (all_draw F b gD ml n (by omega)) b gD ml
end
end My

set_option maxRecDepth 100000
set_option maxHeartbeats 4000000
namespace My
open PySem PySem.Spec PyProof.Rows L2
abbrev sWords : Stmt := top 13
theorem scWords : FnScope ["_law_tape_here", "_law_many", "_law_letters", "_law_own", "_law_k", "_law_base", "_law_found", "_law_letter", "_law_some", "_law_word", "_law_more"] ["_law_tape_here", "_law_many"] (defScope sWords) := ⟨rfl, rfl, rfl, by decide +kernel, rfl, by decide +kernel, by decide +kernel⟩
abbrev abc : Str := "abcdefghijklmnopqrstuvwxyz"
def own8 : List Str := Txt.split ("nota andy org isa yesno given noa same" : Str) (" " : Str)
theorem own8_len : own8.length = 8 := by decide +kernel
theorem own8_le : ∀ z ∈ own8, z.length ≤ 8 := by decide +kernel
theorem join_le : ∀ ys : List Str, (∀ z ∈ ys, z.length ≤ 1) → (Str.join ("" : Str) ys).length ≤ ys.length
  | [], _ => Nat.le_refl _
  | [x], h => h x (List.mem_singleton_self x)
  | x :: y :: r, h => by
    have e : Str.join ("" : Str) (x :: y :: r) = x ++ ("" : Str) ++ Str.join ("" : Str) (y :: r) := rfl
    have i := join_le (y :: r) (fun z hz => h z (List.mem_cons_of_mem _ hz))
    have g := h x List.mem_cons_self
    have z0 : (("" : Str)).length = 0 := by decide
    rw [e, strLen_append, strLen_append, z0, List.length_cons]
    omega
theorem sum_le : ∀ ys : List Str, (∀ z ∈ ys, z.length ≤ 1) → (ys.map (fun x => x.length)).sum ≤ ys.length
  | [], _ => Nat.le_refl _
  | x :: r, h => by
    have i := sum_le r (fun z hz => h z (List.mem_cons_of_mem _ hz))
    have g := h x List.mem_cons_self
    rw [List.map_cons, List.sum_cons, List.length_cons]
    omega
theorem one_len (c : Nat) : (⟨#[c]⟩ : Str).length = 1 := rfl
theorem cut_le {z : Str} {k : Nat} : (cutS z none (some (k : Int))).length ≤ k := by
  unfold cutS
  show ((z.cps.toList.drop _).take _).toArray.size ≤ k
  rw [List.size_toArray, List.length_take, HT.sIx_nat, HT.sIx_none]
  omega
theorem cut8 (z : Str) : (cutS z none (some 8)).length ≤ 8 := cut_le (k := 8)
theorem cut7 (z : Str) : (cutS z none (some 7)).length ≤ 7 := cut_le (k := 7)
theorem abc_at {r : Int} (h0 : 0 ≤ r) (h1 : r < 26) : ∃ c, atI abc.cps.toList r = some c := by
  have e : abc.cps.toList.length = 26 := by decide +kernel
  obtain ⟨c, _, h⟩ := at_in (xs := abc.cps.toList) h0 (by rw [e]; exact h1)
  exact ⟨c, h⟩
theorem flat_strs (ws : List Str) : (ws.map V.str).all flatV = true := by
  rw [List.all_map]
  exact List.all_eq_true.mpr fun _ _ => rfl
theorem small {n : Nat} (h : n ≤ 1000) : n ≤ sizeLine := Nat.le_of_lt (small1000 h)
def spWords (K : PySem.W.Frag) : Sp := fun vs H Q _ => ∃ (T L : Addr) (n : Nat) (B : Int), vs = [.ref T, .int n] ∧ n ≤ 12 ∧ B + 2000 ≤ 1000000 ∧ Tape H T L B ∧
  ∀ (H' : Hp) (p : Addr) (ws : List Str), ws.length = n → (∀ z ∈ ws, z.length ≤ 8) → H' p = some (.lst (ws.map V.str)) → H p = none → Tape H' T L (B + 1000) → Keep T H H' → Q (.ref p) H'
section
variable {P : Program} {w : World} {K : PySem.W.Frag} {mg : Str → Option Value} {base : Heap} {f fD : Addr} {fd fdD : FuncData}
theorem ok_words {k : Nat} (hk : 11 ≤ k) (F : FnP K "_law_words" sWords f fd) (G : FnOk P w K mg base CX0 11 fD fdD ["_law_tape_here", "_law_many"] (spDraw 11)) (b : Binds K fdD ["_law_tape_here", "_law_many"] []) (gD : mg "_law_draw" = some (.ref fD)) (kD : PySem.W.keepIn K (.ref fD) = true) (mr : mg "range" = none) :
    FnOk P w K mg base CX0 (k + 1) f fd ["_law_tape_here", "_law_many"] (spWords K) := by
  refine F.ok scWords (fun vs H Q E h => ?_) (fun cdv A outer s H vs Q E hr0 h => ?_)
  · obtain ⟨T, L, n, B, rfl, _⟩ := h
    rfl
  obtain ⟨T, L, n, B, rfl, hn, hB, hT, q⟩ := h
  have hu := hu_of hr0
  have hr : Room 11 _ := hr0.mono hk
  refine ⟨_, PSs.nox (pss_cons (ps_set (i := 2) scWords.nd rfl (Or.inr rfl) pe_str)
 (pss_cons (ps_set (i := 3) scWords.nd rfl (Or.inl rfl) (pe_split pe_str pe_str))
 (pss_cons (ps_set (i := 5) scWords.nd rfl (Or.inl rfl) (pe_join pe_str (pe_lc (own := [("_law_k", 4)]) (g := gName 4) (tt := tYes) (by rfl) scWords.nd (pi_range1 (by rfl) mr (pa_cons (pe_op op_add pe_int (pe_call G hr (by rfl) gD kD b .nil pass0 (pa_cons (pv 0) (pa_cons pe_int pa_nil)))) pa_nil)) (blkOk_by (own := [("_law_k", 4)]) (N := ["_law_tape_here", "_law_many", "_law_letters", "_law_own", "_law_k", "_law_base", "_law_found", "_law_letter", "_law_some", "_law_word", "_law_more"]) (sc := defScope sWords) (by decide +kernel)) (fun _ _ _ _ _ => pg_name (i := 4) scWords.nd rfl (Or.inl rfl)) (fun _ _ _ _ _ => pts_nil) (fun _ _ _ _ _ => (pe_ix ix_str (pv 2) (pe_call G hr (by rfl) gD kD b .nil pass0 (pa_cons (pv 0) (pa_cons pe_int pa_nil))) (fun _ _ => rfl))))))
 (pss_cons (ps_set (i := 6) scWords.nd rfl (Or.inl rfl) (pe_lst pa_nil))
 (pss_cons (ps_for PassesOwn.never rfl (pi_range1 (by rfl) mr (pa_cons (pv 1) pa_nil)) (pg_name (i := 4) scWords.nd rfl (Or.inl rfl))
 (pss_cons (ps_set (i := 7) scWords.nd rfl (Or.inl rfl) (pe_ix ix_str (pv 2) (pe_call G hr (by rfl) gD kD b .nil pass0 (pa_cons (pv 0) (pa_cons pe_int pa_nil))) (fun _ _ => rfl)))
 (pss_cons (ps_set (i := 8) scWords.nd rfl (Or.inl rfl) (pe_lst (pa_cons (pv 5) (pa_cons (pe_op op_add_str (pv 5) (pv 7)) (pa_cons (pe_op op_add_str (pv 7) (pv 5)) (pa_cons (pv 7) (pa_cons (pe_op op_add_str (pe_op op_add_str (pv 5) (pv 7)) (pv 7)) (pa_cons (pe_ix ix_list (pv 3) (pe_call G hr (by rfl) gD kD b .nil pass0 (pa_cons (pv 0) (pa_cons pe_int pa_nil))) (fun _ _ => rfl)) pa_nil))))))))
 (pss_cons (ps_set (i := 9) scWords.nd rfl (Or.inl rfl) (pe_slice sl_str (pe_ix ix_list (pv 8) (pe_call G hr (by rfl) gD kD b .nil pass0 (pa_cons (pv 0) (pa_cons pe_int pa_nil))) (fun _ _ => rfl)) po_none (po_some pe_int)))
 (pss_cons (ps_for PassesOwn.never rfl (pi_str (pv 2)) (pg_name (i := 10) scWords.nd rfl (Or.inl rfl))
 (pss_one (ps_if (PW.pt (pw_or (pt_cmpR op_in_seq (pv 9) (pv 6) rfl) (pw_or1 (pt_cmpR op_in_seq (pv 9) (pe_tup (pa_cons pe_str (pa_cons pe_str (pa_cons pe_str (pa_cons pe_str (pa_cons pe_str (pa_cons pe_str (pa_cons pe_str pa_nil)))))))) rfl))))
 (pss_one (ps_set (i := 9) scWords.nd rfl (Or.inl rfl) (pe_op op_add_str (pe_slice sl_str (pv 9) po_none (po_some pe_int)) (pv 10)))) pss_nil)))
 (pss_one (ps_expr (pe_bm PySem.F.plainAttrs_list PySem.F.slot_list_append PySem.F.type_list_append mt_append (pv 6) (pa_cons (pv 9) pa_nil)))))))))
 (pss_one (ps_ret (pv 6)))))))), ?_⟩
  have habc : abc.length ≤ sizeLine := by decide +kernel
  refine ⟨⟨_, rfl⟩, _, _, rfl, rfl, (by decide +kernel), (by decide +kernel), fun pO nO => ?_⟩
  have sO : Same H (upd H pO (.lst (own8.map V.str))) := same_new nO _
  have tO := hT.same sO
  have oT : pO ≠ T := hT.nT nO
  have oL : pO ≠ L := hT.nL nO
  -- base
  refine ⟨⟨_, rfl⟩, _, rfl, T, L, 6, B, rfl, by decide, by decide, by omega, tO, fun H1 r r0 r1 t1 k1 => ?_⟩
  have e1 : H1 pO = some (.lst (own8.map V.str)) := k1 _ _ upd_same oT
  refine ⟨_, _, rfl, rfl, _, rfl, by omega, by omega, fun D nD => lc_range (lo := 0) (n := (1 + r).toNat) (fun i H' => ∃ ws : List Str, H' D = some (.lst (ws.map V.str)) ∧ ws.length = i ∧ (∀ z ∈ ws, z.length ≤ 1) ∧
    Tape H' T L (B + 11 + 11 * i) ∧ Keep T H H' ∧ H' pO = some (.lst (own8.map V.str))) ?_ ?_ ?_⟩
  · refine ⟨[], upd_same, rfl, (fun z hz => by cases hz), (t1.same (same_new nD _)).more (by omega), ((Keep.of sO).trans k1).trans (Keep.of (same_new nD _)), same_new nD _ _ _ e1⟩
  · rintro i H2 hi ⟨ws, eD, hl, hz, tp, kp, eO⟩
    have dT : D ≠ T := t1.nT nD
    have dL : D ≠ L := t1.nL nD
    refine ⟨rfl, ?_⟩
    refine ⟨_, rfl, _, rfl, T, L, 26, _, rfl, by decide, by decide, by omega, tp, fun H3 r3 a0 a1 t3 k3 => ?_⟩
    obtain ⟨c, hc⟩ := abc_at a0 a1
    have dO : pO ≠ D := ne_of_none e1 nD
    refine ⟨_, _, c, rfl, rfl, habc, hc, _, k3 _ _ eD dT, (by rw [List.length_map]; exact small1000 (by omega)), ws ++ [⟨#[c]⟩], ?_, ?_, ?_, (t3.put dT dL).more (by omega), ?_, ?_⟩
    · rw [upd_same, List.map_append]
      rfl
    · rw [List.length_append, hl]
      rfl
    · intro z hz'
      rcases List.mem_append.mp hz' with h | h
      · exact hz z h
      · rw [List.mem_singleton.mp h]
        exact Nat.le_refl _
    · intro b o h n
      have hb : b ≠ D := fun z => by
        have y : H1 b = some o := k1 _ _ (sO _ _ h) n
        rw [z, nD] at y
        cases y
      rw [upd_ne hb]
      exact k3 _ _ (kp _ _ h n) n
    · rw [upd_ne dO]
      exact k3 _ _ eO oT
  rintro H2 ⟨bs, eD, hl, hz, t2, k2, e2⟩
  have hbs : bs.length ≤ 7 := by omega
  refine ⟨_, D, bs, rfl, rfl, .inl (SqL.of eD), ?_, ?_⟩
  · have z0 : (("" : Str)).length = 0 := by decide
    have y := sum_le bs hz
    rw [z0]
    omega
  have hbl : (Txt.join ("" : Str) bs).length ≤ 7 := by
    rw [TL.join_eq]
    exact Nat.le_trans (join_le bs hz) hbs
  generalize Txt.join ("" : Str) bs = bse at hbl
  -- found = []
  refine ⟨Nat.zero_le _, fun pF nF => ?_⟩
  have fT : pF ≠ T := t2.nT nF
  have fL : pF ≠ L := t2.nL nF
  have fO : pO ≠ pF := ne_of_none e2 nF
  have nF0 : H pF = none := k2.free nF fT
  have s2 := same_new nF (.lst [])
  have hn2 : ((n : Nat) : Int).toNat = n := Int.toNat_natCast n
  refine ⟨_, rfl, _, rfl, by omega, by omega, for_range (lo := 0) (n := ((n : Nat) : Int).toNat) (fun i σ H' => ∃ (kk l sm wd mo : Option V) (ws : List Str),
    σ = [some (.ref T), some (.int n), some (.str abc), some (.ref pO), kk, some (.str bse), some (.ref pF), l, sm, wd, mo] ∧ ws.length = i ∧ (∀ z ∈ ws, z.length ≤ 8) ∧
    H' pF = some (.lst (ws.map V.str)) ∧ H' pO = some (.lst (own8.map V.str)) ∧ Tape H' T L (B + 100 + 33 * i) ∧ Keep T H H') ?_ ?_ ?_⟩
  · exact ⟨_, _, _, _, _, [], rfl, rfl, (fun z hz => by cases hz), upd_same, s2 _ _ e2, (t2.same s2).more (by omega), k2.trans (Keep.of s2)⟩
  · rintro i σ H3 hi ⟨kk, l, sm, wd, mo, ws, rfl, hl, hw, eF, eO, tp, kp⟩
    have hwn : ws.length ≤ 12 := by omega
    -- letter
    refine ⟨_, rfl, _, rfl, T, L, 26, _, rfl, by decide, by decide, by omega, tp, fun H4 r4 a0 a1 t4 k4 => ?_⟩
    obtain ⟨c, hc⟩ := abc_at a0 a1
    refine ⟨_, _, c, rfl, rfl, habc, hc, ?_⟩
    have l1 : (⟨#[c]⟩ : Str).length = 1 := rfl
    have z1 : bse.length + (⟨#[c]⟩ : Str).length ≤ sizeLine := small (by omega)
    have z2 : (⟨#[c]⟩ : Str).length + bse.length ≤ sizeLine := small (by omega)
    have z3 : (bse ++ (⟨#[c]⟩ : Str)).length + (⟨#[c]⟩ : Str).length ≤ sizeLine := by
      rw [strLen_append]
      exact small (by omega)
    refine ⟨_, rfl, _, rfl, _, rfl, _, _, rfl, rfl, z1, _, rfl, _, rfl, _, _, rfl, rfl, z2, _, rfl, _, rfl, _, rfl, _, _, rfl, rfl, z1, _, rfl, _, _, rfl, rfl, z3, ?_⟩
    refine ⟨_, rfl, _, rfl, T, L, 8, _, rfl, by decide, by decide, by omega, t4, fun H5 r5 a2 a3 t5 k5 => ?_⟩
    have eO5 := k5 _ _ (k4 _ _ eO oT) oT
    have eF5 := k5 _ _ (k4 _ _ eF fT) fT
    obtain ⟨vo, ho1, ho2⟩ := at_in (xs := own8.map V.str) a2 (by rw [List.length_map, own8_len]; exact a3)
    obtain ⟨o1, ho3, rfl⟩ := List.mem_map.mp ho1
    refine ⟨pO, _, _, _, rfl, rfl, SqL.of eO5, ho2, (by show 6 ≤ sizeLine; decide), fun pS nS => ?_⟩
    have s5 := same_new nS (.lst [.str bse, .str (bse ++ (⟨#[c]⟩ : Str)), .str ((⟨#[c]⟩ : Str) ++ bse), .str ⟨#[c]⟩, .str (bse ++ (⟨#[c]⟩ : Str) ++ (⟨#[c]⟩ : Str)), .str o1])
    -- word
    refine ⟨_, rfl, _, rfl, T, L, 6, _, rfl, by decide, by decide, by omega, t5.same s5, fun H6 r6 a4 a5 t6 k6 => ?_⟩
    have sT : pS ≠ T := t5.nT nS
    have eS6 := k6 _ _ upd_same sT
    have eO6 := k6 _ _ (s5 _ _ eO5) oT
    have eF6 := k6 _ _ (s5 _ _ eF5) fT
    have k06 : Keep T H H6 := (((kp.trans k4).trans k5).trans (Keep.of s5)).trans k6
    have six : ∃ z : Str, atI ([.str bse, .str (bse ++ (⟨#[c]⟩ : Str)), .str ((⟨#[c]⟩ : Str) ++ bse), .str ⟨#[c]⟩, .str (bse ++ (⟨#[c]⟩ : Str) ++ (⟨#[c]⟩ : Str)), .str o1] : List V) r6 = some (.str z) ∧ z.length ≤ 16 := by
      have g := own8_le o1 ho3
      have c6 : r6 = 0 ∨ r6 = 1 ∨ r6 = 2 ∨ r6 = 3 ∨ r6 = 4 ∨ r6 = 5 := by omega
      rcases c6 with rfl | rfl | rfl | rfl | rfl | rfl
      · exact ⟨_, rfl, by omega⟩
      · exact ⟨_, rfl, by rw [strLen_append]; omega⟩
      · exact ⟨_, rfl, by rw [strLen_append]; omega⟩
      · exact ⟨_, rfl, by omega⟩
      · exact ⟨_, rfl, by rw [strLen_append, strLen_append]; omega⟩
      · exact ⟨_, rfl, by omega⟩
    obtain ⟨z, hz1, hz2⟩ := six
    refine ⟨pS, _, _, _, rfl, rfl, SqL.of eS6, hz1, 8, rfl, z, rfl, small (by omega), ?_⟩
    have zl := cut8 z
    generalize cutS z none (some 8) = wd0 at zl
    -- for more in letters
    refine ⟨_, rfl, _, rfl, for_it walk_str (fun j σ H' => ∃ (wd : Str) (mo : Option V), σ = [some (.ref T), some (.int n), some (.str abc), some (.ref pO), some (.int (0 + i)), some (.str bse), some (.ref pF), some (.str ⟨#[c]⟩), some (.ref pS), some (.str wd), mo] ∧ wd.length ≤ 8 ∧ Same H6 H') ?_ (fun _ _ _ _ _ => trivial) ?_ ?_⟩
    · exact ⟨wd0, mo, rfl, zl, Same.refl _⟩
    · rintro j x σ H7 H8 hj ⟨wd1, mo1, rfl, wl, sm7⟩ ⟨rfl, c2, hc2, rfl⟩
      have eF7 := sm7 _ _ eF6
      refine ⟨_, rfl, _, rfl, pF, _, rfl, .inl (SqL.of eF7), rfl, flat_strs ws, _, rfl, ?_⟩
      have y1 : (cutS wd1 none (some 7)).length + (⟨#[c2]⟩ : Str).length ≤ 8 := by
        have := cut7 wd1
        have e : (⟨#[c2]⟩ : Str).length = 1 := rfl
        omega
      refine ite2 (fun _ => ?_) (fun _ => ?_)
      · refine iteT ?_
        refine ⟨_, rfl, 7, rfl, _, rfl, small (by omega), _, rfl, _, _, rfl, rfl, small (by omega), _, _, rfl, (by rw [strLen_append]; exact y1), sm7⟩
      · refine ⟨_, rfl, (by show 7 ≤ sizeLine; decide), fun pT nT => ⟨pT, _, rfl, .inr (SqT.of upd_same), rfl, (by decide), _, rfl, ?_⟩⟩
        have s8 := same_new nT (.tup [.str "not", .str "and", .str "or", .str "gives", .str "is", .str "yes", .str "no"])
        refine ite2 (fun _ => ?_) (fun _ => ?_)
        · refine ⟨_, rfl, 7, rfl, _, rfl, small (by omega), _, rfl, _, _, rfl, rfl, small (by omega), _, _, rfl, (by rw [strLen_append]; exact y1), sm7.trans s8⟩
        · exact ⟨wd1, _, rfl, wl, sm7.trans s8⟩
    · rintro σ H7 ⟨wd1, mo1, rfl, wl, sm7⟩
      have eF7 := sm7 _ _ eF6
      refine ⟨_, rfl, .inl ⟨rfl, _, SqL.of eF7⟩, _, rfl, pF, _, _, rfl, rfl, eF7, (by rw [List.length_map]; exact small1000 (by omega)), ?_⟩
      refine ⟨_, _, _, _, _, ws ++ [wd1], rfl, (by rw [List.length_append, hl]; rfl), ?_, ?_, ?_, ?_, ?_⟩
      · intro y hy
        rcases List.mem_append.mp hy with h | h
        · exact hw y h
        · rw [List.mem_singleton.mp h]
          exact wl
      · rw [upd_same, List.map_append]
        rfl
      · rw [upd_ne fO]
        exact sm7 _ _ eO6
      · exact ((t6.same sm7).put fT fL).more (by omega)
      · intro b o h m
        rw [upd_ne (ne_of_none h nF0)]
        exact sm7 _ _ (k06 _ _ h m)
  · rintro σ H3 ⟨kk, l, sm, wd, mo, ws, rfl, hl, hw, eF, eO, tp, kp⟩
    refine ⟨_, rfl, q H3 pF ws (by omega) hw eF nF0 (tp.more (by omega)) kp⟩
end
end My

set_option maxRecDepth 100000
set_option maxHeartbeats 4000000
namespace My
open PySem PySem.Spec PyProof.Rows L2
abbrev sSay : Stmt := top 14
theorem scSay : FnScope ["_law_tape_here", "_law_names_here", "_law_left", "_law_deep", "_law_kind", "_law_word", "_law_first"] ["_law_tape_here", "_law_names_here", "_law_left", "_law_deep"] (defScope sSay) := ⟨rfl, rfl, rfl, by decide +kernel, rfl, by decide +kernel, by decide +kernel⟩
/-! ### sayings -/
theorem at0 {α : Type} {x : α} {xs : List α} : atI (x :: xs) 0 = some x := atI_nat (j := 0) rfl
theorem at1 {α : Type} {x y : α} {xs : List α} : atI (x :: y :: xs) 1 = some y := atI_nat (j := 1) rfl
def TupK (H H' : Hp) : Prop := ∀ b xs, H b = some (.tup xs) → H' b = some (.tup xs)
theorem TupK.of {H H' : Hp} (s : Same H H') : TupK H H' := fun b xs h => s b _ h
theorem TupK.trans {H H1 H2 : Hp} (a : TupK H H1) (b : TupK H1 H2) : TupK H H2 := fun c xs h => b c xs (a c xs h)
theorem TupK.put {H : Hp} {p : Addr} {xs : List V} {o : HO} (h : H p = some (.lst xs)) : TupK H (upd H p o) := fun b ys e => by
  rw [upd_ne (fun z => by rw [z, h] at e; cases e)]
  exact e
theorem TupK.putD {H : Hp} {p : Addr} {kv : List (Key × V)} {o : HO} (h : H p = some (.dK kv)) : TupK H (upd H p o) := fun b ys e => by
  rw [upd_ne (fun z => by rw [z, h] at e; cases e)]
  exact e
inductive B4 where
  | an | orr | iff | sm
def B4.s : B4 → Str
  | .an => "and"
  | .orr => "or"
  | .iff => "if"
  | .sm => "same"
inductive Sy where
  | yes | no
  | nm (x : Str)
  | nt (a : Sy)
  | bi (k : B4) (a b : Sy)
def Sy.names : Sy → List Str
  | .nm x => [x]
  | .nt a => a.names
  | .bi _ a b => a.names ++ b.names
  | _ => []
def Sy.sz : Sy → Nat
  | .nt a => a.sz + 1
  | .bi _ a b => a.sz + b.sz + 1
  | _ => 1
def Sy.dep : Sy → Nat
  | .nt a => a.dep + 1
  | .bi _ a b => max a.dep b.dep + 1
  | _ => 1
theorem Sy.pos (s : Sy) : 1 ≤ s.sz := by cases s <;> (unfold Sy.sz; omega)
inductive St (H : Hp) : V → Sy → Prop
  | yes {a : Addr} : H a = some (.tup [.str "yes"]) → St H (.ref a) .yes
  | no {a : Addr} : H a = some (.tup [.str "no"]) → St H (.ref a) .no
  | nm {a : Addr} (x : Str) : H a = some (.tup [.str "name", .str x]) → St H (.ref a) (.nm x)
  | nt {a : Addr} {v : V} {s : Sy} : H a = some (.tup [.str "not", v]) → St H v s → St H (.ref a) (.nt s)
  | bi {a : Addr} {v u : V} {s t : Sy} (k : B4) : H a = some (.tup [.str k.s, v, u]) → St H v s → St H u t → St H (.ref a) (.bi k s t)
theorem st_keep {H H' : Hp} (e : TupK H H') {v : V} {s : Sy} (h : St H v s) : St H' v s := by
  induction h with
  | yes h => exact .yes (e _ _ h)
  | no h => exact .no (e _ _ h)
  | nm x h => exact .nm x (e _ _ h)
  | nt h _ ih => exact .nt (e _ _ h) ih
  | bi k h _ _ i1 i2 => exact .bi k (e _ _ h) i1 i2
/-- all but T and F is as it was -/
def Keep2 (T F : Addr) (H H' : Hp) : Prop := ∀ b o, H b = some o → b ≠ T → b ≠ F → H' b = some o
theorem Keep2.of {T F : Addr} {H H' : Hp} (k : Keep T H H') : Keep2 T F H H' := fun b o h n _ => k b o h n
theorem Keep2.same {T F : Addr} {H H' : Hp} (k : Same H H') : Keep2 T F H H' := fun b o h _ _ => k b o h
theorem Keep2.trans {T F : Addr} {H H1 H2 : Hp} (a : Keep2 T F H H1) (b : Keep2 T F H1 H2) : Keep2 T F H H2 := fun c o h n m => b c o (a c o h n m) n m
theorem Keep2.put {T F : Addr} {H : Hp} {o : HO} : Keep2 T F H (upd H F o) := fun b u h _ m => by
  rw [upd_ne m]
  exact h
/-- the tape at T, the list at F -/
structure Two (H : Hp) (T L F : Addr) (B l : Int) : Prop where
  t : Tape H T L B
  f : H F = some (.lst [.int l])
  ne : F ≠ L
theorem Two.nT {H : Hp} {T L F : Addr} {B l : Int} (w : Two H T L F B l) : F ≠ T := fun z => by
  obtain ⟨ns, s, k, a, _⟩ := w.t
  have e := w.f
  rw [z, a.d] at e
  cases e
theorem Two.tup {H H' : Hp} {T L F : Addr} {B l : Int} (w : Two H T L F B l) (k : Keep2 T F H H') : TupK H H' := fun b xs h => by
  refine k b _ h (fun z => ?_) (fun z => ?_)
  · obtain ⟨ns, s, m, a, _⟩ := w.t
    rw [z, a.d] at h
    cases h
  · rw [z, w.f] at h
    cases h
structure Grow (mg : Str → Option Value) (K : PySem.W.Frag) (fD fS : Addr) (dD dS : FuncData) : Prop where
  gD : mg "_law_draw" = some (.ref fD)
  kD : PySem.W.keepIn K (.ref fD) = true
  bD : Binds K dD ["_law_tape_here", "_law_many"] []
  gS : mg "_law_saying" = some (.ref fS)
  kS : PySem.W.keepIn K (.ref fS) = true
  bS : Binds K dS ["_law_tape_here", "_law_names_here", "_law_left", "_law_deep"] []
  ml : mg "len" = none
  mmin : mg "min" = none
  mint : mg "int" = none
def spSay (n : Nat) : Sp := fun vs H Q _ => ∃ (T L N F : Addr) (ws : List Str) (l B : Int) (k : Nat), vs = [.ref T, .ref N, .ref F, .int (k : Nat)] ∧ k < n ∧ 1 ≤ k ∧ Two H T L F B l ∧ 0 ≤ l ∧ H N = some (.lst (ws.map V.str)) ∧ 0 < ws.length ∧ ws.length ≤ 12 ∧ (∀ z ∈ ws, z.length ≤ 8) ∧
  B + 33 * (1 + l) + 100 ≤ 1000000 ∧
  ∀ (H' : Hp) (a : Addr) (d : Sy) (l' : Int), 0 ≤ l' → l' ≤ l → Two H' T L F (B + 33 * (1 + l - l')) l' → Keep2 T F H H' → St H' (.ref a) d → d.dep ≤ k → (d.sz : Int) + l' ≤ 1 + l → (∀ z ∈ d.names, z ∈ ws) → Q (.ref a) H'
section
variable {P : Program} {w : World} {K : PySem.W.Frag} {mg : Str → Option Value} {base : Heap} {f fD : Addr} {fd dD : FuncData}
theorem ok_say {n : Nat} (F0 : FnP K "_law_saying" sSay f fd) (GD : FnOk P w K mg base CX0 11 fD dD ["_law_tape_here", "_law_many"] (spDraw 11)) (GR : FnOk P w K mg base CX0 (11 + n) f fd ["_law_tape_here", "_law_names_here", "_law_left", "_law_deep"] (spSay n)) (T0 : Grow mg K fD f dD fd) :
    FnOk P w K mg base CX0 (11 + n + 1) f fd ["_law_tape_here", "_law_names_here", "_law_left", "_law_deep"] (spSay (n + 1)) := by
  refine F0.ok scSay (fun vs H Q E h => ?_) (fun cdv A outer s H vs Q E hr h => ?_)
  · obtain ⟨T, L, N, F, ws, l, B, k, rfl, _⟩ := h
    rfl
  obtain ⟨T, L, N, F, ws, l, B, k, rfl, hk, hk1, hw, hl0, eN, hn0, hn12, hn8, hB, q⟩ := h
  have hr11 : Room 11 _ := hr.mono (by omega)
  refine ⟨_, PSs.nox (pss_cons (ps_set (i := 4) scSay.nd rfl (Or.inl rfl) (pe_call GD hr11 (by rfl) T0.gD T0.kD T0.bD .nil pass0 (pa_cons (pv 0) (pa_cons pe_int pa_nil))))
 (pss_cons (ps_if (PW.pt (pw_or (pt_cmpR op_lt (pe_ix ix_list (pv 2) pe_int (fun _ _ => rfl)) pe_int (nomark _)) (pw_or (pt_cmpR op_lt (pv 3) pe_int (nomark _)) (pw_or1 (pt_cmpR op_lt (pv 4) pe_int (nomark _))))))
 (pss_one (ps_ret (pe_ix ix_list (pe_lst (pa_cons (pe_tup (pa_cons pe_str pa_nil)) (pa_cons (pe_tup (pa_cons pe_str pa_nil)) (pa_cons (pe_tup (pa_cons pe_str (pa_cons (pe_ix ix_list (pv 1) (pe_call GD hr11 (by rfl) T0.gD T0.kD T0.bD .nil pass0 (pa_cons (pv 0) (pa_cons (pe_callB call_len_seq (by rfl) T0.ml PySem.boot_len (pa_cons (pv 1) pa_nil)) pa_nil))) (fun _ _ => rfl)) pa_nil))) pa_nil)))) (pe_callB (call_min2 rfl) (by rfl) T0.mmin (by decide +kernel) (pa_cons pe_int (pa_cons (pe_call GD hr11 (by rfl) T0.gD T0.kD T0.bD .nil pass0 (pa_cons (pv 0) (pa_cons pe_int pa_nil))) pa_nil))) (fun _ _ => rfl)))) pss_nil)
 (pss_cons (ps_asg (pe_op op_sub (pe_op op_sub (pe_ix ix_list (pv 2) pe_int (fun _ _ => rfl)) pe_int) (pe_callTy call_int1 (by rfl) T0.mint (by decide +kernel) (pa_cons (pe_cmpR op_gt (pv 4) pe_int (nomark _)) pa_nil))) (pg_sub (pv 2) pe_int set_list))
 (pss_cons (ps_if (pt_cmpR op_eq (pv 4) pe_int (nomark _))
 (pss_one (ps_ret (pe_tup (pa_cons pe_str (pa_cons (pe_call GR hr (by rfl) T0.gS T0.kS T0.bS .nil pass0 (pa_cons (pv 0) (pa_cons (pv 1) (pa_cons (pv 2) (pa_cons (pe_op op_sub (pv 3) pe_int) pa_nil))))) pa_nil))))) pss_nil)
 (pss_cons (ps_set (i := 5) scSay.nd rfl (Or.inl rfl) (pe_ix ix_list (pe_lst (pa_cons pe_str (pa_cons pe_str (pa_cons pe_str (pa_cons pe_str (pa_cons pe_str (pa_cons pe_str pa_nil))))))) (pe_op op_sub (pv 4) pe_int) (fun _ _ => rfl)))
 (pss_cons (ps_set (i := 6) scSay.nd rfl (Or.inl rfl) (pe_call GR hr (by rfl) T0.gS T0.kS T0.bS .nil pass0 (pa_cons (pv 0) (pa_cons (pv 1) (pa_cons (pv 2) (pa_cons (pe_op op_sub (pv 3) pe_int) pa_nil))))))
 (pss_one (ps_ret (pe_tup (pa_cons (pv 5) (pa_cons (pv 6) (pa_cons (pe_call GR hr (by rfl) T0.gS T0.kS T0.bS .nil pass0 (pa_cons (pv 0) (pa_cons (pv 1) (pa_cons (pv 2) (pa_cons (pe_op op_sub (pv 3) pe_int) pa_nil))))) pa_nil)))))))))))), ?_⟩
  have nF : F ≠ T := hw.nT
  have nN : N ≠ T := fun z => by
    obtain ⟨ns, s, m, a, _⟩ := hw.t
    rw [z, a.d] at eN
    cases eN
  refine ⟨_, rfl, T, L, 10, B, rfl, by decide, by decide, by omega, hw.t, fun H1 kd k0 k1 t1 kp1 => ?_⟩
  have eN1 := kp1 _ _ eN nN
  have eF1 := kp1 _ _ hw.f nF
  have w1 : Two H1 T L F (B + 11) l := ⟨t1, eF1, hw.ne⟩
  apply cutR
  case k =>
    intro leaf
    refine ⟨_, rfl, F, _, _, _, rfl, rfl, SqL.of eF1, at0, _, _, rfl, rfl, _, rfl, ite2 (fun _ => ?ka) (fun c1 => ⟨_, rfl, _, _, rfl, rfl, _, rfl, ite2 (fun _ => ?kb) (fun c2 => ⟨_, rfl, _, _, rfl, rfl, _, rfl, ite2 (fun _ => ?kc) (fun c3 => ?kd)⟩)⟩)⟩
    case kc => exact leaf
    case ka => exact iteT leaf
    case kb => exact iteT leaf
    case kd =>
      have d1 : ¬ l < 2 := of_decide_eq_false (Bool.eq_false_iff.mpr c1)
      have d2 : ¬ (k : Int) < 2 := of_decide_eq_false (Bool.eq_false_iff.mpr c2)
      have d3 : ¬ kd < 3 := of_decide_eq_false (Bool.eq_false_iff.mpr c3)
      obtain ⟨j, rfl⟩ : ∃ j, k = j + 1 := ⟨k - 1, by omega⟩
      -- left[0] = ..
      refine ⟨_, rfl, F, _, _, _, rfl, rfl, SqL.of eF1, at0, _, _, rfl, rfl, _, rfl, _, _, rfl, rfl, .inr ⟨_, rfl, _, _, rfl, rfl, ?_⟩⟩
      refine ⟨_, rfl, F, _, _, 0, rfl, rfl, eF1, rfl, ?_⟩
      have kp2 : Keep2 T F H (upd H1 F (.lst [.int (l - 1 - (if decide (3 < kd) = true then 1 else 0))])) := (Keep2.of kp1).trans Keep2.put
      have w2 : Two (upd H1 F (.lst [.int (l - 1 - (if decide (3 < kd) = true then 1 else 0))])) T L F (B + 11) (l - 1 - (if decide (3 < kd) = true then 1 else 0)) := ⟨t1.put nF hw.ne, upd_same, hw.ne⟩
      have nFN : N ≠ F := fun z => by
        rw [z, eF1] at eN1
        cases ws with
        | nil => exact absurd hn0 (by decide)
        | cons _ _ => cases eN1
      have eN2 : (upd H1 F (.lst [.int (l - 1 - (if decide (3 < kd) = true then 1 else 0))])) N = some (.lst (ws.map V.str)) := by
        rw [upd_ne nFN]
        exact eN1
      have ejj : ((j + 1 : Nat) : Int) - 1 = (j : Int) := by omega
      have eargs : [V.ref T, V.ref N, V.ref F, V.int (((j + 1 : Nat) : Int) - 1)] = [V.ref T, V.ref N, V.ref F, V.int (j : Int)] := by rw [ejj]
      rw [show ([V.int l].set 0 ((fun i j => V.int (i - j)) (l - 1) (if decide (3 < kd) = true then 1 else 0))) = [V.int (l - 1 - (if decide (3 < kd) = true then 1 else 0))] from rfl]
      by_cases h3 : kd = 3
      · have e3 : (if decide ((3 : Int) < kd) = true then (1 : Int) else 0) = 0 := by rw [if_neg]; rw [decide_eq_true_iff]; omega
        rw [e3] at kp2 w2 eN2
        rw [e3]
        have e4 : l - 1 - 0 = l - 1 := by omega
        rw [e4] at kp2 w2 eN2
        rw [e4]
        generalize upd H1 F (.lst [.int (l - 1)]) = H2 at kp2 w2 eN2 ⊢
        refine ⟨_, rfl, rfl, _, rfl, ?_⟩
        rw [decide_eq_true (by rw [h3])]
        refine iteT ?_
        refine ⟨_, rfl, _, rfl, _, rfl, _, rfl, _, _, rfl, rfl, T, L, N, F, ws, l - 1, B + 11, j, eargs, by omega, by omega, w2, by omega, eN2, hn0, hn12, hn8, by omega, fun H3 a d l' l0 l1 w3 k3 t3 f3 z3 m3 => ?_⟩
        refine ⟨(by show 2 ≤ sizeLine; decide), fun p np => ?_⟩
        have s4 := same_new np (.tup [.str "not", .ref a])
        refine q _ p (.nt d) l' l0 (by omega) ⟨(w3.t.same s4).more (by omega), s4 _ _ w3.f, hw.ne⟩ ((kp2.trans k3).trans (Keep2.same s4)) (.nt upd_same (st_keep (TupK.of s4) t3)) (Nat.succ_le_succ f3) ?_ m3
        show ((d.sz + 1 : Nat) : Int) + l' ≤ 1 + l
        omega
      · have e3 : (if decide ((3 : Int) < kd) = true then (1 : Int) else 0) = 1 := by rw [if_pos]; exact decide_eq_true (by omega)
        rw [e3] at kp2 w2 eN2
        rw [e3]
        have e4 : l - 1 - 1 = l - 2 := by omega
        rw [e4] at kp2 w2 eN2
        rw [e4]
        generalize upd H1 F (.lst [.int (l - 2)]) = H2 at kp2 w2 eN2 ⊢
        refine ⟨_, rfl, rfl, _, rfl, ?_⟩
        rw [decide_eq_false (fun z => h3 (V.int.inj z))]
        refine iteF ?_
        -- word
        refine ⟨(by show 6 ≤ sizeLine; decide), fun pw nw => ?_⟩
        have s3 := same_new nw (.lst [.str "and", .str "or", .str "if", .str "same", .str "and", .str "or"])
        have ew : (upd H2 pw (.lst [.str "and", .str "or", .str "if", .str "same", .str "and", .str "or"])) pw = some (.lst [.str "and", .str "or", .str "if", .str "same", .str "and", .str "or"]) := upd_same
        have hwd : ∃ x : B4, atI ([.str "and", .str "or", .str "if", .str "same", .str "and", .str "or"] : List V) (kd - 4) = some (.str x.s) := by
          have c6 : kd - 4 = 0 ∨ kd - 4 = 1 ∨ kd - 4 = 2 ∨ kd - 4 = 3 ∨ kd - 4 = 4 ∨ kd - 4 = 5 := by omega
          rcases c6 with h | h | h | h | h | h <;> rw [h]
          · exact ⟨.an, rfl⟩
          · exact ⟨.orr, rfl⟩
          · exact ⟨.iff, rfl⟩
          · exact ⟨.sm, rfl⟩
          · exact ⟨.an, rfl⟩
          · exact ⟨.orr, rfl⟩
        obtain ⟨x, hx⟩ := hwd
        have w3 : Two (upd H2 pw (.lst [.str "and", .str "or", .str "if", .str "same", .str "and", .str "or"])) T L F (B + 11) (l - 2) := ⟨w2.t.same s3, s3 _ _ w2.f, hw.ne⟩
        have kp3 := kp2.trans (Keep2.same (T := T) (F := F) s3)
        have eN3 := s3 _ _ eN2
        generalize upd H2 pw (.lst [.str "and", .str "or", .str "if", .str "same", .str "and", .str "or"]) = H3 at ew w3 kp3 eN3 ⊢
        refine ⟨_, rfl, _, _, rfl, rfl, pw, _, _, _, rfl, rfl, SqL.of ew, hx, ?_⟩
        -- the first
        refine ⟨_, rfl, _, rfl, _, rfl, _, rfl, _, _, rfl, rfl, T, L, N, F, ws, l - 2, B + 11, j, eargs, by omega, by omega, w3, by omega, eN3, hn0, hn12, hn8, by omega, fun H4 a d l' l0 l1 w4 k4 t4 f4 z4 m4 => ?_⟩
        have eN4 := k4 _ _ eN3 nN nFN
        -- the second
        refine ⟨_, rfl, _, rfl, _, rfl, _, rfl, _, rfl, _, rfl, _, _, rfl, rfl, T, L, N, F, ws, l', B + 11 + 33 * (1 + (l - 2) - l'), j, eargs, by omega, by omega, w4, by omega, eN4, hn0, hn12, hn8, by omega, fun H5 a' d' l2 l20 l21 w5 k5 t5 f5 z5 m5 => ?_⟩
        refine ⟨(by show 3 ≤ sizeLine; decide), fun p np => ?_⟩
        have s6 := same_new np (.tup [.str x.s, .ref a, .ref a'])
        refine q _ p (.bi x d d') l2 l20 (by omega) ⟨(w5.t.same s6).more (by omega), s6 _ _ w5.f, hw.ne⟩ (((kp3.trans k4).trans k5).trans (Keep2.same s6))
          (.bi x upd_same (st_keep ((w4.tup k5).trans (TupK.of s6)) t4) (st_keep (TupK.of s6) t5)) (Nat.succ_le_succ (Nat.max_le.mpr ⟨f4, f5⟩)) ?_ (fun z hz => ?_)
        · show ((d.sz + d'.sz + 1 : Nat) : Int) + l2 ≤ 1 + l
          omega
        · rcases List.mem_append.mp hz with h | h
          · exact m4 z h
          · exact m5 z h
  -- a leaf
  refine ⟨(by show 1 ≤ sizeLine; decide), fun a1 n1 => ⟨(by show 1 ≤ sizeLine; decide), fun a2 n2 => ?_⟩⟩
  have s2 := same_new n1 (.tup [.str "yes"])
  have s3 := same_new n2 (.tup [.str "no"])
  have g1 := s3 _ _ (upd_same : (upd H1 a1 (.tup [.str "yes"])) a1 = some (.tup [.str "yes"]))
  have g2 : (upd (upd H1 a1 (.tup [.str "yes"])) a2 (.tup [.str "no"])) a2 = some (.tup [.str "no"]) := upd_same
  have s23 := s2.trans s3
  generalize (upd (upd H1 a1 (.tup [.str "yes"])) a2 (.tup [.str "no"])) = H3 at s23 g1 g2 ⊢
  have eN3 := s23 _ _ eN1
  have hlw : (((ws.map V.str).length : Nat) : Int) = (ws.length : Int) := by rw [List.length_map]
  refine ⟨_, rfl, _, rfl, _, rfl, N, _, rfl, .inl (SqL.of eN3), T, L, _, B + 11, rfl, by rw [hlw]; omega, Nat.lt_of_le_of_lt (show _ ≤ 12 by rw [hlw]; omega) (by decide), by omega, t1.same s23, fun H4 r r0 r1 t4 k4 => ?_⟩
  have eN4 := k4 _ _ eN3 nN
  obtain ⟨v, hv1, hv2⟩ := at_in (xs := ws.map V.str) r0 r1
  obtain ⟨z, hz, rfl⟩ := List.mem_map.mp hv1
  have g14 := k4 _ _ g1 (fun e => by rw [e] at g1; obtain ⟨ns, s, m, a, _⟩ := t1.same s23; rw [a.d] at g1; cases g1)
  have g24 := k4 _ _ g2 (fun e => by rw [e] at g2; obtain ⟨ns, s, m, a, _⟩ := t1.same s23; rw [a.d] at g2; cases g2)
  refine ⟨N, _, _, _, rfl, rfl, SqL.of eN4, hv2, (by show 2 ≤ sizeLine; decide), fun a3 n3 => ⟨(by show 3 ≤ sizeLine; decide), fun p np => ?_⟩⟩
  have s5 := same_new n3 (.tup [.str "name", .str z])
  have s6 := same_new np (.lst [.ref a1, .ref a2, .ref a3])
  have g36 := s6 _ _ (upd_same : (upd H4 a3 (.tup [.str "name", .str z])) a3 = some (.tup [.str "name", .str z]))
  have g16 := s6 _ _ (s5 _ _ g14)
  have g26 := s6 _ _ (s5 _ _ g24)
  have gp : (upd (upd H4 a3 (.tup [.str "name", .str z])) p (.lst [.ref a1, .ref a2, .ref a3])) p = some (.lst [.ref a1, .ref a2, .ref a3]) := upd_same
  have s56 := s5.trans s6
  generalize (upd (upd H4 a3 (.tup [.str "name", .str z])) p (.lst [.ref a1, .ref a2, .ref a3])) = H5 at s56 g16 g26 g36 gp ⊢
  have t5 := t4.same s56
  refine ⟨_, rfl, T, L, 12, _, rfl, by decide, by decide, by omega, t5, fun H6 r2 r20 r21 t6 k6 => ?_⟩
  have pT : p ≠ T := fun e => by rw [e] at gp; obtain ⟨ns, s, m, a, _⟩ := t5; rw [a.d] at gp; cases gp
  have nT : ∀ {b : Addr} {xs : List V}, H5 b = some (.tup xs) → b ≠ T := fun {b xs} g e => by rw [e] at g; obtain ⟨ns, s, m, a, _⟩ := t5; rw [a.d] at g; cases g
  have pick : ∃ a d, atI ([.ref a1, .ref a2, .ref a3] : List V) (if r2 < 2 then r2 else 2) = some (.ref a) ∧ St H6 (.ref a) d ∧ d.dep ≤ 1 ∧ d.sz = 1 ∧ ∀ y ∈ d.names, y ∈ ws := by
    have c3 : r2 = 0 ∨ r2 = 1 ∨ 2 ≤ r2 := by omega
    rcases c3 with h | h | h
    · subst h
      exact ⟨a1, _, rfl, .yes (k6 _ _ g16 (nT g16)), Nat.le_refl _, rfl, fun y hy => by cases hy⟩
    · subst h
      exact ⟨a2, _, rfl, .no (k6 _ _ g26 (nT g26)), Nat.le_refl _, rfl, fun y hy => by cases hy⟩
    · rw [if_neg (by omega)]
      refine ⟨a3, _, rfl, .nm z (k6 _ _ g36 (nT g36)), Nat.le_refl _, rfl, fun y hy => ?_⟩
      rw [List.mem_singleton.mp hy]
      exact hz
  obtain ⟨a, d, ha, hd, hf, hsz, hnm⟩ := pick
  refine ⟨2, r2, rfl, p, _, _, _, rfl, rfl, SqL.of (k6 _ _ gp pT), ha, ?_⟩
  have kA : Keep T H H6 := (((kp1.trans (Keep.of s23)).trans k4).trans (Keep.of s56)).trans k6
  exact q H6 a d l hl0 (Int.le_refl _) ⟨t6.more (by omega), kA _ _ hw.f nF, hw.ne⟩ (Keep2.of kA) hd (Nat.le_trans hf hk1) (by omega) hnm
theorem no_say : FnOk P w K mg base CX0 11 f fd ["_law_tape_here", "_law_names_here", "_law_left", "_law_deep"] (spSay 0) := by
  have no : ∀ vs H Q E, ¬ spSay 0 vs H Q E := fun vs H Q E h => by
    obtain ⟨T, L, N, F, ws, l, B, k, _, h1, _⟩ := h
    omega
  exact ⟨fun vs H Q E h => absurd h (no vs H Q E), fun A outer s H args us vs Q E _ _ _ _ h => absurd h (no vs H Q E)⟩
theorem all_say (F0 : FnP K "_law_saying" sSay f fd) (GD : FnOk P w K mg base CX0 11 fD dD ["_law_tape_here", "_law_many"] (spDraw 11)) (T0 : Grow mg K fD f dD fd) :
    ∀ n : Nat, FnOk P w K mg base CX0 (11 + n) f fd ["_law_tape_here", "_law_names_here", "_law_left", "_law_deep"] (spSay n)
  | 0 => no_say
  | n + 1 => ok_say F0 GD (all_say F0 GD T0 n) T0
end
end My

set_option maxRecDepth 100000
set_option maxHeartbeats 4000000
namespace My
open PySem PySem.Spec PyProof.Rows L2
abbrev sParts : Stmt := top 5
abbrev sNames : Stmt := top 6
theorem scParts : FnScope ["saying"] ["saying"] (defScope sParts) := ⟨rfl, rfl, rfl, by decide +kernel, rfl, by decide +kernel, by decide +kernel⟩
theorem scNames : FnScope ["saying", "found", "waiting", "part"] ["saying"] (defScope sNames) := ⟨rfl, rfl, rfl, by decide +kernel, rfl, by decide +kernel, by decide +kernel⟩
/-! ### sorted lists of texts are alike where their members are -/
theorem rising_pw : ∀ (x : Str) (l : List Str), risingS x l = true → (x :: l).Pairwise (fun a b => a.cps.toList ≤ b.cps.toList)
  | x, [], _ => List.pairwise_singleton _ _
  | x, y :: r, h => by
    have h2 : (!ltCps y.cps.toList x.cps.toList && risingS y r) = true := h
    rw [Bool.and_eq_true] at h2
    have i := rising_pw y r h2.2
    have xy : x.cps.toList ≤ y.cps.toList := by
      have e := h2.1
      rw [ltCps_eq] at e
      have e2 : ¬ y.cps.toList < x.cps.toList := by simpa using e
      exact e2
    refine List.pairwise_cons.mpr ⟨fun z hz => ?_, i⟩
    rcases List.mem_cons.mp hz with rfl | hz
    · exact xy
    · exact List.le_trans xy ((List.pairwise_cons.mp i).1 z hz)
theorem sorted_pw {l : List Str} (h : sortedS l = true) : l.Pairwise (fun a b => a.cps.toList ≤ b.cps.toList) := by
  cases l with
  | nil => exact List.Pairwise.nil
  | cons x r => exact rising_pw x r h
theorem str_ext {a b : Str} (h : a.cps.toList = b.cps.toList) : a = b := by
  obtain ⟨x⟩ := a
  obtain ⟨y⟩ := b
  have e : x = y := Array.toList_inj.mp h
  rw [e]
theorem sorted_alike {l m : List Str} (hl : sortedS l = true) (hm : sortedS m = true) (nl : l.Nodup) (nm : m.Nodup) (h : ∀ z, z ∈ l ↔ z ∈ m) : l = m :=
  List.Perm.eq_of_pairwise (fun a b _ _ h1 h2 => str_ext (List.le_antisymm h1 h2)) (sorted_pw hl) (sorted_pw hm) ((List.perm_ext_iff_of_nodup nl nm).mpr h)
/-! ### the names found so far -/
def kT (ks : List Str) : List (Key × V) := ks.map fun k => (Sum.inr k, .bl true)
theorem kT_any (ks : List Str) (k : Str) : ((kT ks).any fun kv => decide (kv.1 = (Sum.inr k : Key))) = decide (k ∈ ks) := by
  induction ks with
  | nil => rfl
  | cons x r ih =>
    have e : kT (x :: r) = ((Sum.inr x : Key), V.bl true) :: kT r := rfl
    rw [e, List.any_cons, ih]
    by_cases h : x = k
    · subst h
      rw [decide_eq_true rfl, Bool.true_or]
      exact (decide_eq_true List.mem_cons_self).symm
    · have h1 : ¬ ((Sum.inr x : Key) = Sum.inr k) := fun z => h (Sum.inr.inj z)
      rw [decide_eq_false h1, Bool.false_or]
      refine decide_eq_decide.mpr ⟨List.mem_cons_of_mem _, fun z => ?_⟩
      rcases List.mem_cons.mp z with z | z
      · exact absurd z.symm h
      · exact z
theorem kT_put (ks : List Str) (k : Str) : putK (kT ks) (Sum.inr k) (.bl true) = kT (if k ∈ ks then ks else ks ++ [k]) := by
  unfold putK
  rw [kT_any]
  by_cases h : k ∈ ks
  · rw [if_pos (decide_eq_true h), if_pos h]
    unfold kT
    rw [List.map_map]
    refine List.map_congr_left fun x _ => ?_
    show (if (Sum.inr x : Key) = Sum.inr k then ((Sum.inr x : Key), V.bl true) else (Sum.inr x, V.bl true)) = (Sum.inr x, V.bl true)
    split <;> rfl
  · rw [if_neg (by rw [decide_eq_false h]; decide), if_neg h]
    unfold kT
    rw [List.map_append]
    rfl
def spParts (K : PySem.W.Frag) : Sp := fun vs H Q _ => ∃ (a : Addr) (x : Str) (xs : List V), vs = [.ref a] ∧ SqT K H a (.str x :: xs) ∧ xs.length ≤ 1000 ∧ ∀ (H' : Hp) (p : Addr), Same H H' → SqT K H' p (if x = "name" then [] else xs) → Q (.ref p) H'
/-- what stands below a saying, its word -/
def Sy.word : Sy → Str
  | .yes => "yes"
  | .no => "no"
  | .nm _ => "name"
  | .nt _ => "not"
  | .bi k _ _ => k.s
def Sy.kids : Sy → List Sy
  | .nt a => [a]
  | .bi _ a b => [a, b]
  | _ => []
theorem B4.nn (k : B4) : k.s ≠ "name" := by cases k <;> decide
theorem st_open {H : Hp} {v : V} {s : Sy} (h : St H v s) : ∃ (a : Addr) (xs : List V), v = .ref a ∧ H a = some (.tup (.str s.word :: xs)) ∧ xs.length ≤ 2 ∧ Paired (St H) (if s.word = "name" then [] else xs) s.kids := by
  cases h with
  | yes h => exact ⟨_, _, rfl, h, by decide, .nil⟩
  | no h => exact ⟨_, _, rfl, h, by decide, .nil⟩
  | nm x h => exact ⟨_, _, rfl, h, by show 1 ≤ 2; decide, .nil⟩
  | nt h i => exact ⟨_, _, rfl, h, by show 1 ≤ 2; decide, .cons i .nil⟩
  | bi k h i j =>
    refine ⟨_, _, rfl, h, by show 2 ≤ 2; decide, ?_⟩
    rw [if_neg (show ¬ (Sy.bi k _ _).word = "name" from B4.nn k)]
    exact .cons i (.cons j .nil)
theorem kids_len (s : Sy) : s.kids.length ≤ 2 := by cases s <;> simp [Sy.kids]
def szs (S : List Sy) : Nat := (S.map Sy.sz).sum
theorem szs_kids (s : Sy) : szs s.kids + 1 = s.sz := by cases s <;> simp [szs, Sy.kids, Sy.sz]
theorem szs_app (S S' : List Sy) : szs (S ++ S') = szs S + szs S' := by unfold szs; rw [List.map_append, List.sum_append]
def nmsAll (S : List Sy) : List Str := S.flatMap Sy.names
theorem nms_kids {s : Sy} (h : s.word ≠ "name") : nmsAll s.kids = s.names := by
  cases s with
  | nm x => exact absurd rfl h
  | yes => rfl
  | no => rfl
  | nt a => simp [nmsAll, Sy.kids, Sy.names]
  | bi k a b => simp [nmsAll, Sy.kids, Sy.names]
theorem paired_last {α β : Type} {F : α → β → Prop} : ∀ {m : List β} {b : β} {l : List α}, Paired F l (m ++ [b]) → ∃ l0 a, l = l0 ++ [a] ∧ Paired F l0 m ∧ F a b
  | [], b, _, h => by
    cases h with
    | cons x r =>
      cases r
      exact ⟨[], _, rfl, .nil, x⟩
  | c :: m, b, _, h => by
    cases h with
    | cons x r =>
      obtain ⟨l0, a, e, p, q⟩ := paired_last r
      exact ⟨_ :: l0, a, by rw [e]; rfl, .cons x p, q⟩
theorem paired_app {α β : Type} {F : α → β → Prop} : ∀ {l : List α} {m : List β} {l2 : List α} {m2 : List β}, Paired F l m → Paired F l2 m2 → Paired F (l ++ l2) (m ++ m2)
  | _, _, _, _, .nil, h => h
  | _, _, _, _, .cons x r, h => .cons x (paired_app r h)
theorem paired_imp {α β : Type} {F G : α → β → Prop} (h : ∀ a b, F a b → G a b) : ∀ {l : List α} {m : List β}, Paired F l m → Paired G l m
  | _, _, .nil => .nil
  | _, _, .cons x r => .cons (h _ _ x) (paired_imp h r)
theorem paired_len {α β : Type} {F : α → β → Prop} : ∀ {l : List α} {m : List β}, Paired F l m → l.length = m.length
  | _, _, .nil => rfl
  | _, _, .cons _ r => congrArg Nat.succ (paired_len r)
structure Nm (mg : Str → Option Value) (K : PySem.W.Frag) (fP : Addr) (dP : FuncData) : Prop where
  gP : mg "parts_of" = some (.ref fP)
  kP : PySem.W.keepIn K (.ref fP) = true
  bP : Binds K dP ["saying"] []
  msorted : mg "sorted" = none
def spNames : Sp := fun vs H Q _ => ∃ (v : V) (s : Sy), vs = [v] ∧ St H v s ∧ s.sz < 64 ∧ ∀ (H' : Hp) (p : Addr) (ys : List Str), Same H H' → H p = none → H' p = some (.lst (ys.map V.str)) → sortedS ys = true → ys.Nodup → (∀ z, z ∈ ys ↔ z ∈ s.names) → Q (.ref p) H'
section
variable {P : Program} {w : World} {K : PySem.W.Frag} {mg : Str → Option Value} {base : Heap} {f fP : Addr} {fd dP : FuncData}
theorem ok_parts {k : Nat} (F : FnP K "parts_of" sParts f fd) : FnOk P w K mg base CX0 (k + 1) f fd ["saying"] (spParts K) := by
  refine F.ok scParts (fun vs H Q E h => ?_) (fun cdv A outer s H vs Q E hr h => ?_)
  · obtain ⟨a, x, xs, rfl, _⟩ := h
    rfl
  obtain ⟨a, x, xs, rfl, ha, hl, q⟩ := h
  refine ⟨_, PSs.nox (pss_cons (ps_if (pt_cmpR op_eq (pe_ix ix_tup (pv 0) pe_int (fun _ _ => rfl)) pe_str (nomark _))
 (pss_one (ps_ret (pe_tup pa_nil))) pss_nil)
 (pss_one (ps_ret (pe_slice sl_tupA (pv 0) (po_some pe_int) po_none)))), ?_⟩
  refine ⟨_, rfl, a, _, _, _, rfl, rfl, ha, at0, rfl, _, rfl, ?_⟩
  refine ite2 (fun c => ?_) (fun c => ?_)
  · have ex : x = "name" := V.str.inj (of_decide_eq_true c)
    refine ⟨Nat.zero_le _, fun p np => q _ p (same_new np _) ?_⟩
    rw [if_pos ex]
    exact .inl (.inl upd_same)
  · have ex : ¬ x = "name" := fun z => c (decide_eq_true (by rw [z]))
    refine ⟨_, rfl, 1, rfl, a, _, rfl, ha, fun z => ?_, fun _ p np => q _ p (same_new np _) ?_⟩
    · have z1 := z.1
      rw [show HT.sIx (V.str x :: xs).length 0 (some 1) = min 1 (V.str x :: xs).length from HT.sIx_nat _ _ 1, List.length_cons] at z1
      omega
    · rw [if_neg ex]
      have e : cutV (V.str x :: xs) (some 1) none = xs := by
        unfold cutV
        rw [show HT.sIx (V.str x :: xs).length 0 (some 1) = min 1 (V.str x :: xs).length from HT.sIx_nat _ _ 1, HT.sIx_none, List.length_cons]
        have e1 : min 1 (xs.length + 1) = 1 := by omega
        rw [e1]
        show List.take (xs.length + 1 - 1) xs = xs
        rw [Nat.add_sub_cancel]
        exact List.take_length
      rw [e]
      exact .inl (.inl upd_same)
theorem ok_names (F : FnP K "names_of" sNames f fd) (GP : FnOk P w K mg base CX0 1 fP dP ["saying"] (spParts K)) (T0 : Nm mg K fP dP) : FnOk P w K mg base CX0 2 f fd ["saying"] spNames := by
  refine F.ok scNames (fun vs H Q E h => ?_) (fun cdv A outer s H vs Q E hr1 h => ?_)
  · obtain ⟨v, sy, rfl, _⟩ := h
    rfl
  obtain ⟨v, sy, rfl, hst, hsz, q⟩ := h
  have hu := hu_of hr1
  refine ⟨_, PSs.nox (pss_cons (ps_set (i := 1) scNames.nd rfl (Or.inl rfl) pe_dnewK)
 (pss_cons (ps_set (i := 2) scNames.nd rfl (Or.inl rfl) (pe_lst (pa_cons (pv 0) pa_nil)))
 (pss_cons (ps_while PassesOwn.never (pt_truth (pv 2) (by intro _; rfl))
 (pss_cons (ps_set (i := 3) scNames.nd rfl (Or.inl rfl) (pe_bm0 PySem.F.plainAttrs_list PySem.F.slot_list_pop PySem.F.type_list_pop mt_pop (pv 2)))
 (pss_cons (ps_if (pt_cmpR op_eq (pe_ix ix_tup (pv 3) pe_int (fun _ _ => rfl)) pe_str (nomark _))
 (pss_one (ps_dput hu (pv 1) (pe_ix ix_tup (pv 3) pe_int (fun _ _ => rfl)) pe_bl rfl)) pss_nil)
 (pss_one (ps_expr (pe_bm PySem.F.plainAttrs_list PySem.F.slot_list_extend PySem.F.type_list_extend mt_extendT (pv 2) (pa_cons (pe_call GP hr1 (by rfl) T0.gP T0.kP T0.bP .nil pass0 (pa_cons (pv 3) pa_nil)) pa_nil)))))))
 (pss_one (ps_ret (pe_callB (call_sortedD rfl) (by rfl) T0.msorted (by decide +kernel) (pa_cons (pv 1) pa_nil))))))), ?_⟩
  intro d nd
  have sd := same_new nd (.dK [])
  have ed : (upd H d (.dK [])) d = some (.dK (kT [])) := upd_same
  generalize upd H d (.dK []) = H1 at sd ed ⊢
  refine ⟨_, rfl, (by show 1 ≤ sizeLine; decide), fun p np => ?_⟩
  have s2 := same_new np (.lst [v])
  have np0 : H p = none := sd.free np
  have pd : p ≠ d := fun z => by
    rw [z, ed] at np
    cases np
  refine ⟨fun m σ H' => ∃ (S : List Sy) (ws : List V) (ks : List Str) (pt : Option V), m = szs S ∧ σ = [some v, some (.ref d), some (.ref p), pt] ∧ H' p = some (.lst ws) ∧ H' d = some (.dK (kT ks)) ∧ Paired (St H') ws S ∧ Same H H' ∧ ks.Nodup ∧ ks.length + szs S ≤ sy.sz ∧ ∀ z, (z ∈ ks ∨ z ∈ nmsAll S) ↔ z ∈ sy.names,
    ⟨_, [sy], [v], [], none, rfl, rfl, upd_same, s2 _ _ ed, .cons (st_keep (TupK.of (sd.trans s2)) hst) .nil, sd.trans s2, List.nodup_nil, ?_, fun z => ?_⟩, ?_⟩
  · show 0 + (sy.sz + 0) ≤ sy.sz
    omega
  · simp [nmsAll]
  rintro m σ H2 ⟨S, ws, ks, pt, rfl, rfl, eP, eD, hP, sm, nk, hn, hm⟩
  refine ⟨_, rfl, !ws.isEmpty, .inl ⟨ws, SqL.of eP, rfl⟩, ?_⟩
  rcases List.eq_nil_or_concat S with rfl | ⟨S0, s1, rfl⟩
  · cases hP
    refine iteF ?_
    refine ⟨_, rfl, d, kT ks, ks, rfl, .of eD, ?_, ?_, fun ys r pm so nr => ?_⟩
    · unfold kT
      rw [List.map_map]
      rfl
    · have : szs [] = 0 := rfl
      omega
    · refine q _ r ys (sm.trans (same_new nr _)) (sm.free nr) upd_same so (pm.nodup_iff.mpr nk) (fun z => ?_)
      rw [pm.mem_iff, ← hm z]
      exact ⟨.inl, fun y => y.elim id (fun y => by cases y)⟩
  rw [List.concat_eq_append] at hP hn hm
  obtain ⟨ws0, wv, rfl, hP0, h1⟩ := paired_last hP
  have te : (!(ws0 ++ [wv]).isEmpty) = true := by simp
  rw [te]
  refine iteT ?_
  rw [List.concat_eq_append]
  refine ⟨fun σ' H' => ∃ m', m' < szs (S0 ++ [s1]) ∧ ∃ (S : List Sy) (ws : List V) (ks : List Str) (pt : Option V), m' = szs S ∧ σ' = [some v, some (.ref d), some (.ref p), pt] ∧ H' p = some (.lst ws) ∧ H' d = some (.dK (kT ks)) ∧ Paired (St H') ws S ∧ Same H H' ∧ ks.Nodup ∧ ks.length + szs S ≤ sy.sz ∧ ∀ z, (z ∈ ks ∨ z ∈ nmsAll S) ↔ z ∈ sy.names, fun _ _ z => z, ?_⟩
  have hlast : (ws0 ++ [wv])[(ws0 ++ [wv]).length - 1]? = some wv := by simp
  refine ⟨_, rfl, .inl ⟨rfl, _, SqL.of eP⟩, p, _, _, rfl, rfl, eP, hlast, ?_⟩
  have edl : (ws0 ++ [wv]).dropLast = ws0 := by simp
  rw [edl]
  have k2 : ∀ b o, H2 b = some o → b ≠ p → (upd H2 p (.lst ws0)) b = some o := fun b o h n => by rw [upd_ne n]; exact h
  have sm2 : Same H (upd H2 p (.lst ws0)) := fun b o h => k2 b o (sm _ _ h) (ne_of_none h np0)
  have tk2 : TupK H2 (upd H2 p (.lst ws0)) := TupK.put eP
  have eP2 : (upd H2 p (.lst ws0)) p = some (.lst ws0) := upd_same
  have eD2 := k2 _ _ eD (fun z => pd z.symm)
  have hP2 := paired_imp (fun _ _ h => st_keep tk2 h) hP0
  have h2 := st_keep tk2 h1
  generalize upd H2 p (.lst ws0) = H3 at sm2 tk2 eP2 eD2 hP2 h2 ⊢
  obtain ⟨a, xs, rfl, ea, hx2, hk⟩ := st_open h2
  have ha : SqT K H3 a (.str s1.word :: xs) := .inl (.inl ea)
  have hcnt : szs (S0 ++ [s1]) = szs S0 + s1.sz := by rw [szs_app]; simp [szs]
  have hkid := szs_kids s1
  rw [hcnt] at hn
  have hw64 : ws0.length ≤ 64 := by
    have e1 := paired_len hP2
    have : ∀ S : List Sy, S.length ≤ szs S := fun S => by
      induction S with
      | nil => exact Nat.le_refl _
      | cons x r ih =>
        have := x.pos
        show r.length + 1 ≤ x.sz + szs r
        omega
    have := this S0
    omega
  have hmz : ∀ z, (z ∈ ks ∨ z ∈ nmsAll S0 ∨ z ∈ s1.names) ↔ z ∈ sy.names := fun z => by
    rw [← hm z]
    unfold nmsAll
    rw [List.flatMap_append, List.mem_append]
    simp
  refine ⟨_, rfl, a, _, _, _, rfl, rfl, ha, at0, rfl, _, rfl, ite2 (fun c => ?_) (fun c => ?_)⟩
  · have ew : s1.word = "name" := V.str.inj (of_decide_eq_true c)
    obtain ⟨x, rfl⟩ : ∃ x, s1 = .nm x := by
      cases s1 with
      | nm x => exact ⟨x, rfl⟩
      | yes => exact absurd ew (by decide)
      | no => exact absurd ew (by decide)
      | nt a => exact absurd ew (by show ¬ ("not" : Str) = "name"; decide)
      | bi k a b => exact absurd ew (B4.nn k)
    obtain rfl : xs = [.str x] := by
      cases h2 with
      | nm _ h =>
        rw [ea] at h
        have := Option.some.inj h
        injection this with this
        injection this
    have hdp := DPut.k (k := (Sum.inr x : Key)) (v := .bl true) eD2 (by show (kT ks).length < _; unfold kT; rw [List.length_map]; exact small1000 (by omega))
    rw [kT_put] at hdp
    refine ⟨_, rfl, _, rfl, a, _, _, _, rfl, rfl, ha, at1, d, _, rfl, hdp, ?_⟩
    have eP4 : (upd H3 d (.dK (kT (if x ∈ ks then ks else ks ++ [x])))) p = some (.lst ws0) := by
      rw [upd_ne pd]
      exact eP2
    have eD4 : (upd H3 d (.dK (kT (if x ∈ ks then ks else ks ++ [x])))) d = some (.dK (kT (if x ∈ ks then ks else ks ++ [x]))) := upd_same
    have tk4 : TupK H3 (upd H3 d (.dK (kT (if x ∈ ks then ks else ks ++ [x])))) := TupK.putD eD2
    have sm4 : Same H (upd H3 d (.dK (kT (if x ∈ ks then ks else ks ++ [x])))) := fun b o h => by
      rw [upd_ne (ne_of_none h nd)]
      exact sm2 _ _ h
    have hP4 := paired_imp (fun _ _ h => st_keep tk4 h) hP2
    have ha4 : SqT K (upd H3 d (.dK (kT (if x ∈ ks then ks else ks ++ [x])))) a (.str (Sy.nm x).word :: [.str x]) := .inl (.inl (tk4 _ _ ea))
    have nk4 : (if x ∈ ks then ks else ks ++ [x]).Nodup := by
      split
      · exact nk
      · rename_i h
        exact List.nodup_append.mpr ⟨nk, List.nodup_cons.mpr ⟨by simp, List.nodup_nil⟩, fun a ha b hb => by
          rw [List.mem_singleton.mp hb]
          exact fun e => h (e ▸ ha)⟩
    have ln4 : (if x ∈ ks then ks else ks ++ [x]).length ≤ ks.length + 1 := by
      split
      · omega
      · rw [List.length_append]
        exact Nat.le_refl _
    have hm4 : ∀ z, (z ∈ (if x ∈ ks then ks else ks ++ [x]) ∨ z ∈ nmsAll (S0 ++ (Sy.nm x).kids)) ↔ z ∈ sy.names := fun z => by
      rw [← hmz z]
      have e1 : z ∈ (Sy.nm x).names ↔ z = x := List.mem_singleton
      have e2 : nmsAll (S0 ++ (Sy.nm x).kids) = nmsAll S0 := by show nmsAll (S0 ++ []) = _; rw [List.append_nil]
      rw [e1, e2]
      split
      · rename_i h
        exact ⟨fun y => y.elim .inl fun y => .inr (.inl y), fun y => y.elim .inl fun y => y.elim .inr fun y => .inl (y ▸ h)⟩
      · rw [List.mem_append, List.mem_singleton]
        exact ⟨fun y => y.elim (fun y => y.elim .inl fun y => .inr (.inr y)) fun y => .inr (.inl y), fun y => y.elim (fun y => .inl (.inl y)) fun y => y.elim .inr fun y => .inl (.inr y)⟩
    generalize (if x ∈ ks then ks else ks ++ [x]) = ks4 at eP4 eD4 tk4 sm4 hP4 ha4 nk4 ln4 hm4 ⊢
    generalize upd H3 d (.dK (kT ks4)) = H4 at eP4 eD4 tk4 sm4 hP4 ha4 ⊢
    refine ⟨_, rfl, .inl ⟨rfl, _, SqL.of eP4⟩, ?_⟩
    refine ⟨_, rfl, a, _, [V.str x], rfl, ha4, (by show 1 ≤ 1000; decide), fun H5 pp s5 e5 => ?_⟩
    have eP5 := s5 _ _ eP4
    have kid5 := paired_imp (fun _ _ h => st_keep (tk4.trans (TupK.of s5)) h) hk
    have hP5 := paired_imp (fun _ _ h => st_keep (TupK.of s5) h) hP4
    have lk := paired_len kid5
    have lk2 := kids_len (Sy.nm x)
    generalize (if (Sy.nm x).word = "name" then [] else [V.str x]) = ys at e5 kid5 lk
    refine ⟨p, pp, _, _, rfl, rfl, eP5, e5, small (by omega), ?_⟩
    refine ⟨szs (S0 ++ (Sy.nm x).kids), by rw [szs_app, hcnt]; omega, S0 ++ (Sy.nm x).kids, ws0 ++ ys, ks4, _, rfl, rfl, upd_same, ?_, ?_, ?_, nk4, by rw [szs_app]; omega, hm4⟩
    · rw [upd_ne (fun z => pd z.symm)]
      exact s5 _ _ eD4
    · exact paired_app (paired_imp (fun _ _ h => st_keep (TupK.put eP5) h) hP5) (paired_imp (fun _ _ h => st_keep (TupK.put eP5) h) kid5)
    · intro b o h
      rw [upd_ne (ne_of_none h np0)]
      exact s5 _ _ (sm4 _ _ h)
  · have ew : s1.word ≠ "name" := fun z => c (decide_eq_true (by rw [z]))
    have eP4 := eP2
    have eD4 := eD2
    have tk4 : TupK H3 H3 := fun _ _ h => h
    have sm4 := sm2
    have hP4 := hP2
    have ha4 := ha
    have nk4 := nk
    have hm4 : ∀ z, (z ∈ ks ∨ z ∈ nmsAll (S0 ++ s1.kids)) ↔ z ∈ sy.names := fun z => by
      rw [← hmz z, ← nms_kids ew]
      unfold nmsAll
      rw [List.flatMap_append, List.mem_append]
    have ln4 : ks.length ≤ ks.length + 1 := Nat.le_succ _
    refine ⟨_, rfl, .inl ⟨rfl, _, SqL.of eP4⟩, ?_⟩
    refine ⟨_, rfl, a, _, xs, rfl, ha4, (by omega), fun H5 pp s5 e5 => ?_⟩
    have eP5 := s5 _ _ eP4
    have kid5 := paired_imp (fun _ _ h => st_keep (tk4.trans (TupK.of s5)) h) hk
    have hP5 := paired_imp (fun _ _ h => st_keep (TupK.of s5) h) hP4
    have lk := paired_len kid5
    have lk2 := kids_len s1
    generalize (if (s1).word = "name" then [] else xs) = ys at e5 kid5 lk
    refine ⟨p, pp, _, _, rfl, rfl, eP5, e5, small (by omega), ?_⟩
    refine ⟨szs (S0 ++ s1.kids), by rw [szs_app, hcnt]; omega, S0 ++ s1.kids, ws0 ++ ys, ks, _, rfl, rfl, upd_same, ?_, ?_, ?_, nk4, by rw [szs_app]; omega, hm4⟩
    · rw [upd_ne (fun z => pd z.symm)]
      exact s5 _ _ eD4
    · exact paired_app (paired_imp (fun _ _ h => st_keep (TupK.put eP5) h) hP5) (paired_imp (fun _ _ h => st_keep (TupK.put eP5) h) kid5)
    · intro b o h
      rw [upd_ne (ne_of_none h np0)]
      exact s5 _ _ (sm4 _ _ h)
end
end My

set_option maxRecDepth 100000
set_option maxHeartbeats 4000000
namespace My
open PySem PySem.Spec PyProof.Rows L2
abbrev sRefuse : Stmt := top 3
theorem scRefuse : FnScope ["names", "known", "name"] ["names", "known"] (defScope sRefuse) := ⟨rfl, rfl, rfl, by decide +kernel, rfl, by decide +kernel, by decide +kernel⟩
/-- the class NoName at C -/
structure Lack (mg : Str → Option Value) (K : PySem.W.Frag) (C fI : Addr) (bmB : List Value) (newId : String) : Prop where
  err : XE.Err K C fI .name bmB newId
  tyC : PySem.W.typeIn K (.ref C) = some (.type "type")
  gC : mg "NoName" = some (.ref C)
/-- the first name that the row lacks -/
def lackIn (kvs : List (Key × V)) (ys : List Str) : Option Str := ys.find? fun z => (valV kvs (Sum.inr z : Key)).isNone
def spRefuse (K : PySem.W.Frag) (C : Addr) : Sp := fun vs H Q E => ∃ (n r : Addr) (ys : List Str) (kvs : List (Key × V)), vs = [.ref n, .ref r] ∧ SqL K H n (ys.map V.str) ∧ H r = some (.dK kvs) ∧
  (lackIn kvs ys = none → ∀ H', Same H H' → Q .non H') ∧ (∀ z, lackIn kvs ys = some z → ∀ d H', Same H H' → H d = none → H' d = some (exd d [("name", .str z)]) → E (.ref C) (some d) H')
theorem lack_take {kvs : List (Key × V)} {ys : List Str} {i : Nat} {z : Str} (h : ys[i]? = some z) (b : lackIn kvs (ys.take i) = none) : lackIn kvs (ys.take (i + 1)) = if (valV kvs (Sum.inr z : Key)).isNone then some z else none := by
  unfold lackIn at b ⊢
  rw [List.take_add_one, h, List.find?_append, b]
  show (none : Option Str).or ([z].find? _) = _
  rw [List.find?_singleton]
  rfl
theorem lack_more {kvs : List (Key × V)} {ys : List Str} {i : Nat} {z : Str} (h : lackIn kvs (ys.take i) = some z) : lackIn kvs ys = some z := by
  unfold lackIn at h ⊢
  rw [← List.take_append_drop i ys, List.find?_append, h]
  rfl
section
variable {P : Program} {w : World} {K : PySem.W.Frag} {mg : Str → Option Value} {base : Heap} {f C fI : Addr} {fd : FuncData} {bmB : List Value} {newId : String}
theorem ok_refuse (F : FnP K "refuse_lacking" sRefuse f fd) (T0 : Lack mg K C fI bmB newId) : FnOk P w K mg base (L2.CX P w) 2 f fd ["names", "known"] (spRefuse K C) := by
  refine F.ok scRefuse (fun vs H Q E h => ?_) (fun cdv A outer s H vs Q E hr h => ?_)
  · obtain ⟨n, r, ys, kvs, rfl, _⟩ := h
    rfl
  obtain ⟨n, r, ys, kvs, rfl, hn, hr1, q, qe⟩ := h
  have hu := hu_of hr
  refine ⟨_, (pss_one (ps_for (passes_of rfl) rfl (pi_list (pv 0)) (pg_name (i := 2) scRefuse.nd rfl (Or.inl rfl))
 (pss_one (ps_if (pt_cmp (pc_dnotin hu (pv 2) (pv 1)))
 (pss_one (ps_raise rfl (takes_of rfl rfl rfl rfl) (pmk_err T0.err T0.tyC hr (T0.gC) (pa_cons (pv 2) pa_nil)))) pss_nil)))), ?_⟩
  refine ⟨_, rfl, n, rfl, ⟨_, hn⟩, for_it (walk_list (K := K) (a := n) (xs := ys.map V.str)) (fun i σ H' => ∃ kk : Option V, σ = [some (.ref n), some (.ref r), kk] ∧ H' = H ∧ lackIn kvs (ys.take i) = none) ?_ ?_ ?_ ?_⟩
  · exact ⟨_, rfl, rfl, rfl⟩
  · rintro i σ H' _ ⟨_, _, rfl, _⟩
    exact hn
  · rintro i x σ Hx H1 hi ⟨kk, rfl, rfl, hl⟩ ⟨rfl, hx⟩
    obtain ⟨z, hz, rfl⟩ : ∃ z, ys[i]? = some z ∧ x = V.str z := by
      rw [List.getElem?_map] at hx
      cases e : ys[i]? with
      | none =>
        rw [e] at hx
        cases hx
      | some z =>
        rw [e] at hx
        exact ⟨z, rfl, (Option.some.inj hx).symm⟩
    have e := lack_take (kvs := kvs) hz hl
    refine ⟨_, rfl, _, rfl, r, _, rfl, DGet.k (k := (Sum.inr z : Key)) hr1, _, rfl, ?_⟩
    cases ev : valV kvs (Sum.inr z : Key) with
    | some v =>
      refine iteF ?_
      rw [ev] at e
      exact ⟨_, rfl, rfl, e⟩
    | none =>
      refine iteT ?_
      rw [ev] at e
      exact ⟨_, rfl, _, rfl, fun d hd => qe z (lack_more e) d _ (same_new hd _) hd upd_same⟩
  · rintro σ H' ⟨kk, rfl, rfl, hl⟩
    rw [List.length_map, List.take_length] at hl
    exact q hl H' (Same.refl _)
end
end My

set_option maxRecDepth 100000
set_option maxHeartbeats 4000000
namespace My
open PySem PySem.Spec PyProof.Rows L2
abbrev sValue : Stmt := top 7
abbrev sVParts : Stmt := top 8
theorem scValue : FnScope ["saying", "values", "full", "part"] ["saying", "values", "full"] (defScope sValue) := ⟨rfl, rfl, rfl, by decide +kernel, rfl, by decide +kernel, by decide +kernel⟩
theorem scVParts : FnScope ["kind", "parts", "full"] ["kind", "parts", "full"] (defScope sVParts) := ⟨rfl, rfl, rfl, by decide +kernel, rfl, by decide +kernel, by decide +kernel⟩
/-- the rows in which a saying holds, as bits, of those of each name and of all -/
def Sy.bits (full : Int) (vs : Str → Int) : Sy → Int
  | .yes => full
  | .no => 0
  | .nm x => vs x
  | .nt a => Builtin.bitXor full (a.bits full vs)
  | .bi .an a b => Builtin.bitAnd (a.bits full vs) (b.bits full vs)
  | .bi .orr a b => Builtin.bitOr (a.bits full vs) (b.bits full vs)
  | .bi .iff a b => Builtin.bitOr (Builtin.bitXor full (a.bits full vs)) (b.bits full vs)
  | .bi .sm a b => Builtin.bitXor (Builtin.bitXor full (a.bits full vs)) (b.bits full vs)
structure Vl (mg : Str → Option Value) (K : PySem.W.Frag) (fP fV fW : Addr) (dP dV dW : FuncData) : Prop where
  gP : mg "parts_of" = some (.ref fP)
  kP : PySem.W.keepIn K (.ref fP) = true
  bP : Binds K dP ["saying"] []
  gV : mg "value_of" = some (.ref fV)
  kV : PySem.W.keepIn K (.ref fV) = true
  bV : Binds K dV ["saying", "values", "full"] []
  gW : mg "value_of_parts" = some (.ref fW)
  kW : PySem.W.keepIn K (.ref fW) = true
  bW : Binds K dW ["kind", "parts", "full"] []
def spVParts : Sp := fun vs H Q _ => ∃ (D : Addr) (s : Sy) (full : Int) (rows : Str → Int), vs = [.str s.word, .ref D, .int full] ∧ s.word ≠ "name" ∧ H D = some (.lst (s.kids.map fun c => .int (c.bits full rows))) ∧ Q (.int (s.bits full rows)) H
def spValue (n : Nat) : Sp := fun vs H Q _ => ∃ (v : V) (d : Addr) (s : Sy) (kvs : List (Key × V)) (full : Int) (rows : Str → Int), vs = [v, .ref d, .int full] ∧ St H v s ∧ s.dep ≤ n ∧ H d = some (.dK kvs) ∧ (∀ z ∈ s.names, valV kvs (Sum.inr z : Key) = some (.int (rows z))) ∧
  ∀ H', Same H H' → Q (.int (s.bits full rows)) H'
theorem kid_dep {s c : Sy} (h : c ∈ s.kids) : c.dep + 1 ≤ s.dep := by
  cases s with
  | nt a =>
    rw [List.mem_singleton.mp h]
    exact Nat.le_refl _
  | bi k a b =>
    show c.dep + 1 ≤ max a.dep b.dep + 1
    rcases List.mem_cons.mp h with rfl | h
    · omega
    · rw [List.mem_singleton.mp h]
      omega
  | _ => cases h
theorem kid_names {s c : Sy} (h : c ∈ s.kids) : ∀ z ∈ c.names, z ∈ s.names := fun z hz => by
  cases s with
  | nt a =>
    rw [List.mem_singleton.mp h] at hz
    exact hz
  | bi k a b =>
    rcases List.mem_cons.mp h with rfl | h
    · exact List.mem_append_left _ hz
    · rw [List.mem_singleton.mp h] at hz
      exact List.mem_append_right _ hz
  | _ => cases h
theorem ifT {c : Bool} {p q : Prop} (h : c = true) (x : p) : if c = true then p else q := by rw [if_pos h]; exact x
theorem ifF {c : Bool} {p q : Prop} (h : c = false) (x : q) : if c = true then p else q := by rw [if_neg (by rw [h]; decide)]; exact x
section
variable {P : Program} {w : World} {K : PySem.W.Frag} {mg : Str → Option Value} {base : Heap} {f fP fW : Addr} {fd dP dW : FuncData}
theorem ok_vparts {k : Nat} (F : FnP K "value_of_parts" sVParts f fd) : FnOk P w K mg base CX0 (k + 1) f fd ["kind", "parts", "full"] spVParts := by
  refine F.ok scVParts (fun vs H Q E h => ?_) (fun cdv A outer s H vs Q E hr h => ?_)
  · obtain ⟨D, sy, full, rows, rfl, _⟩ := h
    rfl
  obtain ⟨D, sy, full, rows, rfl, nn, eD, q⟩ := h
  refine ⟨_, PSs.nox (pss_cons (ps_if (pt_cmpR op_eq (pv 0) pe_str (nomark _))
 (pss_one (ps_ret (pv 2))) pss_nil)
 (pss_cons (ps_if (pt_cmpR op_eq (pv 0) pe_str (nomark _))
 (pss_one (ps_ret pe_int)) pss_nil)
 (pss_cons (ps_if (pt_cmpR op_eq (pv 0) pe_str (nomark _))
 (pss_one (ps_ret (pe_op op_xor (pv 2) (pe_ix ix_list (pv 1) pe_int (fun _ _ => rfl))))) pss_nil)
 (pss_cons (ps_if (pt_cmpR op_eq (pv 0) pe_str (nomark _))
 (pss_one (ps_ret (pe_op op_and (pe_ix ix_list (pv 1) pe_int (fun _ _ => rfl)) (pe_ix ix_list (pv 1) pe_int (fun _ _ => rfl))))) pss_nil)
 (pss_cons (ps_if (pt_cmpR op_eq (pv 0) pe_str (nomark _))
 (pss_one (ps_ret (pe_op op_or (pe_ix ix_list (pv 1) pe_int (fun _ _ => rfl)) (pe_ix ix_list (pv 1) pe_int (fun _ _ => rfl))))) pss_nil)
 (pss_cons (ps_if (pt_cmpR op_eq (pv 0) pe_str (nomark _))
 (pss_one (ps_ret (pe_op op_or (pe_op op_xor (pv 2) (pe_ix ix_list (pv 1) pe_int (fun _ _ => rfl))) (pe_ix ix_list (pv 1) pe_int (fun _ _ => rfl))))) pss_nil)
 (pss_one (ps_ret (pe_op op_xor (pe_op op_xor (pv 2) (pe_ix ix_list (pv 1) pe_int (fun _ _ => rfl))) (pe_ix ix_list (pv 1) pe_int (fun _ _ => rfl))))))))))), ?_⟩
  cases sy with
  | nm x => exact absurd rfl nn
  | yes => exact ⟨_, rfl, rfl, _, rfl, ifT (by decide) ⟨_, rfl, q⟩⟩
  | no =>
    refine ⟨_, rfl, rfl, _, rfl, ifF (by decide) ?_⟩
    exact ⟨_, rfl, rfl, _, rfl, ifT (by decide) q⟩
  | nt b =>
    have eD' : H D = some (.lst [.int (b.bits full rows)]) := eD
    refine ⟨_, rfl, rfl, _, rfl, ifF rfl ?_⟩
    refine ⟨_, rfl, rfl, _, rfl, ifF rfl ?_⟩
    refine ⟨_, rfl, rfl, _, rfl, ifT rfl ?_⟩
    exact ⟨_, rfl, _, rfl, D, _, _, _, rfl, rfl, SqL.of eD', at0, _, _, rfl, rfl, q⟩
  | bi k b c =>
    have eD' : H D = some (.lst [.int (b.bits full rows), .int (c.bits full rows)]) := eD
    cases k with
    | an =>
      refine ⟨_, rfl, rfl, _, rfl, ifF rfl ?_⟩
      refine ⟨_, rfl, rfl, _, rfl, ifF rfl ?_⟩
      refine ⟨_, rfl, rfl, _, rfl, ifF rfl ?_⟩
      refine ⟨_, rfl, rfl, _, rfl, ifT rfl ?_⟩
      exact ⟨_, rfl, D, _, _, _, rfl, rfl, SqL.of eD', at0, _, rfl, D, _, _, _, rfl, rfl, SqL.of eD', at1, _, _, rfl, rfl, q⟩
    | orr =>
      refine ⟨_, rfl, rfl, _, rfl, ifF rfl ?_⟩
      refine ⟨_, rfl, rfl, _, rfl, ifF rfl ?_⟩
      refine ⟨_, rfl, rfl, _, rfl, ifF rfl ?_⟩
      refine ⟨_, rfl, rfl, _, rfl, ifF rfl ?_⟩
      refine ⟨_, rfl, rfl, _, rfl, ifT rfl ?_⟩
      exact ⟨_, rfl, D, _, _, _, rfl, rfl, SqL.of eD', at0, _, rfl, D, _, _, _, rfl, rfl, SqL.of eD', at1, _, _, rfl, rfl, q⟩
    | iff =>
      refine ⟨_, rfl, rfl, _, rfl, ifF rfl ?_⟩
      refine ⟨_, rfl, rfl, _, rfl, ifF rfl ?_⟩
      refine ⟨_, rfl, rfl, _, rfl, ifF rfl ?_⟩
      refine ⟨_, rfl, rfl, _, rfl, ifF rfl ?_⟩
      refine ⟨_, rfl, rfl, _, rfl, ifF rfl ?_⟩
      refine ⟨_, rfl, rfl, _, rfl, ifT rfl ?_⟩
      exact ⟨_, rfl, _, rfl, D, _, _, _, rfl, rfl, SqL.of eD', at0, _, _, rfl, rfl, _, rfl, D, _, _, _, rfl, rfl, SqL.of eD', at1, _, _, rfl, rfl, q⟩
    | sm =>
      refine ⟨_, rfl, rfl, _, rfl, ifF rfl ?_⟩
      refine ⟨_, rfl, rfl, _, rfl, ifF rfl ?_⟩
      refine ⟨_, rfl, rfl, _, rfl, ifF rfl ?_⟩
      refine ⟨_, rfl, rfl, _, rfl, ifF rfl ?_⟩
      refine ⟨_, rfl, rfl, _, rfl, ifF rfl ?_⟩
      refine ⟨_, rfl, rfl, _, rfl, ifF rfl ?_⟩
      exact ⟨_, rfl, _, rfl, D, _, _, _, rfl, rfl, SqL.of eD', at0, _, _, rfl, rfl, _, rfl, D, _, _, _, rfl, rfl, SqL.of eD', at1, _, _, rfl, rfl, q⟩
theorem ok_value {n : Nat} (F : FnP K "value_of" sValue f fd) (GP : FnOk P w K mg base CX0 1 fP dP ["saying"] (spParts K)) (GW : FnOk P w K mg base CX0 1 fW dW ["kind", "parts", "full"] spVParts) (GR : FnOk P w K mg base CX0 (1 + n) f fd ["saying", "values", "full"] (spValue n)) (T0 : Vl mg K fP f fW dP fd dW) :
    FnOk P w K mg base CX0 (1 + n + 1) f fd ["saying", "values", "full"] (spValue (n + 1)) := by
  refine F.ok scValue (fun vs H Q E h => ?_) (fun cdv A outer s H vs Q E hr h => ?_)
  · obtain ⟨v, d, sy, kvs, full, rows, rfl, _⟩ := h
    rfl
  obtain ⟨v, d, sy, kvs, full, rows, rfl, hst, hdep, hd, hrow, q⟩ := h
  have hu := hu_of hr
  have hr1 : Room 1 _ := hr.mono (by omega)
  refine ⟨_, PSs.nox (pss_cons (ps_if (pt_cmpR op_eq (pe_ix ix_tup (pv 0) pe_int (fun _ _ => rfl)) pe_str (nomark _))
 (pss_one (ps_ret (pe_dget hu (pv 1) (pe_ix ix_tup (pv 0) pe_int (fun _ _ => rfl)) (fun _ _ => rfl)))) pss_nil)
 (pss_one (ps_ret (pe_call GW hr1 (by rfl) T0.gW T0.kW T0.bW .nil pass0 (pa_cons (pe_ix ix_tup (pv 0) pe_int (fun _ _ => rfl)) (pa_cons (pe_lc (own := [("part", 3)]) (g := gName 3) (tt := tYes) (by rfl) scValue.nd (pi_tup (pe_call GP hr1 (by rfl) T0.gP T0.kP T0.bP .nil pass0 (pa_cons (pv 0) pa_nil))) (blkOk_by (own := [("part", 3)]) (N := ["saying", "values", "full", "part"]) (sc := defScope sValue) (by decide +kernel)) (fun _ _ _ _ _ => pg_name (i := 3) scValue.nd rfl (Or.inl rfl)) (fun _ _ _ _ _ => pts_nil) (fun _ _ _ _ _ => (pe_call GR hr (by rfl) T0.gV T0.kV T0.bV .nil pass0 (pa_cons (pv 3) (pa_cons (pv 1) (pa_cons (pv 2) pa_nil)))))) (pa_cons (pv 2) pa_nil))))))), ?_⟩
  obtain ⟨a, xs, rfl, ea, hx2, hk⟩ := st_open hst
  have ha : SqT K H a (.str sy.word :: xs) := .inl (.inl ea)
  refine ⟨_, rfl, a, _, _, _, rfl, rfl, ha, at0, ?_⟩
  refine ⟨rfl, _, rfl, ite2 (fun cw => ?_) (fun cw => ?_)⟩
  · have ew : sy.word = "name" := V.str.inj (of_decide_eq_true cw)
    obtain ⟨x, rfl⟩ : ∃ x, sy = .nm x := by
      cases sy with
      | nm x => exact ⟨x, rfl⟩
      | yes => exact absurd ew (by decide)
      | no => exact absurd ew (by decide)
      | nt a => exact absurd ew (by show ¬ ("not" : Str) = "name"; decide)
      | bi k a b => exact absurd ew (B4.nn k)
    obtain rfl : xs = [.str x] := by
      cases hst with
      | nm _ h =>
        rw [ea] at h
        have := Option.some.inj h
        injection this with this
        injection this
    have hg := DGet.k (k := (Sum.inr x : Key)) hd
    rw [hrow x (List.mem_singleton_self x)] at hg
    refine ⟨_, rfl, _, rfl, a, _, _, _, rfl, rfl, ha, at1, d, _, rfl, hg, ?_⟩
    exact q H (Same.refl _)
  · have ew : sy.word ≠ "name" := fun z => cw (decide_eq_true (by rw [z]))
    refine ⟨_, rfl, a, _, _, _, rfl, rfl, ha, at0, ?_⟩
    refine ⟨_, rfl, a, _, xs, rfl, ha, by omega, fun H1 pp s1 e1 => ?_⟩
    have hk1 := paired_imp (fun _ _ h => st_keep (TupK.of s1) h) hk
    rw [if_neg ew] at e1 hk1
    have hlk := paired_len hk1
    refine ⟨pp, rfl, ⟨_, e1⟩, fun D nD => lc_tup (K := K) (a := pp) (xs := xs) (fun i H' => H' D = some (.lst ((sy.kids.take i).map fun c => .int (c.bits full rows))) ∧ Same H1 H') ?_ ?_ ?_ ?_⟩
    · exact ⟨upd_same, same_new nD _⟩
    · rintro i H' _ ⟨_, s2⟩
      rcases e1 with (h | ⟨o, h⟩) | h
      · exact .inl (.inl (s2 _ _ h))
      · exact .inl (.inr ⟨o, s2 _ _ h⟩)
      · exact .inr h
    · rintro i y H2 hi ⟨eD, s2⟩
      obtain ⟨cs, hcs, hst1⟩ : ∃ cs, sy.kids[i]? = some cs ∧ St H1 y cs := by
        have : ∀ {l : List V} {m : List Sy}, Paired (St H1) l m → ∀ {j : Nat} {y : V}, l[j]? = some y → ∃ c, m[j]? = some c ∧ St H1 y c := by
          intro l m h
          induction h with
          | nil => intro j y e; simp at e
          | cons x r ih =>
            intro j y e
            cases j with
            | zero => exact ⟨_, rfl, by cases Option.some.inj e; exact x⟩
            | succ j => exact ih e
        exact this hk1 hi
      have hmem := List.mem_of_getElem? hcs
      refine ⟨rfl, ?_⟩
      refine ⟨_, rfl, _, rfl, _, rfl, y, d, cs, kvs, full, rows, rfl, st_keep (TupK.of s2) hst1, by have := kid_dep hmem; omega, s2 _ _ (s1 _ _ hd), fun z hz => hrow z (kid_names hmem z hz), fun H3 s3 => ?_⟩
      refine ⟨_, s3 _ _ eD, ?_, ?_, ?_⟩
      · rw [List.length_map, List.length_take]
        exact small1000 (by have := kids_len sy; omega)
      · rw [upd_same, List.take_add_one, hcs, List.map_append]
        rfl
      · intro b o h
        rw [upd_ne (ne_of_none h nD)]
        exact s3 _ _ (s2 _ _ h)
    · rintro H2 ⟨eD, s2⟩
      rw [hlk, List.take_length] at eD
      refine ⟨_, rfl, D, sy, full, rows, rfl, ew, eD, ?_⟩
      exact q H2 (s1.trans s2)
theorem no_value : FnOk P w K mg base CX0 (1 + 0) f fd ["saying", "values", "full"] (spValue 0) := by
  have no : ∀ vs H Q E, ¬ spValue 0 vs H Q E := fun vs H Q E h => by
    obtain ⟨v, d, sy, kvs, full, rows, _, _, h1, _⟩ := h
    cases sy <;> (unfold Sy.dep at h1; omega)
  exact ⟨fun vs H Q E h => absurd h (no vs H Q E), fun A outer s H args us vs Q E _ _ _ _ h => absurd h (no vs H Q E)⟩
theorem all_value (F : FnP K "value_of" sValue f fd) (GP : FnOk P w K mg base CX0 1 fP dP ["saying"] (spParts K)) (GW : FnOk P w K mg base CX0 1 fW dW ["kind", "parts", "full"] spVParts) (T0 : Vl mg K fP f fW dP fd dW) : ∀ n : Nat, FnOk P w K mg base CX0 (1 + n) f fd ["saying", "values", "full"] (spValue n)
  | 0 => no_value
  | n + 1 => ok_value F GP GW (all_value F GP GW T0 n) T0
end
end My

set_option maxRecDepth 100000
set_option maxHeartbeats 4000000
namespace My
open PySem PySem.Spec PyProof.Rows L2
abbrev sHolds : Stmt := top 9
theorem scHolds : FnScope ["saying", "row", "names", "name", "values"] ["saying", "row"] (defScope sHolds) := ⟨rfl, rfl, rfl, by decide +kernel, rfl, by decide +kernel, by decide +kernel⟩
def one (b : Bool) : Int := if b then 1 else 0
def Sy.val (row : Str → Bool) : Sy → Bool
  | .yes => true
  | .no => false
  | .nm x => row x
  | .nt a => !a.val row
  | .bi .an a b => a.val row && b.val row
  | .bi .orr a b => a.val row || b.val row
  | .bi .iff a b => !a.val row || b.val row
  | .bi .sm a b => a.val row == b.val row
theorem x_not (b : Bool) : Builtin.bitXor 1 (one b) = one (!b) := by cases b <;> decide
theorem x_and (a b : Bool) : Builtin.bitAnd (one a) (one b) = one (a && b) := by cases a <;> cases b <;> decide
theorem x_or (a b : Bool) : Builtin.bitOr (one a) (one b) = one (a || b) := by cases a <;> cases b <;> decide
theorem x_same (a b : Bool) : Builtin.bitXor (one (!a)) (one b) = one (a == b) := by cases a <;> cases b <;> decide
theorem bits_one (row : Str → Bool) : ∀ s : Sy, s.bits 1 (fun z => one (row z)) = one (s.val row)
  | .yes => rfl
  | .no => rfl
  | .nm x => rfl
  | .nt a => by show Builtin.bitXor 1 _ = _; rw [bits_one row a]; exact x_not _
  | .bi .an a b => by show Builtin.bitAnd _ _ = _; rw [bits_one row a, bits_one row b]; exact x_and _ _
  | .bi .orr a b => by show Builtin.bitOr _ _ = _; rw [bits_one row a, bits_one row b]; exact x_or _ _
  | .bi .iff a b => by show Builtin.bitOr (Builtin.bitXor 1 _) _ = _; rw [bits_one row a, bits_one row b, x_not]; exact x_or _ _
  | .bi .sm a b => by show Builtin.bitXor (Builtin.bitXor 1 _) _ = _; rw [bits_one row a, bits_one row b, x_not]; exact x_same _ _
def vT (row : Str → Bool) (ys : List Str) : List (Key × V) := ys.map fun z => (Sum.inr z, .int (one (row z)))
theorem vT_in {row : Str → Bool} : ∀ {ys : List Str} {z : Str}, z ∈ ys → valV (vT row ys) (Sum.inr z : Key) = some (.int (one (row z)))
  | x :: r, z, h => by
    have e : vT row (x :: r) = ((Sum.inr x : Key), V.int (one (row x))) :: vT row r := rfl
    rw [e]
    by_cases hx : x = z
    · subst hx
      exact valV_pos rfl
    · rw [valV_neg (fun q => hx (Sum.inr.inj q))]
      rcases List.mem_cons.mp h with rfl | h
      · exact absurd rfl hx
      · exact vT_in h
theorem vT_out {row : Str → Bool} : ∀ {ys : List Str} {z : Str}, z ∉ ys → valV (vT row ys) (Sum.inr z : Key) = none
  | [], z, _ => rfl
  | x :: r, z, h => by
    have e : vT row (x :: r) = ((Sum.inr x : Key), V.int (one (row x))) :: vT row r := rfl
    rw [e, valV_neg (p := ((Sum.inr x : Key), V.int (one (row x)))) (fun q => h (by rw [← Sum.inr.inj q]; exact List.mem_cons_self)), vT_out fun m => h (List.mem_cons_of_mem _ m)]
structure Hd (mg : Str → Option Value) (K : PySem.W.Frag) (fN fV fX : Addr) (dN dV dX : FuncData) : Prop where
  gN : mg "names_of" = some (.ref fN)
  kN : PySem.W.keepIn K (.ref fN) = true
  bN : Binds K dN ["saying"] []
  gV : mg "value_of" = some (.ref fV)
  kV : PySem.W.keepIn K (.ref fV) = true
  bV : Binds K dV ["saying", "values", "full"] []
  gX : mg "refuse_lacking" = some (.ref fX)
  kX : PySem.W.keepIn K (.ref fX) = true
  bX : Binds K dX ["names", "known"] []
def spHolds (C : Addr) : Sp := fun vs H Q E => ∃ (v : V) (r : Addr) (s : Sy) (kvs : List (Key × V)) (row : Str → Bool) (ys : List Str), vs = [v, .ref r] ∧ St H v s ∧ s.sz < 64 ∧ s.dep ≤ 13 ∧ H r = some (.dK kvs) ∧
  (∀ z u, valV kvs (Sum.inr z : Key) = some u → u = .bl (row z)) ∧ sortedS ys = true ∧ ys.Nodup ∧ (∀ z, z ∈ ys ↔ z ∈ s.names) ∧
  (lackIn kvs ys = none → ∀ H', Same H H' → Q (.bl (s.val row)) H') ∧ (∀ z, lackIn kvs ys = some z → ∀ d H', Same H H' → H d = none → H' d = some (exd d [("name", .str z)]) → E (.ref C) (some d) H')
section
variable {P : Program} {w : World} {K : PySem.W.Frag} {mg : Str → Option Value} {base : Heap} {f C fN fV fX : Addr} {fd dN dV dX : FuncData}
theorem ok_holds (F : FnP K "holds" sHolds f fd) (GN : FnOk P w K mg base CX0 2 fN dN ["saying"] spNames) (GV : FnOk P w K mg base CX0 14 fV dV ["saying", "values", "full"] (spValue 13)) (GX : FnOk P w K mg base (L2.CX P w) 2 fX dX ["names", "known"] (spRefuse K C)) (T0 : Hd mg K fN fV fX dN dV dX) :
    FnOk P w K mg base (L2.CX P w) 15 f fd ["saying", "row"] (spHolds C) := by
  refine F.ok scHolds (fun vs H Q E h => ?_) (fun cdv A outer s H vs Q E hr14 h => ?_)
  · obtain ⟨v, r, sy, kvs, row, ys, rfl, _⟩ := h
    rfl
  obtain ⟨v, r, sy, kvs, row, ys, rfl, hst, hsz, hdep, hrd, hrow, hso, hnd, hmem, q, qe⟩ := h
  have hu := hu_of hr14
  have hr2 : Room 2 _ := hr14.mono (by omega)
  have hr := hr2
  refine ⟨_, (pss_cons (ps_set (i := 2) scHolds.nd rfl (Or.inl rfl) (pe_call GN hr (by rfl) T0.gN T0.kN T0.bN .nil pass0 (pa_cons (pv 0) pa_nil)))
 (pss_cons (ps_expr (pe_callS GX hr2 (by rfl) T0.gX T0.kX T0.bX (fun σ => passAt (takes_of rfl rfl rfl rfl) σ) (pa_cons (pv 2) (pa_cons (pv 1) pa_nil))))
 (pss_cons (ps_setDc (i := 4) (own := [("name", 3)]) (g := gName 3) (tt := tYes) (by rfl) scHolds.nd rfl rfl (swd_true rfl rfl rfl (by decide +kernel)) (pi_list (pv 2)) (blkOk_by (own := [("name", 3)]) (N := ["saying", "row", "names", "name", "values"]) (sc := defScope sHolds) (by decide +kernel)) (fun _ _ _ _ _ => pg_name (i := 3) scHolds.nd rfl (Or.inl rfl)) (fun _ _ _ _ _ => pts_nil) (fun _ _ _ _ _ => (pv 3)) (fun _ _ _ _ _ => (pe_ifExp (pt_val (pe_dget hu (pv 1) (pv 3) (fun _ _ => rfl))) pe_int pe_int)))
 (pss_one (ps_ret (pe_cmpR op_eq (pe_call GV hr14 (by rfl) T0.gV T0.kV T0.bV .nil pass0 (pa_cons (pv 0) (pa_cons (pv 4) (pa_cons pe_int pa_nil)))) pe_int (nomark _))))))), ?_⟩
  refine ⟨_, rfl, v, sy, rfl, hst, hsz, fun H1 p ys' s1 np e1 so1 nd1 mem1 => ?_⟩
  obtain rfl : ys' = ys := sorted_alike so1 hso nd1 hnd (fun z => (mem1 z).trans (hmem z).symm)
  have rd1 := s1 _ _ hrd
  have hl64 : ys'.length ≤ 1000 := by
    have : ∀ s : Sy, s.names.length ≤ s.sz := fun s => by
      induction s with
      | nt a ih => exact Nat.le_succ_of_le ih
      | bi k a b i1 i2 =>
        show (a.names ++ b.names).length ≤ a.sz + b.sz + 1
        rw [List.length_append]
        omega
      | yes => exact Nat.zero_le _
      | no => exact Nat.zero_le _
      | nm x => exact Nat.le_refl _
    have h1 := this sy
    have h2 : ys'.length ≤ sy.names.length := by
      have sub : ∀ (l m : List Str), l.Nodup → (∀ z ∈ l, z ∈ m) → l.length ≤ m.length := by
        intro l
        induction l with
        | nil => intro m _ _; exact Nat.zero_le _
        | cons x r ih =>
          intro m nd hm
          obtain ⟨nx, nr⟩ := List.nodup_cons.mp nd
          have hx := hm x List.mem_cons_self
          have := ih (m.erase x) nr (fun z hz => (List.mem_erase_of_ne (fun e => nx (by rw [← e]; exact hz))).mpr (hm z (List.mem_cons_of_mem _ hz)))
          rw [List.length_erase_of_mem hx] at this
          have pos : 0 < m.length := List.length_pos_of_mem hx
          rw [List.length_cons]
          omega
      exact sub _ _ nd1 (fun z hz => (mem1 z).mp hz)
    omega
  refine ⟨_, rfl, _, rfl, p, r, ys', kvs, rfl, SqL.of e1, rd1, fun hl H2 s2 => ?_, fun z hl d H2 s2 nd ed => ?_⟩
  · have e2 := s2 _ _ e1
    have rd2 := s2 _ _ rd1
    refine ⟨_, rfl, p, rfl, ⟨_, SqL.of e2⟩, fun D nD => dc_it (walk_list (K := K) (a := p) (xs := ys'.map V.str)) (fun i H' => H' D = some (.dK (vT row (ys'.take i))) ∧ Same H2 H') ?_ ?_ ?_ ?_⟩
    · exact ⟨upd_same, same_new nD _⟩
    · rintro i H' _ ⟨_, s3⟩
      exact SqL.of (s3 _ _ e2)
    · rintro i x Hx H3 hi ⟨eD, s3⟩ ⟨rfl, hx⟩
      obtain ⟨z, hz, rfl⟩ : ∃ z, ys'[i]? = some z ∧ x = V.str z := by
        rw [List.getElem?_map] at hx
        cases e : ys'[i]? with
        | none =>
          rw [e] at hx
          cases hx
        | some z =>
          rw [e] at hx
          exact ⟨z, rfl, (Option.some.inj hx).symm⟩
      have have_ : ∃ u, valV kvs (Sum.inr z : Key) = some u := by
        unfold lackIn at hl
        have := List.find?_eq_none.mp hl z (List.mem_of_getElem? hz)
        cases e : valV kvs (Sum.inr z : Key) with
        | none => rw [e] at this; exact absurd rfl this
        | some u => exact ⟨u, rfl⟩
      obtain ⟨u, eu⟩ := have_
      obtain rfl := hrow z u eu
      have hg := DGet.k (k := (Sum.inr z : Key)) (s3 _ _ rd2)
      rw [eu] at hg
      have nin : z ∉ ys'.take i := fun m => by
        obtain ⟨j, hj, e⟩ := List.mem_take_iff_getElem.mp m
        have hjl : j < ys'.length := by omega
        have e1 : ys'[j]? = some z := by rw [List.getElem?_eq_getElem hjl, e]
        have hil : i < ys'.length := (List.getElem?_eq_some_iff.mp hz).1
        have e2 : ys'[i] = z := (List.getElem?_eq_some_iff.mp hz).2
        exact (List.pairwise_iff_getElem.mp nd1) j i hjl hil (by omega) (e.trans e2.symm)
      have put : putK (vT row (ys'.take i)) (Sum.inr z : Key) (.int (one (row z))) = vT row (ys'.take (i + 1)) := by
        rw [putK_new _ (vT_out nin), List.take_add_one, hz]
        unfold vT
        rw [List.map_append]
        rfl
      refine ⟨rfl, ?_⟩
      have go : ∀ b : Bool, row z = b → ∃ (kvs' : List (Key × V)) (k : Key), V.str z = kV k ∧ H3 D = some (.dK kvs') ∧ kvs'.length < sizeLine ∧ (upd H3 D (.dK (putK kvs' k (.int (one b))))) D = some (.dK (vT row (ys'.take (i + 1)))) ∧ Same H2 (upd H3 D (.dK (putK kvs' k (.int (one b))))) := fun b hb => by
        refine ⟨_, Sum.inr z, rfl, eD, ?_, ?_, fun c o h => ?_⟩
        · unfold vT
          rw [List.length_map, List.length_take]
          exact small1000 (by omega)
        · rw [← hb, put]
          exact upd_same
        · rw [upd_ne (ne_of_none h nD)]
          exact s3 _ _ h
      refine ⟨_, rfl, _, rfl, _, rfl, r, _, rfl, hg, _, rfl, ?_⟩
      cases hb : row z with
      | true =>
        refine iteT ?_
        exact go true hb
      | false =>
        refine iteF ?_
        exact go false hb
    · rintro H3 ⟨eD, s3⟩
      rw [List.length_map, List.take_length] at eD
      refine ⟨_, rfl, _, rfl, v, D, sy, _, 1, (fun z => one (row z)), rfl, st_keep (TupK.of ((s1.trans s2).trans s3)) hst, hdep, eD, fun z hz => vT_in ((mem1 z).mpr hz), fun H4 s4 => ?_⟩
      rw [bits_one]
      refine ⟨rfl, ?_⟩
      have e : decide (V.int (one (sy.val row)) = V.int 1) = sy.val row := by cases sy.val row <;> decide
      have q2 := q hl H4 (((s1.trans s2).trans s3).trans s4)
      rw [← e] at q2
      exact q2
  · exact qe z hl d H2 (s1.trans s2) (s1.free nd) ed
end
end My

set_option maxRecDepth 100000
set_option maxHeartbeats 4000000
namespace My
open PySem PySem.Spec PyProof.Rows L2
abbrev sLV : Stmt := top 15
theorem scLV : FnScope ["_law_saying_here", "_law_row_here", "_law_word", "_law_some", "_law_part"] ["_law_saying_here", "_law_row_here"] (defScope sLV) := ⟨rfl, rfl, rfl, by decide +kernel, rfl, by decide +kernel, by decide +kernel⟩
structure Lv (mg : Str → Option Value) (K : PySem.W.Frag) (fV : Addr) (dV : FuncData) : Prop where
  gV : mg "_law_value" = some (.ref fV)
  kV : PySem.W.keepIn K (.ref fV) = true
  bV : Binds K dV ["_law_saying_here", "_law_row_here"] []
def spLV (n : Nat) : Sp := fun vs H Q _ => ∃ (v : V) (d : Addr) (s : Sy) (kvs : List (Key × V)) (row : Str → Bool), vs = [v, .ref d] ∧ St H v s ∧ s.dep ≤ n ∧ H d = some (.dK kvs) ∧ (∀ z ∈ s.names, valV kvs (Sum.inr z : Key) = some (.bl (row z))) ∧
  ∀ H', Same H H' → Q (.bl (s.val row)) H'
theorem cut_tail (x : V) (xs : List V) : cutV (x :: xs) (some 1) none = xs := by
  unfold cutV
  rw [show HT.sIx (x :: xs).length 0 (some 1) = min 1 (x :: xs).length from HT.sIx_nat _ _ 1, HT.sIx_none, List.length_cons]
  have e1 : min 1 (xs.length + 1) = 1 := by omega
  rw [e1]
  show List.take (xs.length + 1 - 1) xs = xs
  rw [Nat.add_sub_cancel]
  exact List.take_length
theorem not_whole {x : V} {xs : List V} : ¬ (HT.sIx (x :: xs).length 0 (some 1) = 0 ∧ HT.sIx (x :: xs).length (x :: xs).length none = (x :: xs).length) := fun z => by
  have z1 := z.1
  rw [show HT.sIx (x :: xs).length 0 (some 1) = min 1 (x :: xs).length from HT.sIx_nat _ _ 1, List.length_cons] at z1
  omega
section
variable {P : Program} {w : World} {K : PySem.W.Frag} {mg : Str → Option Value} {base : Heap} {f : Addr} {fd : FuncData}
theorem ok_lvalue {n : Nat} (F : FnP K "_law_value" sLV f fd) (GR : FnOk P w K mg base CX0 (1 + n) f fd ["_law_saying_here", "_law_row_here"] (spLV n)) (T0 : Lv mg K f fd) :
    FnOk P w K mg base CX0 (1 + n + 1) f fd ["_law_saying_here", "_law_row_here"] (spLV (n + 1)) := by
  refine F.ok scLV (fun vs H Q E h => ?_) (fun cdv A outer s H vs Q E hr h => ?_)
  · obtain ⟨v, d, sy, kvs, row, rfl, _⟩ := h
    rfl
  obtain ⟨v, d, sy, kvs, row, rfl, hst, hdep, hd, hrow, q⟩ := h
  have hu := hu_of hr
  refine ⟨_, PSs.nox (pss_cons (ps_set (i := 2) scLV.nd rfl (Or.inl rfl) (pe_ix ix_tup (pv 0) pe_int (fun _ _ => rfl)))
 (pss_cons (ps_if (pt_cmpR op_eq (pv 2) pe_str (nomark _))
 (pss_one (ps_ret (pe_dget hu (pv 1) (pe_ix ix_tup (pv 0) pe_int (fun _ _ => rfl)) (fun _ _ => rfl)))) pss_nil)
 (pss_cons (ps_setLc (i := 3) (own := [("_law_part", 4)]) (g := gName 4) (tt := tYes) (by rfl) scLV.nd rfl rfl (sw_true rfl rfl rfl (by decide +kernel)) (pi_tup (pe_slice sl_tupA (pv 0) (po_some pe_int) po_none)) (blkOk_by (own := [("_law_part", 4)]) (N := ["_law_saying_here", "_law_row_here", "_law_word", "_law_some", "_law_part"]) (sc := defScope sLV) (by decide +kernel)) (fun _ _ _ _ _ => pg_name (i := 4) scLV.nd rfl (Or.inl rfl)) (fun _ _ _ _ _ => pts_nil) (fun _ _ _ _ _ => (pe_call GR hr (by rfl) T0.gV T0.kV T0.bV .nil pass0 (pa_cons (pv 4) (pa_cons (pv 1) pa_nil)))))
 (pss_cons (ps_if (pt_cmpR op_eq (pv 2) pe_str (nomark _))
 (pss_one (ps_ret (pe_not (pe_ix ix_list (pv 3) pe_int (fun _ _ => rfl))))) pss_nil)
 (pss_cons (ps_if (pt_cmpR op_eq (pv 2) pe_str (nomark _))
 (pss_one (ps_ret (pe_and (pe_ix ix_list (pv 3) pe_int (fun _ _ => rfl)) (pe_one (pe_ix ix_list (pv 3) pe_int (fun _ _ => rfl)))))) pss_nil)
 (pss_cons (ps_if (pt_cmpR op_eq (pv 2) pe_str (nomark _))
 (pss_one (ps_ret (pe_or (pe_ix ix_list (pv 3) pe_int (fun _ _ => rfl)) (pe_one (pe_ix ix_list (pv 3) pe_int (fun _ _ => rfl)))))) pss_nil)
 (pss_cons (ps_if (pt_cmpR op_eq (pv 2) pe_str (nomark _))
 (pss_one (ps_ret (pe_or (pe_ix ix_list (pv 3) pe_int (fun _ _ => rfl)) (pe_one (pe_not (pe_ix ix_list (pv 3) pe_int (fun _ _ => rfl))))))) pss_nil)
 (pss_cons (ps_if (pt_cmpR op_eq (pv 2) pe_str (nomark _))
 (pss_one (ps_ret (pe_cmpR op_eq (pe_ix ix_list (pv 3) pe_int (fun _ _ => rfl)) (pe_ix ix_list (pv 3) pe_int (fun _ _ => rfl)) (nomark _)))) pss_nil)
 (pss_one (ps_ret (pe_cmpR op_eq (pv 2) pe_str (nomark _)))))))))))), ?_⟩
  obtain ⟨a, xs, rfl, ea, hx2, hk⟩ := st_open hst
  have ha : SqT K H a (.str sy.word :: xs) := .inl (.inl ea)
  refine ⟨_, rfl, a, _, _, _, rfl, rfl, ha, at0, ?_⟩
  refine ⟨_, rfl, rfl, _, rfl, ite2 (fun cw => ?_) (fun cw => ?_)⟩
  · have ew : sy.word = "name" := V.str.inj (of_decide_eq_true cw)
    obtain ⟨x, rfl⟩ : ∃ x, sy = .nm x := by
      cases sy with
      | nm x => exact ⟨x, rfl⟩
      | yes => exact absurd ew (by decide)
      | no => exact absurd ew (by decide)
      | nt a => exact absurd ew (by show ¬ ("not" : Str) = "name"; decide)
      | bi k a b => exact absurd ew (B4.nn k)
    obtain rfl : xs = [.str x] := by
      cases hst with
      | nm _ h =>
        rw [ea] at h
        have := Option.some.inj h
        injection this with this
        injection this
    have hg := DGet.k (k := (Sum.inr x : Key)) hd
    rw [hrow x (List.mem_singleton_self x)] at hg
    refine ⟨_, rfl, _, rfl, a, _, _, _, rfl, rfl, ha, at1, d, _, rfl, hg, ?_⟩
    exact q H (Same.refl _)
  · have ew : sy.word ≠ "name" := fun z => cw (decide_eq_true (by rw [z]))
    rw [if_neg ew] at hk
    refine ⟨_, rfl, 1, rfl, a, _, rfl, ha, fun z => absurd z not_whole, fun _ pp np => ?_⟩
    rw [cut_tail]
    have s1 := same_new np (.tup xs)
    have e1 : SqT K (upd H pp (.tup xs)) pp xs := .inl (.inl upd_same)
    generalize upd H pp (.tup xs) = H1 at s1 e1 ⊢
    have hk1 := paired_imp (fun _ _ h => st_keep (TupK.of s1) h) hk
    have hlk := paired_len hk1
    refine ⟨pp, rfl, ⟨_, e1⟩, fun D nD => lc_tup (K := K) (a := pp) (xs := xs) (fun i H' => H' D = some (.lst ((sy.kids.take i).map fun c => .bl (c.val row))) ∧ Same H1 H') ?_ ?_ ?_ ?_⟩
    · exact ⟨upd_same, same_new nD _⟩
    · rintro i H' _ ⟨_, s2⟩
      rcases e1 with (h | ⟨o, h⟩) | h
      · exact .inl (.inl (s2 _ _ h))
      · exact .inl (.inr ⟨o, s2 _ _ h⟩)
      · exact .inr h
    · rintro i y H2 hi ⟨eD, s2⟩
      obtain ⟨cs, hcs, hst1⟩ : ∃ cs, sy.kids[i]? = some cs ∧ St H1 y cs := by
        have : ∀ {l : List V} {m : List Sy}, Paired (St H1) l m → ∀ {j : Nat} {y : V}, l[j]? = some y → ∃ c, m[j]? = some c ∧ St H1 y c := by
          intro l m h
          induction h with
          | nil => intro j y e; simp at e
          | cons x r ih =>
            intro j y e
            cases j with
            | zero => exact ⟨_, rfl, by cases Option.some.inj e; exact x⟩
            | succ j => exact ih e
        exact this hk1 hi
      have hmem := List.mem_of_getElem? hcs
      refine ⟨rfl, ?_⟩
      refine ⟨_, rfl, _, rfl, y, d, cs, kvs, row, rfl, st_keep (TupK.of s2) hst1, by have := kid_dep hmem; omega, s2 _ _ (s1 _ _ hd), fun z hz => hrow z (kid_names hmem z hz), fun H3 s3 => ?_⟩
      refine ⟨_, s3 _ _ eD, ?_, ?_, ?_⟩
      · rw [List.length_map, List.length_take]
        exact small1000 (by have := kids_len sy; omega)
      · rw [upd_same, List.take_add_one, hcs, List.map_append]
        rfl
      · intro b o h
        rw [upd_ne (ne_of_none h nD)]
        exact s3 _ _ (s2 _ _ h)
    · rintro H2 ⟨eD, s2⟩
      rw [hlk, List.take_length] at eD
      have s12 := s1.trans s2
      have q2 := q H2 s12
      cases sy with
      | nm x => exact absurd rfl ew
      | yes =>
        refine ⟨_, rfl, rfl, _, rfl, ifF rfl ?_⟩
        refine ⟨_, rfl, rfl, _, rfl, ifF rfl ?_⟩
        refine ⟨_, rfl, rfl, _, rfl, ifF rfl ?_⟩
        refine ⟨_, rfl, rfl, _, rfl, ifF rfl ?_⟩
        refine ⟨_, rfl, rfl, _, rfl, ifF rfl ?_⟩
        refine ⟨_, rfl, rfl, ?_⟩
        exact q2
      | no =>
        refine ⟨_, rfl, rfl, _, rfl, ifF rfl ?_⟩
        refine ⟨_, rfl, rfl, _, rfl, ifF rfl ?_⟩
        refine ⟨_, rfl, rfl, _, rfl, ifF rfl ?_⟩
        refine ⟨_, rfl, rfl, _, rfl, ifF rfl ?_⟩
        refine ⟨_, rfl, rfl, _, rfl, ifF rfl ?_⟩
        refine ⟨_, rfl, rfl, ?_⟩
        exact q2
      | nt b =>
        have eD' : H2 D = some (.lst [.bl (b.val row)]) := eD
        refine ⟨_, rfl, rfl, _, rfl, ifT rfl ?_⟩
        exact ⟨_, rfl, D, _, _, _, rfl, rfl, SqL.of eD', at0, _, rfl, q2⟩
      | bi k b c =>
        have eD' : H2 D = some (.lst [.bl (b.val row), .bl (c.val row)]) := eD
        cases k with
        | an =>
          refine ⟨_, rfl, rfl, _, rfl, ifF rfl ?_⟩
          refine ⟨_, rfl, rfl, _, rfl, ifT rfl ?_⟩
          refine ⟨_, rfl, D, _, _, _, rfl, rfl, SqL.of eD', at0, _, rfl, ?_⟩
          have e : Sy.val row (.bi .an b c) = (b.val row && c.val row) := rfl
          rw [e] at q2
          cases hb : b.val row with
          | true =>
            rw [hb] at q2
            refine iteT ?_
            exact ⟨_, rfl, D, _, _, _, rfl, rfl, SqL.of eD', at1, q2⟩
          | false =>
            rw [hb] at q2
            refine iteF ?_
            exact q2
        | orr =>
          refine ⟨_, rfl, rfl, _, rfl, ifF rfl ?_⟩
          refine ⟨_, rfl, rfl, _, rfl, ifF rfl ?_⟩
          refine ⟨_, rfl, rfl, _, rfl, ifT rfl ?_⟩
          refine ⟨_, rfl, D, _, _, _, rfl, rfl, SqL.of eD', at0, _, rfl, ?_⟩
          have e : Sy.val row (.bi .orr b c) = (b.val row || c.val row) := rfl
          rw [e] at q2
          cases hb : b.val row with
          | true =>
            rw [hb] at q2
            refine iteT ?_
            exact q2
          | false =>
            rw [hb] at q2
            refine iteF ?_
            exact ⟨_, rfl, D, _, _, _, rfl, rfl, SqL.of eD', at1, q2⟩
        | iff =>
          refine ⟨_, rfl, rfl, _, rfl, ifF rfl ?_⟩
          refine ⟨_, rfl, rfl, _, rfl, ifF rfl ?_⟩
          refine ⟨_, rfl, rfl, _, rfl, ifF rfl ?_⟩
          refine ⟨_, rfl, rfl, _, rfl, ifT rfl ?_⟩
          refine ⟨_, rfl, D, _, _, _, rfl, rfl, SqL.of eD', at1, _, rfl, ?_⟩
          have e : Sy.val row (.bi .iff b c) = (!b.val row || c.val row) := rfl
          rw [e] at q2
          cases hc : c.val row with
          | true =>
            rw [hc, Bool.or_true] at q2
            refine iteT ?_
            exact q2
          | false =>
            rw [hc, Bool.or_false] at q2
            refine iteF ?_
            exact ⟨_, rfl, D, _, _, _, rfl, rfl, SqL.of eD', at0, _, rfl, q2⟩
        | sm =>
          refine ⟨_, rfl, rfl, _, rfl, ifF rfl ?_⟩
          refine ⟨_, rfl, rfl, _, rfl, ifF rfl ?_⟩
          refine ⟨_, rfl, rfl, _, rfl, ifF rfl ?_⟩
          refine ⟨_, rfl, rfl, _, rfl, ifF rfl ?_⟩
          refine ⟨_, rfl, rfl, _, rfl, ifT rfl ?_⟩
          refine ⟨_, rfl, D, _, _, _, rfl, rfl, SqL.of eD', at0, _, rfl, D, _, _, _, rfl, rfl, SqL.of eD', at1, rfl, ?_⟩
          have e : decide (V.bl (b.val row) = V.bl (c.val row)) = Sy.val row (.bi .sm b c) := by
            show _ = (b.val row == c.val row)
            cases b.val row <;> cases c.val row <;> rfl
          rw [e]
          exact q2
theorem no_lvalue : FnOk P w K mg base CX0 (1 + 0) f fd ["_law_saying_here", "_law_row_here"] (spLV 0) := by
  have no : ∀ vs H Q E, ¬ spLV 0 vs H Q E := fun vs H Q E h => by
    obtain ⟨v, d, sy, kvs, row, _, _, h1, _⟩ := h
    cases sy <;> (unfold Sy.dep at h1; omega)
  exact ⟨fun vs H Q E h => absurd h (no vs H Q E), fun A outer s H args us vs Q E _ _ _ _ h => absurd h (no vs H Q E)⟩
theorem all_lvalue (F : FnP K "_law_value" sLV f fd) (T0 : Lv mg K f fd) : ∀ n : Nat, FnOk P w K mg base CX0 (1 + n) f fd ["_law_saying_here", "_law_row_here"] (spLV n)
  | 0 => no_lvalue
  | n + 1 => ok_lvalue F (all_lvalue F T0 n) T0
end
end My

set_option maxRecDepth 100000
set_option maxHeartbeats 4000000
namespace My
open PySem PySem.Spec PyProof.Rows L2
abbrev sLR : Stmt := top 16
abbrev sLN : Stmt := top 17
theorem scLR : FnScope ["_law_names_here", "_law_number", "_law_k"] ["_law_names_here", "_law_number"] (defScope sLR) := ⟨rfl, rfl, rfl, by decide +kernel, rfl, by decide +kernel, by decide +kernel⟩
theorem scLN : FnScope ["_law_saying_here", "_law_found", "_law_part"] ["_law_saying_here"] (defScope sLN) := ⟨rfl, rfl, rfl, by decide +kernel, rfl, by decide +kernel, by decide +kernel⟩
/-! ### dicts of rows -/
structure Rows (A : List Str) (kvs : List (Key × V)) : Prop where
  mem : ∀ p ∈ kvs, ∃ z b, z ∈ A ∧ p = ((Sum.inr z : Key), V.bl b)
  has : ∀ z ∈ A, ∃ b, valV kvs (Sum.inr z : Key) = some (.bl b)
  nd : (kvs.map (·.1)).Nodup
theorem valV_mem {kvs : List (Key × V)} {k : Key} {v : V} (h : valV kvs k = some v) : (k, v) ∈ kvs := by
  unfold valV at h
  cases e : kvs.find? (fun kv => decide (kv.1 = k)) with
  | none => rw [e] at h; cases h
  | some p =>
    rw [e] at h
    have h0 : decide (p.1 = k) = true := List.find?_some (p := fun kv : Key × V => decide (kv.1 = k)) e
    have h1 := of_decide_eq_true h0
    have h2 : p.2 = v := Option.some.inj h
    have h3 := List.mem_of_find?_eq_some e
    rw [← h1, ← h2]
    exact h3
theorem mem_valV : ∀ {kvs : List (Key × V)} {p : Key × V}, (kvs.map (·.1)).Nodup → p ∈ kvs → valV kvs p.1 = some p.2
  | x :: r, p, nd, h => by
    rw [List.map_cons] at nd
    obtain ⟨n1, n2⟩ := List.nodup_cons.mp nd
    rcases List.mem_cons.mp h with rfl | h
    · exact valV_pos rfl
    · rw [valV_neg (fun e => n1 (by rw [e]; exact List.mem_map_of_mem h))]
      exact mem_valV n2 h
theorem Rows.out {A : List Str} {kvs : List (Key × V)} (r : Rows A kvs) {z : Str} (h : z ∉ A) : valV kvs (Sum.inr z : Key) = none := by
  cases e : valV kvs (Sum.inr z : Key) with
  | none => rfl
  | some v =>
    obtain ⟨y, b, hy, e2⟩ := r.mem _ (valV_mem e)
    have := congrArg Prod.fst e2
    have : z = y := Sum.inr.inj this
    exact absurd (this ▸ hy) h
/-- the truth that a row tells of a name -/
def rowOf (kvs : List (Key × V)) : Str → Bool := fun z => match valV kvs (Sum.inr z : Key) with
  | some (.bl b) => b
  | _ => false
theorem Rows.val {A : List Str} {kvs : List (Key × V)} (r : Rows A kvs) {z : Str} {u : V} (h : valV kvs (Sum.inr z : Key) = some u) : u = .bl (rowOf kvs z) := by
  obtain ⟨y, b, _, e2⟩ := r.mem _ (valV_mem h)
  have eu : u = .bl b := congrArg Prod.snd e2
  subst eu
  unfold rowOf
  rw [h]
theorem Rows.get {A : List Str} {kvs : List (Key × V)} (r : Rows A kvs) {z : Str} (h : z ∈ A) : valV kvs (Sum.inr z : Key) = some (.bl (rowOf kvs z)) := by
  obtain ⟨b, e⟩ := r.has z h
  rw [e]
  exact congrArg some (r.val e)
theorem put_keys (kvs : List (Key × V)) (k : Key) (v : V) (nd : (kvs.map (·.1)).Nodup) : ((putK kvs k v).map (·.1)).Nodup := by
  unfold putK
  split
  · rw [List.map_map]
    have e : ((fun p : Key × V => p.1) ∘ fun kv => if kv.1 = k then (kv.1, v) else kv) = (·.1) := by
      funext kv
      show (if kv.1 = k then (kv.1, v) else kv).1 = kv.1
      split <;> rfl
    rw [e]
    exact nd
  · rename_i h
    rw [List.map_append]
    refine List.nodup_append.mpr ⟨nd, by simp, fun a ha b hb => ?_⟩
    rw [List.mem_map] at hb
    obtain ⟨q, hq, rfl⟩ := hb
    rw [List.mem_singleton.mp hq]
    intro e
    subst e
    obtain ⟨p, hp, e⟩ := List.mem_map.mp ha
    exact h (List.any_eq_true.mpr ⟨p, hp, decide_eq_true e⟩)
theorem put_mem {kvs : List (Key × V)} {k : Key} {v : V} {p : Key × V} (h : p ∈ putK kvs k v) : p = (k, v) ∨ p ∈ kvs := by
  unfold putK at h
  split at h
  · obtain ⟨q, hq, rfl⟩ := List.mem_map.mp h
    split
    · rename_i e
      exact .inl (by rw [e])
    · exact .inr hq
  · rcases List.mem_append.mp h with h | h
    · exact .inr h
    · exact .inl (List.mem_singleton.mp h)
theorem merge_mem : ∀ {L acc : List (Key × V)} {p : Key × V}, p ∈ mergeK acc L → p ∈ L ∨ p ∈ acc
  | [], _, _, h => .inr h
  | x :: r, acc, p, h => by
    rcases merge_mem (L := r) (acc := putK acc x.1 x.2) h with h | h
    · exact .inl (List.mem_cons_of_mem _ h)
    · rcases put_mem h with h | h
      · exact .inl (by rw [h]; exact List.mem_cons_self)
      · exact .inr h
theorem merge_keys : ∀ {L acc : List (Key × V)}, (acc.map (·.1)).Nodup → ((mergeK acc L).map (·.1)).Nodup
  | [], _, h => h
  | x :: r, acc, h => merge_keys (L := r) (put_keys acc x.1 x.2 h)
theorem merge_has : ∀ {L acc : List (Key × V)} {k : Key}, (k ∈ L.map (·.1) ∨ (valV acc k).isSome) → (valV (mergeK acc L) k).isSome
  | [], _, _, h => h.elim (fun z => by cases z) id
  | x :: r, acc, k, h => by
    refine merge_has (L := r) (acc := putK acc x.1 x.2) ?_
    rcases h with h | h
    · rw [List.map_cons] at h
      rcases List.mem_cons.mp h with rfl | h
      · right
        rw [valV_put, if_pos rfl]
        rfl
      · exact .inl h
    · right
      rw [valV_put]
      split
      · rfl
      · exact h
theorem merged_rows {A : List Str} {L : List (Key × V)} (h1 : ∀ p ∈ L, ∃ z b, z ∈ A ∧ p = ((Sum.inr z : Key), V.bl b)) (h2 : L.map (·.1) = A.map Sum.inr) : Rows A (mergeK [] L) := by
  have m : ∀ p ∈ mergeK [] L, ∃ z b, z ∈ A ∧ p = ((Sum.inr z : Key), V.bl b) := fun p hp => (merge_mem hp).elim (h1 p) (fun z => by cases z)
  refine ⟨m, fun z hz => ?_, merge_keys List.nodup_nil⟩
  have hs := merge_has (L := L) (acc := []) (k := Sum.inr z) (.inl (by rw [h2]; exact List.mem_map_of_mem hz))
  obtain ⟨u, hu⟩ := Option.isSome_iff_exists.mp hs
  obtain ⟨y, b, _, e⟩ := m _ (valV_mem hu)
  have : u = .bl b := congrArg Prod.snd e
  exact ⟨b, by rw [hu, this]⟩
theorem at0_ {α : Type} {xs : List α} {i : Nat} {x : α} (h : xs[i]? = some x) : atI xs (0 + (i : Int)) = some x := by
  rw [Int.zero_add]
  exact atI_nat h
structure Lr (mg : Str → Option Value) (K : PySem.W.Frag) (fN : Addr) (dN : FuncData) : Prop where
  mdict : mg "dict" = none
  mrange : mg "range" = none
  mlen : mg "len" = none
  mset : mg "set" = none
  msorted : mg "sorted" = none
  gN : mg "_law_names" = some (.ref fN)
  kN : PySem.W.keepIn K (.ref fN) = true
  bN : Binds K dN ["_law_saying_here"] []
def spLR (K : PySem.W.Frag) : Sp := fun vs H Q _ => ∃ (N : Addr) (ws : List Str) (i : Int), vs = [.ref N, .int i] ∧ SqL K H N (ws.map V.str) ∧ ws.length ≤ 1000 ∧
  ∀ (H' : Hp) (p : Addr) (kvs : List (Key × V)), Same H H' → H p = none → H' p = some (.dK kvs) → Rows ws kvs → Q (.ref p) H'
def spLN (n : Nat) : Sp := fun vs H Q _ => ∃ (v : V) (s : Sy), vs = [v] ∧ St H v s ∧ s.sz < 64 ∧ s.dep ≤ n ∧ ∀ (H' : Hp) (p : Addr) (ys : List Str), Same H H' → H p = none → H' p = some (.lst (ys.map V.str)) → sortedS ys = true → ys.Nodup → (∀ z, z ∈ ys ↔ z ∈ s.names) → Q (.ref p) H'
theorem names_sz : ∀ s : Sy, s.names.length ≤ s.sz := fun s => by
  induction s with
  | nt a ih => exact Nat.le_succ_of_le ih
  | bi k a b i1 i2 =>
    show (a.names ++ b.names).length ≤ a.sz + b.sz + 1
    rw [List.length_append]
    omega
  | yes => exact Nat.zero_le _
  | no => exact Nat.zero_le _
  | nm x => exact Nat.le_refl _
theorem sub_len : ∀ (l m : List Str), l.Nodup → (∀ z ∈ l, z ∈ m) → l.length ≤ m.length := by
  intro l
  induction l with
  | nil => intro m _ _; exact Nat.zero_le _
  | cons x r ih =>
    intro m nd hm
    obtain ⟨nx, nr⟩ := List.nodup_cons.mp nd
    have hx := hm x List.mem_cons_self
    have := ih (m.erase x) nr (fun z hz => (List.mem_erase_of_ne (fun e => nx (by rw [← e]; exact hz))).mpr (hm z (List.mem_cons_of_mem _ hz)))
    rw [List.length_erase_of_mem hx] at this
    have pos : 0 < m.length := List.length_pos_of_mem hx
    rw [List.length_cons]
    omega
theorem paired_get {α β : Type} {F : α → β → Prop} : ∀ {l : List α} {m : List β}, Paired F l m → ∀ {j : Nat} {y : α}, l[j]? = some y → ∃ c, m[j]? = some c ∧ F y c := by
  intro l m h
  induction h with
  | nil => intro j y e; simp at e
  | cons x r ih =>
    intro j y e
    cases j with
    | zero => exact ⟨_, rfl, by cases Option.some.inj e; exact x⟩
    | succ j => exact ih e
section
variable {P : Program} {w : World} {K : PySem.W.Frag} {mg : Str → Option Value} {base : Heap} {f fN : Addr} {fd dN : FuncData}
theorem ok_lrow {k : Nat} (F : FnP K "_law_row" sLR f fd) (T0 : Lr mg K fN dN) : FnOk P w K mg base CX0 (k + 1) f fd ["_law_names_here", "_law_number"] (spLR K) := by
  refine F.ok scLR (fun vs H Q E h => ?_) (fun cdv A outer s H vs Q E hr h => ?_)
  · obtain ⟨N, ws, i, rfl, _⟩ := h
    rfl
  obtain ⟨N, ws, num, rfl, hN, hl, q⟩ := h
  refine ⟨_, PSs.nox (pss_one (ps_ret (pe_callTy (call_dictP rfl) (by rfl) T0.mdict (by decide +kernel) (pa_cons (pe_lc (own := [("_law_k", 2)]) (g := gName 2) (tt := tYes) (by rfl) scLR.nd (pi_range1 (by rfl) T0.mrange (pa_cons (pe_callB call_len_seq (by rfl) T0.mlen PySem.boot_len (pa_cons (pv 0) pa_nil)) pa_nil)) (blkOk_by (own := [("_law_k", 2)]) (N := ["_law_names_here", "_law_number", "_law_k"]) (sc := defScope sLR) (by decide +kernel)) (fun _ _ _ _ _ => pg_name (i := 2) scLR.nd rfl (Or.inl rfl)) (fun _ _ _ _ _ => pts_nil) (fun _ _ _ _ _ => (pe_tup (pa_cons (pe_ix (show IxR _ (rIxL K) from ix_list) (pv 0) (pv 2) (fun _ _ => rfl)) (pa_cons (pe_cmpR op_eq (pe_op op_and (pe_op op_shr (pv 1) (pv 2)) pe_int) pe_int (nomark _)) pa_nil))))) pa_nil)))), ?_⟩
  refine ⟨_, rfl, N, _, rfl, .inl hN, ?_⟩
  refine ⟨_, rfl, by omega, by rw [List.length_map]; omega, fun D nD => lc_range (lo := 0) (fun i H' => ∃ (ps : List Addr) (L : List (Key × V)), H' D = some (.lst (ps.map V.ref)) ∧ Paired (fun p kv => H' p = some (.tup [kV kv.1, kv.2])) ps L ∧ ps.length = i ∧ (∀ p ∈ L, ∃ z b, z ∈ ws ∧ p = ((Sum.inr z : Key), V.bl b)) ∧ L.map (·.1) = (ws.take i).map Sum.inr ∧ Same H H') ?_ ?_ ?_⟩
  · exact ⟨[], [], upd_same, .nil, rfl, fun _ z => (List.not_mem_nil z).elim, rfl, same_new nD _⟩
  · rintro i H1 hi ⟨ps, L, eD, hP, hlen, hm, hk, s1⟩
    rw [List.length_map, Int.toNat_natCast] at hi
    have hz : ws[i]? = some ws[i] := List.getElem?_eq_getElem hi
    have hz2 : (ws.map V.str)[i]? = some (.str ws[i]) := by rw [List.getElem?_map, hz]; rfl
    refine ⟨rfl, ?_⟩
    refine ⟨_, rfl, _, rfl, N, _, _, _, rfl, rfl, s1.seq hN, at0_ hz2, ?_⟩
    refine ⟨_, rfl, _, rfl, _, _, rfl, rfl, by omega, _, _, rfl, rfl, rfl, ?_⟩
    refine ⟨by show 2 ≤ sizeLine; decide, fun p np => ?_⟩
    have s2 := same_new np (.tup [.str ws[i], .bl (decide (V.int (Builtin.bitAnd (num / 2 ^ (0 + (i : Int)).toNat) 1) = V.int 1))])
    have ep : (upd H1 p (.tup [.str ws[i], .bl (decide (V.int (Builtin.bitAnd (num / 2 ^ (0 + (i : Int)).toNat) 1) = V.int 1))])) p = some (.tup [.str ws[i], .bl (decide (V.int (Builtin.bitAnd (num / 2 ^ (0 + (i : Int)).toNat) 1) = V.int 1))]) := upd_same
    generalize decide (V.int (Builtin.bitAnd (num / 2 ^ (0 + (i : Int)).toNat) 1) = V.int 1) = b at s2 ep ⊢
    have eD2 := s2 _ _ eD
    refine ⟨_, eD2, ?_, ps ++ [p], L ++ [((Sum.inr ws[i] : Key), .bl b)], ?_, ?_, ?_, ?_, ?_, ?_⟩
    · rw [List.length_map]
      exact small1000 (by omega)
    · rw [upd_same, List.map_append]
      rfl
    · have tk : TupK (upd H1 p (.tup [.str ws[i], .bl b])) (upd (upd H1 p (.tup [.str ws[i], .bl b])) D (.lst (ps.map V.ref ++ [.ref p]))) := TupK.put eD2
      refine paired_app (paired_imp (fun _ _ h => tk _ _ (s2 _ _ h)) hP) (.cons (tk _ _ ep) .nil)
    · rw [List.length_append, hlen]
      rfl
    · intro y hy
      rcases List.mem_append.mp hy with hy | hy
      · exact hm y hy
      · exact ⟨_, _, List.getElem_mem hi, List.mem_singleton.mp hy⟩
    · rw [List.map_append, hk, List.take_add_one, hz, List.map_append]
      rfl
    · intro c o h
      rw [upd_ne (ne_of_none h nD)]
      exact s2 _ _ (s1 _ _ h)
  · rintro H1 ⟨ps, L, eD, hP, hlen, hm, hk, s1⟩
    rw [List.length_map, Int.toNat_natCast, List.take_length] at hk
    refine ⟨D, ps, L, rfl, SqL.of eD, paired_imp (fun _ _ h => .inl (.inl h)) hP, fun p np => ?_⟩
    exact q _ p _ (s1.trans (same_new np _)) (s1.free np) upd_same (merged_rows hm hk)
theorem ok_lnames {n : Nat} (F : FnP K "_law_names" sLN f fd) (GR : FnOk P w K mg base CX0 (1 + n) f fd ["_law_saying_here"] (spLN n)) (T0 : Lr mg K f fd) :
    FnOk P w K mg base CX0 (1 + n + 1) f fd ["_law_saying_here"] (spLN (n + 1)) := by
  refine F.ok scLN (fun vs H Q E h => ?_) (fun cdv A outer s H vs Q E hr h => ?_)
  · obtain ⟨v, sy, rfl, _⟩ := h
    rfl
  obtain ⟨v, sy, rfl, hst, hsz, hdep, q⟩ := h
  refine ⟨_, PSs.nox (pss_cons (ps_if (pt_cmpR op_eq (pe_ix ix_tup (pv 0) pe_int (fun _ _ => rfl)) pe_str (nomark _))
 (pss_one (ps_ret (pe_lst (pa_cons (pe_ix ix_tup (pv 0) pe_int (fun _ _ => rfl)) pa_nil)))) pss_nil)
 (pss_cons (ps_set (i := 1) scLN.nd rfl (Or.inl rfl) (pe_lst pa_nil))
 (pss_cons (ps_for PassesOwn.never rfl (pi_tup (pe_slice sl_tupA (pv 0) (po_some pe_int) po_none)) (pg_name (i := 2) scLN.nd rfl (Or.inl rfl))
 (pss_one (ps_set (i := 1) scLN.nd rfl (Or.inl rfl) (pe_op op_cat (pv 1) (pe_call GR hr (by rfl) T0.gN T0.kN T0.bN .nil pass0 (pa_cons (pv 2) pa_nil))))))
 (pss_one (ps_ret (pe_callB (cr_sortedSS rfl) (by rfl) T0.msorted (by decide +kernel) (pa_cons (pe_callTy (cr_setOfS rfl) (by rfl) T0.mset (by decide +kernel) (pa_cons (pv 1) pa_nil)) pa_nil))))))), ?_⟩
  obtain ⟨a, xs, rfl, ea, hx2, hk⟩ := st_open hst
  have ha : SqT K H a (.str sy.word :: xs) := .inl (.inl ea)
  refine ⟨_, rfl, a, _, _, _, rfl, rfl, ha, at0, rfl, _, rfl, ite2 (fun cw => ?_) (fun cw => ?_)⟩
  · have ew : sy.word = "name" := V.str.inj (of_decide_eq_true cw)
    obtain ⟨x, rfl⟩ : ∃ x, sy = .nm x := by
      cases sy with
      | nm x => exact ⟨x, rfl⟩
      | yes => exact absurd ew (by decide)
      | no => exact absurd ew (by decide)
      | nt a => exact absurd ew (by show ¬ ("not" : Str) = "name"; decide)
      | bi k a b => exact absurd ew (B4.nn k)
    obtain rfl : xs = [.str x] := by
      cases hst with
      | nm _ h =>
        rw [ea] at h
        have := Option.some.inj h
        injection this with this
        injection this
    refine ⟨_, rfl, a, _, _, _, rfl, rfl, ha, at1, (by show 1 ≤ sizeLine; decide), fun p np => ?_⟩
    exact q _ p [x] (same_new np _) np upd_same rfl (by simp) (fun z => by simp [Sy.names])
  · have ew : sy.word ≠ "name" := fun z => cw (decide_eq_true (by rw [z]))
    rw [if_neg ew] at hk
    refine ⟨Nat.zero_le _, fun p0 np0 => ?_⟩
    have s0 := same_new np0 (.lst [])
    have e0 : (upd H p0 (.lst [])) p0 = some (.lst []) := upd_same
    have hk0 := paired_imp (fun _ _ h => st_keep (TupK.of s0) h) hk
    have ha0 := s0 _ _ ea
    generalize upd H p0 (.lst []) = H0 at s0 e0 hk0 ha0 ⊢
    refine ⟨_, rfl, 1, rfl, a, _, rfl, .inl (.inl ha0), fun z => absurd z not_whole, fun _ pp np => ?_⟩
    rw [cut_tail]
    have s1 := same_new np (.tup xs)
    have e1 : (upd H0 pp (.tup xs)) pp = some (.tup xs) := upd_same
    have e01 := s1 _ _ e0
    have hk1 := paired_imp (fun _ _ h => st_keep (TupK.of s1) h) hk0
    have s01 := s0.trans s1
    generalize upd H0 pp (.tup xs) = H1 at s1 e1 e01 hk1 s01 ⊢
    have hlk := paired_len hk1
    have nsm : ∀ i, szs (sy.kids.take i) ≤ szs sy.kids := fun i => by
      have : szs (sy.kids.take i) + szs (sy.kids.drop i) = szs sy.kids := by rw [← szs_app, List.take_append_drop]
      omega
    have hks := szs_kids sy
    refine ⟨pp, rfl, ⟨_, .inl (.inl e1)⟩, for_it (walk_tup (K := K) (a := pp) (xs := xs)) (fun i σ H' => ∃ (r : Addr) (fs : List Str) (kk : Option V), σ = [some (.ref a), some (.ref r), kk] ∧ H' r = some (.lst (fs.map V.str)) ∧ (∀ z, z ∈ fs ↔ z ∈ nmsAll (sy.kids.take i)) ∧ fs.length ≤ szs (sy.kids.take i) ∧ Same H1 H') ?_ ?_ ?_ ?_⟩
    · exact ⟨p0, [], _, rfl, e01, fun z => by simp [nmsAll], Nat.zero_le _, Same.refl _⟩
    · rintro i σ H' _ ⟨_, _, _, _, _, _, _, s2⟩
      exact .inl (.inl (s2 _ _ e1))
    · rintro i x σ Hx H2 hi ⟨r, fs, kk, rfl, er, hm, hn, s2⟩ ⟨rfl, hx⟩
      obtain ⟨cs, hcs, hst1⟩ := paired_get hk1 hx
      have hmem := List.mem_of_getElem? hcs
      have hcd := kid_dep hmem
      have hcz : cs.sz ≤ szs sy.kids := by
        have e := nsm (i + 1)
        have e2 : szs (sy.kids.take (i + 1)) = szs (sy.kids.take i) + cs.sz := by
          rw [List.take_add_one, hcs, szs_app]
          simp [szs]
        omega
      refine ⟨_, rfl, _, rfl, x, cs, rfl, st_keep (TupK.of s2) hst1, by omega, by omega, fun H3 p3 ys s3 n3 e3 so3 nd3 m3 => ?_⟩
      have ly : ys.length ≤ cs.sz := Nat.le_trans (sub_len _ _ nd3 (fun z hz => (m3 z).mp hz)) (names_sz cs)
      have e2 : szs (sy.kids.take (i + 1)) = szs (sy.kids.take i) + cs.sz := by
        rw [List.take_add_one, hcs, szs_app]
        simp [szs]
      have e5 := nsm (i + 1)
      refine ⟨r, p3, _, _, rfl, rfl, s3 _ _ er, e3, ?_, fun p4 n4 => ?_⟩
      · rw [List.length_map, List.length_map]
        exact small (by omega)
      · refine ⟨p4, fs ++ ys, _, rfl, ?_, fun z => ?_, ?_, (s2.trans s3).trans (same_new n4 _)⟩
        · rw [upd_same, List.map_append]
        · rw [List.mem_append, hm z, m3 z, List.take_add_one, hcs]
          unfold nmsAll
          rw [List.flatMap_append, List.mem_append]
          simp
        · rw [List.length_append]
          omega
    · rintro σ H2 ⟨r, fs, kk, rfl, er, hm, hn, s2⟩
      rw [hlk, List.take_length] at hm hn
      refine ⟨_, rfl, r, fs, rfl, SqL.of er, by omega, fun p3 ks n3 nk mk lk => ?_⟩
      have s3 := same_new n3 (SetSO P w p3 ks)
      refine ⟨p3, ks, rfl, upd_same, by omega, fun ys p4 pm so n4 => ?_⟩
      refine q _ p4 ys (((s01.trans s2).trans s3).trans (same_new n4 _)) ((s01.trans s2).free (s3.free n4)) upd_same so (pm.nodup_iff.mpr nk) (fun z => ?_)
      rw [pm.mem_iff, mk z, hm z, nms_kids ew]
theorem no_lnames : FnOk P w K mg base CX0 (1 + 0) f fd ["_law_saying_here"] (spLN 0) := by
  have no : ∀ vs H Q E, ¬ spLN 0 vs H Q E := fun vs H Q E h => by
    obtain ⟨v, sy, _, _, _, h1, _⟩ := h
    cases sy <;> (unfold Sy.dep at h1; omega)
  exact ⟨fun vs H Q E h => absurd h (no vs H Q E), fun A outer s H args us vs Q E _ _ _ _ h => absurd h (no vs H Q E)⟩
theorem all_lnames (F : FnP K "_law_names" sLN f fd) (T0 : Lr mg K f fd) : ∀ n : Nat, FnOk P w K mg base CX0 (1 + n) f fd ["_law_saying_here"] (spLN n)
  | 0 => no_lnames
  | n + 1 => ok_lnames F (all_lnames F T0 n) T0
end
end My

set_option maxRecDepth 100000
set_option maxHeartbeats 4000000
namespace My
open PySem PySem.Spec PyProof.Rows L2
abbrev sTo : Stmt := top 18
theorem scTo : FnScope ["_law_saying_here", "_law_row_here", "_law_found", "_law_caught", "e"] ["_law_saying_here", "_law_row_here"] (defScope sTo) := ⟨rfl, rfl, rfl, by decide +kernel, rfl, by decide +kernel, by decide +kernel⟩
theorem takesN {X : Cx} : Takes X (fun _ _ _ _ => False) := fun _ _ x => by
  obtain ⟨_, _, _, _, _, _, _, _, _, _, _, _, _, _, _, _, z⟩ := x
  exact z.elim
structure Tl (mg : Str → Option Value) (K : PySem.W.Frag) (fH C fI : Addr) (dH : FuncData) (bmB : List Value) (newId : String) : Prop where
  gH : mg "holds" = some (.ref fH)
  kH : PySem.W.keepIn K (.ref fH) = true
  bH : Binds K dH ["saying", "row"] []
  gE : mg "NoName" = some (.ref C)
  err : XE.Err K C fI .name bmB newId
  own : PySem.W.exmOne K (.ref C) (.ref C) = some true
  kin : PySem.W.kitOne K (.ref C) (.type "KeyError") = some true
  misinstance : mg "isinstance" = none
  mKeyError : mg "KeyError" = none
def spTold : Sp := fun vs H Q _ => ∃ (v : V) (r : Addr) (s : Sy) (kvs : List (Key × V)) (row : Str → Bool) (ys : List Str), vs = [v, .ref r] ∧ St H v s ∧ s.sz < 64 ∧ s.dep ≤ 13 ∧ H r = some (.dK kvs) ∧
  (∀ z u, valV kvs (Sum.inr z : Key) = some u → u = .bl (row z)) ∧ sortedS ys = true ∧ ys.Nodup ∧ (∀ z, z ∈ ys ↔ z ∈ s.names) ∧
  (lackIn kvs ys = none → ∀ H', Same H H' → Q (.bl (s.val row)) H') ∧ (∀ z, lackIn kvs ys = some z → ∀ p H', Same H H' → H p = none → H' p = some (.tup [.str z]) → Q (.ref p) H')
section
variable {P : Program} {w : World} {K : PySem.W.Frag} {mg : Str → Option Value} {base : Heap} {f fH C fI : Addr} {fd dH : FuncData} {bmB : List Value} {newId : String}
theorem ok_told (F : FnP K "_law_told" sTo f fd) (GH : FnOk P w K mg base (L2.CX P w) 15 fH dH ["saying", "row"] (spHolds C)) (T0 : Tl mg K fH C fI dH bmB newId) :
    FnOk P w K mg base CX0 16 f fd ["_law_saying_here", "_law_row_here"] spTold := by
  refine F.ok scTo (fun vs H Q E h => ?_) (fun cdv A outer s H vs Q E hr h => ?_)
  · obtain ⟨v, r, sy, kvs, row, ys, rfl, _⟩ := h
    rfl
  obtain ⟨v, r, sy, kvs, row, ys, rfl, hst, hsz, hdep, hrd, hrow, hso, hnd, hmem, q, qe⟩ := h
  refine ⟨_, PSs.nox (pss_cons (ps_set (i := 2) scTo.nd rfl (Or.inl rfl) pe_non)
 (pss_cons (ps_set (i := 3) scTo.nd rfl (Or.inl rfl) pe_non)
 (pss_cons (ps_try_keep (i := 4) (Wout := fun _ _ _ _ => False) rfl rfl scTo.nd rfl rfl ⟨rfl, by decide, .inl T0.gE⟩ takesN (fun W pn xe tk _ =>
 (pss_one (ps_set (i := 2) scTo.nd rfl (Or.inl rfl) (pe_callS GH hr (by rfl) T0.gH T0.kH T0.bH (fun σ => passAt tk σ) (pa_cons (pv 0) (pa_cons (pv 1) pa_nil)))))) (fun a pn =>
 (pss_one (ps_set (i := 3) scTo.nd rfl (Or.inl rfl) (pv 4)))))
 (pss_cons (ps_if (pt_cmpR op_isN (pv 3) pe_non (nomark _))
 (pss_one (ps_ret (pv 2))) pss_nil)
 (pss_one (ps_ret (pe_ifExp (pt_val (pe_callB call_errKIs (by rfl) T0.misinstance (by decide +kernel) (pa_cons (pv 3) (pa_cons (pe_bltn (v := V.ty "KeyError") (by rfl) T0.mKeyError (by decide +kernel) rfl) pa_nil)))) (pe_tup (pa_cons (pe_errK (pv 3)) pa_nil)) pe_non))))))), ?_⟩
  refine ⟨_, rfl, _, rfl, v, r, sy, kvs, row, ys, rfl, hst, hsz, hdep, hrd, hrow, hso, hnd, hmem, fun hl H1 s1 => ?_, fun z hl d H1 s1 nd ed => ?_⟩
  · refine ⟨_, rfl, rfl, _, rfl, iteT ?_⟩
    exact ⟨_, rfl, q hl H1 s1⟩
  · refine ⟨true, T0.own, (fun q => nomatch q), fun _ a na => ?_⟩
    have nda : d ≠ a := fun e => by
      rw [e, na] at ed
      cases ed
    have s2 := same_new na (exk a (.ref C) (some d))
    have ea : (upd H1 a (exk a (.ref C) (some d))) a = some (exk a (.ref C) (some d)) := upd_same
    have ed2 := s2 _ _ ed
    generalize upd H1 a (exk a (.ref C) (some d)) = H2 at s2 ea ed2 ⊢
    refine ⟨_, rfl, ?_⟩
    refine ⟨_, rfl, rfl, _, rfl, iteF ?_⟩
    refine ⟨_, rfl, a, C, fI, d, _, .name, bmB, newId, .ty "KeyError", _, true, rfl, .ty _, T0.err, ea, ed2, T0.kin, _, rfl, iteT ?_⟩
    refine ⟨_, rfl, a, C, d, fI, .name, bmB, newId, _, rfl, rfl, T0.err, ea, ed2, by show 1 ≤ sizeLine; decide, fun p np => ?_⟩
    exact qe z hl p _ ((s1.trans s2).trans (same_new np _)) ((s1.trans s2).free np) upd_same
end
end My

set_option maxRecDepth 100000
set_option maxHeartbeats 4000000
namespace My
open PySem PySem.Spec PyProof.Rows L2
abbrev sLaw : Stmt := top 19
theorem scLaw : FnScope ["_law_script", "_law_tape_here", "_law_names_here", "_law_turn", "_law_saying_here", "_law_there", "_law_found", "_law_row_here", "_law_answer", "_law_out", "_law_name", "_law_fewer", "_law_lacking", "_law_due", "_law_kept"] ["_law_script"] (defScope sLaw) := ⟨rfl, rfl, rfl, by decide +kernel, rfl, by decide +kernel, by decide +kernel⟩
structure Defs (P : Program) (w : World) (K : PySem.W.Frag) (mg : Str → Option Value) (base : Heap) (fT fD fW fS fN fP fR fO fV : Addr) (dT dD dW dS dN dP dR dO dV : FuncData) : Prop where
  GT : FnOk P w K mg base CX0 1 fT dT ["_law_script"] (spTape K)
  GD : FnOk P w K mg base CX0 11 fD dD ["_law_tape_here", "_law_many"] (spDraw 11)
  GW : FnOk P w K mg base CX0 12 fW dW ["_law_tape_here", "_law_many"] (spWords K)
  GS : FnOk P w K mg base CX0 37 fS dS ["_law_tape_here", "_law_names_here", "_law_left", "_law_deep"] (spSay 26)
  GN : FnOk P w K mg base CX0 14 fN dN ["_law_saying_here"] (spLN 13)
  GP : FnOk P w K mg base CX0 2 fP dP ["saying"] spNames
  GR : FnOk P w K mg base CX0 1 fR dR ["_law_names_here", "_law_number"] (spLR K)
  GO : FnOk P w K mg base CX0 16 fO dO ["_law_saying_here", "_law_row_here"] spTold
  GV : FnOk P w K mg base CX0 14 fV dV ["_law_saying_here", "_law_row_here"] (spLV 13)
  gT : mg "_law_tape" = some (.ref fT)
  gD : mg "_law_draw" = some (.ref fD)
  gW : mg "_law_words" = some (.ref fW)
  gS : mg "_law_saying" = some (.ref fS)
  gN : mg "_law_names" = some (.ref fN)
  gP : mg "names_of" = some (.ref fP)
  gR : mg "_law_row" = some (.ref fR)
  gO : mg "_law_told" = some (.ref fO)
  gV : mg "_law_value" = some (.ref fV)
  kT : PySem.W.keepIn K (.ref fT) = true
  kD : PySem.W.keepIn K (.ref fD) = true
  kW : PySem.W.keepIn K (.ref fW) = true
  kS : PySem.W.keepIn K (.ref fS) = true
  kN : PySem.W.keepIn K (.ref fN) = true
  kP : PySem.W.keepIn K (.ref fP) = true
  kR : PySem.W.keepIn K (.ref fR) = true
  kO : PySem.W.keepIn K (.ref fO) = true
  kV : PySem.W.keepIn K (.ref fV) = true
  bT : Binds K dT ["_law_script"] []
  bD : Binds K dD ["_law_tape_here", "_law_many"] []
  bW : Binds K dW ["_law_tape_here", "_law_many"] []
  bS : Binds K dS ["_law_tape_here", "_law_names_here", "_law_left", "_law_deep"] []
  bN : Binds K dN ["_law_saying_here"] []
  bP : Binds K dP ["saying"] []
  bR : Binds K dR ["_law_names_here", "_law_number"] []
  bO : Binds K dO ["_law_saying_here", "_law_row_here"] []
  bV : Binds K dV ["_law_saying_here", "_law_row_here"] []
  mrange : mg "range" = none
  misinstance : mg "isinstance" = none
  mbool : mg "bool" = none
  mdict : mg "dict" = none
theorem cut_to (ws : List Str) (n : Nat) : cutV (ws.map V.str) none (some (n : Int)) = (ws.take n).map V.str := by
  unfold cutV
  rw [show HT.sIx (ws.map V.str).length (ws.map V.str).length (some (n : Int)) = min n (ws.map V.str).length from HT.sIx_nat _ _ n, HT.sIx_none]
  rw [List.length_map, List.drop_zero, Nat.sub_zero, ← List.map_take]
  congr 1
  by_cases h : n ≤ ws.length
  · rw [Nat.min_eq_left h]
  · rw [Nat.min_eq_right (by omega), List.take_of_length_le (Nat.le_refl _), List.take_of_length_le (by omega)]
/-- what is lacking where some names are left out -/
theorem lack_out {A ws : List Str} {kvs : List (Key × V)} (r : Rows A kvs) {os : List Str} (hA : ∀ z, z ∈ A ↔ z ∈ ws ∧ z ∉ os) {ys : List Str} (hy : ∀ z ∈ ys, z ∈ ws) : lackIn kvs ys = (ys.filter fun z => decide (z ∈ os)).head? := by
  unfold lackIn
  rw [List.head?_filter]
  induction ys with
  | nil => rfl
  | cons y q ih =>
    rw [List.find?_cons, List.find?_cons]
    have e : (valV kvs (Sum.inr y : Key)).isNone = decide (y ∈ os) := by
      by_cases h : y ∈ os
      · rw [decide_eq_true h, r.out (fun m => ((hA y).mp m).2 h)]
        rfl
      · obtain ⟨b, e⟩ := r.has y ((hA y).mpr ⟨hy y List.mem_cons_self, h⟩)
        rw [decide_eq_false h, e]
        rfl
    rw [e, ih fun z hz => hy z (List.mem_cons_of_mem _ hz)]
theorem tupK_keep {T L : Addr} {H H' : Hp} {B : Int} (t : Tape H T L B) (k : Keep T H H') : TupK H H' := fun b xs h => k b _ h (fun z => by
  obtain ⟨ns, s, l, a, _⟩ := t
  rw [z, a.d] at h
  cases h)
theorem nT_of {T L b : Addr} {H : Hp} {B : Int} {xs : List V} (t : Tape H T L B) (h : H b = some (.lst xs)) : b ≠ T := fun z => by
  obtain ⟨ns, s, l, a, _⟩ := t
  rw [z, a.d] at h
  cases h
theorem dict_nT {T L b : Addr} {H : Hp} {B : Int} {A : List Str} {kvs : List (Key × V)} (t : Tape H T L B) (h : H b = some (.dK kvs)) (r : Rows A kvs) : b ≠ T := fun z => by
  obtain ⟨ns, s, l, a, _⟩ := t
  rw [z, a.d] at h
  have e : tkv L s l = kvs := by injection Option.some.inj h
  obtain ⟨y, b, _, e2⟩ := r.mem (kS, .int s) (by rw [← e]; unfold tkv; simp)
  have := congrArg Prod.snd e2
  cases this
def spLaw (K : PySem.W.Frag) : Sp := fun vs H Q _ => ∃ (a : Addr) (ns : List Int), vs = [.ref a] ∧ SqL K H a (ns.map V.int) ∧ ∀ H', Q (.bl true) H'
section
variable {P : Program} {w : World} {K : PySem.W.Frag} {mg : Str → Option Value} {base : Heap} {f fT fD fW fS fN fP fR fO fV : Addr} {fd dT dD dW dS dN dP dR dO dV : FuncData}
theorem ok_law (F0 : FnP K "law" sLaw f fd) (C : Defs P w K mg base fT fD fW fS fN fP fR fO fV dT dD dW dS dN dP dR dO dV) : FnOk P w K mg base CX0 38 f fd ["_law_script"] (spLaw K) := by
  refine F0.ok scLaw (fun vs H Q E h => ?_) (fun cdv A outer s H vs Q E hr h => ?_)
  · obtain ⟨a, ns, rfl, _⟩ := h
    rfl
  obtain ⟨a0, ns, rfl, hS, q⟩ := h
  have hu := hu_of hr
  have hu64 := hr.units
  have hu0 := hr.units0
  have hr1 : Room 1 _ := hr.mono (by omega)
  have hr2 : Room 2 _ := hr.mono (by omega)
  have hr11 : Room 11 _ := hr.mono (by omega)
  have hr12 : Room 12 _ := hr.mono (by omega)
  have hr14 : Room 14 _ := hr.mono (by omega)
  have hr16 : Room 16 _ := hr.mono (by omega)
  have hr37 : Room 37 _ := hr.mono (by omega)
  refine ⟨_, PSs.nox (pss_cons (ps_set (i := 1) scLaw.nd rfl (Or.inr rfl) (pe_call C.GT hr1 (by rfl) C.gT C.kT C.bT .nil pass0 (pa_cons (pv 0) pa_nil)))
 (pss_cons (ps_set (i := 2) scLaw.nd rfl (Or.inl rfl) (pe_call C.GW hr12 (by rfl) C.gW C.kW C.bW .nil pass0 (pa_cons (pv 1) (pa_cons pe_int pa_nil))))
 (pss_cons (ps_for PassesOwn.never rfl (pi_range1 (by rfl) C.mrange (pa_cons pe_int pa_nil)) (pg_name (i := 3) scLaw.nd rfl (Or.inl rfl))
 (pss_cons (ps_set (i := 4) scLaw.nd rfl (Or.inl rfl) (pe_call C.GS hr37 (by rfl) C.gS C.kS C.bS .nil pass0 (pa_cons (pv 1) (pa_cons (pe_slice sl_list (pv 2) po_none (po_some pe_int)) (pa_cons (pe_lst (pa_cons (pe_ix ix_list (pe_lst (pa_cons pe_int (pa_cons pe_int pa_nil))) (pe_call C.GD hr11 (by rfl) C.gD C.kD C.bD .nil pass0 (pa_cons (pv 1) (pa_cons pe_int pa_nil))) (fun _ _ => rfl)) pa_nil)) (pa_cons pe_int pa_nil))))))
 (pss_cons (ps_set (i := 5) scLaw.nd rfl (Or.inl rfl) (pe_call C.GN hr14 (by rfl) C.gN C.kN C.bN .nil pass0 (pa_cons (pv 4) pa_nil)))
 (pss_cons (ps_set (i := 6) scLaw.nd rfl (Or.inl rfl) (pe_call C.GP hr2 (by rfl) C.gP C.kP C.bP .nil pass0 (pa_cons (pv 4) pa_nil)))
 (pss_cons (ps_if (pt_cmpR (op_neP hu64) (pv 6) (pv 5) (nomark _))
 (pss_one (ps_ret pe_bl)) pss_nil)
 (pss_cons (ps_expr (pe_bm PySem.F.plainAttrs_list PySem.F.slot_list_append PySem.F.type_list_append mt_append (pv 6) (pa_cons pe_str pa_nil)))
 (pss_cons (ps_if (pt_cmpR (op_neP hu64) (pe_call C.GP hr2 (by rfl) C.gP C.kP C.bP .nil pass0 (pa_cons (pv 4) pa_nil)) (pv 5) (nomark _))
 (pss_one (ps_ret pe_bl)) pss_nil)
 (pss_cons (ps_set (i := 7) scLaw.nd rfl (Or.inr rfl) (pe_call C.GR hr1 (by rfl) C.gR C.kR C.bR .nil pass0 (pa_cons (pv 2) (pa_cons (pe_call C.GD hr11 (by rfl) C.gD C.kD C.bD .nil pass0 (pa_cons (pv 1) (pa_cons pe_int pa_nil))) pa_nil))))
 (pss_cons (ps_set (i := 8) scLaw.nd rfl (Or.inl rfl) (pe_call C.GO hr16 (by rfl) C.gO C.kO C.bO .nil pass0 (pa_cons (pv 4) (pa_cons (pv 7) pa_nil))))
 (pss_cons (ps_if (PW.pt (pw_or (pt_not (pt_val (pe_callB call_isi (by rfl) C.misinstance (by decide +kernel) (pa_cons (pv 8) (pa_cons (pe_bltn (v := V.ty "bool") (by rfl) C.mbool (by decide +kernel) rfl) pa_nil))))) (pw_or1 (pt_cmpR op_ne (pv 8) (pe_call C.GV hr14 (by rfl) C.gV C.kV C.bV .nil pass0 (pa_cons (pv 4) (pa_cons (pv 7) pa_nil))) (nomark _)))))
 (pss_one (ps_ret pe_bl)) pss_nil)
 (pss_cons (ps_set (i := 9) scLaw.nd rfl (Or.inr rfl) (pe_lc (own := [("_law_name", 10)]) (g := gName 10) (tt := _) (by rfl) scLaw.nd (pi_list (pv 2)) (blkOk_by (own := [("_law_name", 10)]) (N := ["_law_script", "_law_tape_here", "_law_names_here", "_law_turn", "_law_saying_here", "_law_there", "_law_found", "_law_row_here", "_law_answer", "_law_out", "_law_name", "_law_fewer", "_law_lacking", "_law_due", "_law_kept"]) (sc := defScope sLaw) (by decide +kernel)) (fun _ _ _ _ _ => pg_name (i := 10) scLaw.nd rfl (Or.inl rfl)) (fun _ _ _ _ _ => (pts_one (pt_cmpR op_eq (pe_call C.GD hr11 (by rfl) C.gD C.kD C.bD .nil pass0 (pa_cons (pv 1) (pa_cons pe_int pa_nil))) pe_int (nomark _)))) (fun _ _ _ _ _ => (pv 10))))
 (pss_cons (ps_set (i := 11) scLaw.nd rfl (Or.inl rfl) (pe_callTy (call_dictP rfl) (by rfl) C.mdict (by decide +kernel) (pa_cons (pe_lc (own := [("_law_name", 10)]) (g := gName 10) (tt := _) (by rfl) scLaw.nd (pi_list (pv 2)) (blkOk_by (own := [("_law_name", 10)]) (N := ["_law_script", "_law_tape_here", "_law_names_here", "_law_turn", "_law_saying_here", "_law_there", "_law_found", "_law_row_here", "_law_answer", "_law_out", "_law_name", "_law_fewer", "_law_lacking", "_law_due", "_law_kept"]) (sc := defScope sLaw) (by decide +kernel)) (fun _ _ _ _ _ => pg_name (i := 10) scLaw.nd rfl (Or.inl rfl)) (fun _ _ _ _ _ => (pts_one (pt_cmpR (show OpR _ (compareOp .NotIn) (rIn K true) from op_notIn_seq) (pv 10) (pv 9) rfl))) (fun _ _ _ _ _ => (pe_tup (pa_cons (pv 10) (pa_cons (pe_dget hu (pv 7) (pv 10) (fun _ _ => rfl)) pa_nil))))) pa_nil)))
 (pss_cons (ps_setLc (i := 12) (own := [("_law_name", 10)]) (g := gName 10) (tt := _) (by rfl) scLaw.nd rfl rfl (sw_true rfl rfl rfl (by decide +kernel)) (pi_list (pv 5)) (blkOk_by (own := [("_law_name", 10)]) (N := ["_law_script", "_law_tape_here", "_law_names_here", "_law_turn", "_law_saying_here", "_law_there", "_law_found", "_law_row_here", "_law_answer", "_law_out", "_law_name", "_law_fewer", "_law_lacking", "_law_due", "_law_kept"]) (sc := defScope sLaw) (by decide +kernel)) (fun _ _ _ _ _ => pg_name (i := 10) scLaw.nd rfl (Or.inl rfl)) (fun _ _ _ _ _ => (pts_one (pt_cmpR (show OpR _ (compareOp .In) (rIn K false) from op_in_seq) (pv 10) (pv 9) rfl))) (fun _ _ _ _ _ => (pv 10)))
 (pss_cons (ps_set (i := 13) scLaw.nd rfl (Or.inl rfl) (pe_ifExp (pt_cmpR (op_eqP hu64) (pv 12) (pe_lst pa_nil) (nomark _)) (pv 8) (pe_tup (pa_cons (pe_ix ix_list (pv 12) pe_int (fun _ _ => rfl)) pa_nil))))
 (pss_cons (ps_set (i := 14) scLaw.nd rfl (Or.inl rfl) (pe_callTy call_dictD (by rfl) C.mdict (by decide +kernel) (pa_cons (pv 11) pa_nil)))
 (pss_one (ps_if (PW.pt (pw_or (pt_cmpR (op_neP hu64) (pe_call C.GO hr16 (by rfl) C.gO C.kO C.bO .nil pass0 (pa_cons (pv 4) (pa_cons (pv 11) pa_nil))) (pv 13) (nomark _)) (pw_or1 (pt_cmpR (op_ne_dictA hu0) (pv 11) (pv 14) (nomark _)))))
 (pss_one (ps_ret pe_bl)) pss_nil)))))))))))))))))
 (pss_one (ps_ret pe_bl))))), ?_⟩
  have hsm : ∀ n : Nat, n ≤ 1000 → n ≤ sizeLine := fun n h => small h
  refine ⟨_, rfl, a0, ns, rfl, hS, fun H1 T L t1 s1 _ _ => ?_⟩
  refine ⟨_, rfl, T, L, 8, 0, rfl, by decide, by decide, t1, fun H2 N ws hl hw eN _ t2 k2 => ?_⟩
  refine ⟨6, rfl, by decide, by decide, for_range (lo := 0) (n := (6 : Int).toNat) (fun i σ H' => ∃ (v1 v2 v3 v4 v5 v6 v7 v8 v9 va vb vc : Option V),
    σ = [some (.ref a0), some (.ref T), some (.ref N), v1, v2, v3, v4, v5, v6, v7, v8, v9, va, vb, vc] ∧ H' N = some (.lst (ws.map V.str)) ∧ Tape H' T L (1000 + 15000 * i)) ?_ ?_ ?_⟩
  · exact ⟨_, _, _, _, _, _, _, _, _, _, _, _, rfl, eN, t2.more (by omega)⟩
  · rintro i σ H3 hi ⟨v1, v2, v3, v4, v5, v6, v7, v8, v9, va, vb, vc, rfl, eN3, t3⟩
    have hi6 : i < 6 := hi
    -- a saying
    refine ⟨_, rfl, _, rfl, 6, rfl, N, _, rfl, SqL.of eN3, fun N6 n6 => ?_⟩
    have e6 : cutV (ws.map V.str) none (some 6) = (ws.take 6).map V.str := cut_to ws 6
    have s6 := same_new n6 (.lst (cutV (ws.map V.str) none (some 6)))
    have f6 : (upd H3 N6 (.lst (cutV (ws.map V.str) none (some 6)))) N6 = some (.lst ((ws.take 6).map V.str)) := by rw [upd_same, e6]
    have eN4 := s6 _ _ eN3
    have t4 := t3.same s6
    generalize upd H3 N6 (.lst (cutV (ws.map V.str) none (some 6))) = H4 at s6 f6 eN4 t4 ⊢
    refine ⟨hsm 2 (by decide), fun pc nc => ?_⟩
    have sc := same_new nc (.lst [.int 8, .int 60])
    have ec : (upd H4 pc (.lst [.int 8, .int 60])) pc = some (.lst [.int 8, .int 60]) := upd_same
    have f6' := sc _ _ f6
    have eN5 := sc _ _ eN4
    have t5 := t4.same sc
    generalize upd H4 pc (.lst [.int 8, .int 60]) = H5 at sc ec f6' eN5 t5 ⊢
    refine ⟨_, rfl, T, L, 2, _, rfl, by decide, by decide, by omega, t5, fun H6 r r0 r1 t6 k6 => ?_⟩
    have ec6 := k6 _ _ ec (nT_of t5 ec)
    have g6 := k6 _ _ f6' (nT_of t5 f6')
    have eN6 := k6 _ _ eN5 (nT_of t5 eN5)
    obtain ⟨l, hl1, hl0, hl3⟩ : ∃ l : Int, atI [V.int 8, V.int 60] r = some (.int l) ∧ 0 ≤ l ∧ l ≤ 60 := by
      have c2 : r = 0 ∨ r = 1 := by omega
      rcases c2 with rfl | rfl <;> exact ⟨_, rfl, by decide, by decide⟩
    refine ⟨pc, _, _, _, rfl, rfl, SqL.of ec6, hl1, hsm 1 (by decide), fun F nF => ?_⟩
    have sF := same_new nF (.lst [.int l])
    have eF : (upd H6 F (.lst [.int l])) F = some (.lst [.int l]) := upd_same
    have eN7 := sF _ _ eN6
    have g7 := sF _ _ g6
    have t7 := t6.same sF
    have nFL : F ≠ L := t6.nL nF
    have nNF : N ≠ F := fun e => by
      rw [e, nF] at eN6
      cases eN6
    generalize upd H6 F (.lst [.int l]) = H7 at sF eF eN7 g7 t7 ⊢
    have lt6 : (ws.take 6).length = 6 := by rw [List.length_take, hl]; rfl
    refine ⟨T, L, N6, F, ws.take 6, l, _, 12, rfl, by decide, by decide, ⟨t7, eF, nFL⟩, hl0, g7, by rw [lt6]; decide, by rw [lt6]; decide, fun z hz => hw z (List.mem_of_mem_take hz), by omega, fun H8 a d l' l0 l1 w8 k8 tt ft zt mt => ?_⟩
    have eN8 := k8 _ _ eN7 (nT_of t7 eN7) nNF
    have t8 : Tape H8 T L (1000 + 15000 * (i : Int) + 11 + 33 * 61) := w8.t.more (by omega)
    clear w8 k8
    have hdw : ∀ z ∈ d.names, z ∈ ws := fun z hz => List.mem_of_mem_take (mt z hz)
    have hz64 : d.sz < 64 := by omega
    -- its names, by the law and by the program
    refine ⟨_, rfl, .ref a, d, rfl, tt, hz64, by omega, fun H9 p1 ys s9 n9 e9 so9 nd9 m9 => ?_⟩
    have tt9 := st_keep (TupK.of s9) tt
    have eN9 := s9 _ _ eN8
    have t9 := t8.same s9
    have hys : ys.length ≤ 63 := by
      have h1 := sub_len _ _ nd9 (fun z hz => (m9 z).mp hz)
      have h2 := names_sz d
      omega
    refine ⟨_, rfl, .ref a, d, rfl, tt9, hz64, fun Ha p2 ys2 sa na ea soa nda ma => ?_⟩
    obtain rfl : ys2 = ys := sorted_alike soa so9 nda nd9 (fun z => (ma z).trans (m9 z).symm)
    have tta := st_keep (TupK.of sa) tt9
    have eNa := sa _ _ eN9
    have ta := t9.same sa
    have e1a := sa _ _ e9
    have ne12 : p1 ≠ p2 := fun e => by
      rw [← e, e9] at na
      cases na
    have neN2 : N ≠ p2 := fun e => by
      rw [← e, eN9] at na
      cases na
    have nT2 := t9.nT na
    have nL2 := t9.nL na
    refine ⟨_, rfl, _, rfl, .list (ys2.map PyData.str), .list (ys2.map PyData.str), .lst (SqL.of ea) (dp_strs ys2), .lst (SqL.of e1a) (dp_strs ys2), plain_strsL ys2, plain_strsL ys2, by rw [depth_strsL]; decide, _, rfl, ifF (by rw [eqv_strs, decide_eq_true rfl]; rfl) ?_⟩
    refine ⟨_, rfl, .inl ⟨rfl, _, SqL.of ea⟩, p2, _, _, rfl, rfl, ea, by rw [List.length_map]; exact small1000 (by omega), ?_⟩
    have ttb := st_keep (TupK.put (o := .lst (ys2.map V.str ++ [.str "other"])) ea) tta
    have eNb : (upd Ha p2 (.lst (ys2.map V.str ++ [.str "other"]))) N = some (.lst (ws.map V.str)) := by rw [upd_ne neN2]; exact eNa
    have e1b : (upd Ha p2 (.lst (ys2.map V.str ++ [.str "other"]))) p1 = some (.lst (ys2.map V.str)) := by rw [upd_ne ne12]; exact e1a
    have tb := ta.put (o := .lst (ys2.map V.str ++ [.str "other"])) nT2 nL2
    generalize upd Ha p2 (.lst (ys2.map V.str ++ [.str "other"])) = Hb at ttb eNb e1b tb ⊢
    refine ⟨_, rfl, .ref a, d, rfl, ttb, hz64, fun Hc p3 ys3 sc3 nc3 ec3 soc ndc mc => ?_⟩
    obtain rfl : ys3 = ys2 := sorted_alike soc so9 ndc nd9 (fun z => (mc z).trans (m9 z).symm)
    have ttc := st_keep (TupK.of sc3) ttb
    have eNc := sc3 _ _ eNb
    have tc := tb.same sc3
    have e1c := sc3 _ _ e1b
    refine ⟨_, rfl, .list (ys3.map PyData.str), .list (ys3.map PyData.str), .lst (SqL.of ec3) (dp_strs ys3), .lst (SqL.of e1c) (dp_strs ys3), plain_strsL ys3, plain_strsL ys3, by rw [depth_strsL]; decide, _, rfl, ifF (by rw [eqv_strs, decide_eq_true rfl]; rfl) ?_⟩
    clear ea e1a ec3 soa soc nda ndc ma mc eNa ta tta sa sc3
    -- a row, and what is told of the saying in it
    refine ⟨_, rfl, _, rfl, T, L, 256, _, rfl, by decide, by decide, by omega, tc, fun Hd r2 r20 r21 td kd => ?_⟩
    have ttd := st_keep (tupK_keep tc kd) ttc
    have eNd := kd _ _ eNc (nT_of tc eNc)
    have e1d := kd _ _ e1c (nT_of tc e1c)
    refine ⟨N, ws, r2, rfl, SqL.of eNd, by omega, fun He pr kvs se ne_ er Rw => ?_⟩
    have tte := st_keep (TupK.of se) ttd
    have eNe := se _ _ eNd
    have e1e := se _ _ e1d
    have te := td.same se
    have hys_ws : ∀ z ∈ ys3, z ∈ ws := fun z hz => hdw z ((m9 z).mp hz)
    have lk0 : lackIn kvs ys3 = none := by
      unfold lackIn
      refine List.find?_eq_none.mpr fun z hz => ?_
      obtain ⟨b, e⟩ := Rw.has z (hys_ws z hz)
      rw [e]
      exact Bool.false_ne_true
    refine ⟨_, rfl, _, rfl, .ref a, pr, d, kvs, rowOf kvs, ys3, rfl, tte, hz64, by omega, er, fun z u h => Rw.val h, so9, nd9, m9, fun _ Hf sf => ?_, fun z hz => ?_⟩
    case refine_2 =>
      rw [lk0] at hz
      cases hz
    have ttf := st_keep (TupK.of sf) tte
    have eNf := sf _ _ eNe
    have e1f := sf _ _ e1e
    have tf := te.same sf
    have erf := sf _ _ er
    refine ⟨_, rfl, .bl _, .ty "bool", _, _, _, rfl, .ty _, .base (.bl _), kit_ty (by decide +kernel : kitB "bool" "bool" = some true), _, rfl, iteF ?_⟩
    refine ⟨_, rfl, _, rfl, _, rfl, .ref a, pr, d, kvs, rowOf kvs, rfl, ttf, by omega, erf, fun z hz => Rw.get (hdw z hz), fun Hg sg => ?_⟩
    refine ⟨rfl, _, rfl, ifF (by rw [decide_eq_true rfl]; rfl) ?_⟩
    have ttg := st_keep (TupK.of sg) ttf
    have eNg := sg _ _ eNf
    have e1g := sg _ _ e1f
    have tg := tf.same sg
    have erg := sg _ _ erf
    -- the names left out
    refine ⟨_, rfl, N, rfl, ⟨_, SqL.of eNg⟩, fun D nD => lc_list (K := K) (a := N) (xs := ws.map V.str) (fun j H' => ∃ os : List Str, H' D = some (.lst (os.map V.str)) ∧ os.length ≤ j ∧ Tape H' T L (1000 + 15000 * (i : Int) + 3000 + 11 * j) ∧ Keep T Hg H') ?_ ?_ ?_ ?_⟩
    · exact ⟨[], upd_same, Nat.le_refl _, (tg.same (same_new nD _)).more (by omega), Keep.of (same_new nD _)⟩
    · rintro j H' _ ⟨os, eD, ho, tD, kD⟩
      exact SqL.of (kD _ _ eNg (nT_of tg eNg))
    · rintro j x H' hx ⟨os, eD, ho, tD, kD⟩
      have hj : j < 8 := by
        have := (List.getElem?_eq_some_iff.mp hx).1
        rw [List.length_map, hl] at this
        exact this
      obtain ⟨z, hz, rfl⟩ : ∃ z, ws[j]? = some z ∧ x = V.str z := by
        rw [List.getElem?_map] at hx
        cases e : ws[j]? with
        | none =>
          rw [e] at hx
          cases hx
        | some z =>
          rw [e] at hx
          exact ⟨z, rfl, (Option.some.inj hx).symm⟩
      refine ⟨rfl, ?_⟩
      refine ⟨_, rfl, T, L, 4, _, rfl, by decide, by decide, by omega, tD, fun H4 r r0 r1 t4 k4 => ?_⟩
      have eD4 := k4 _ _ eD (nT_of tD eD)
      refine ⟨rfl, _, rfl, ite2 (fun c => ?_) (fun c => ?_)⟩
      · refine ⟨_, rfl, _, eD4, by rw [List.length_map]; exact small1000 (by omega), os ++ [z], ?_, by rw [List.length_append]; exact Nat.succ_le_succ ho, ?_, ?_⟩
        · rw [upd_same, List.map_append]
          rfl
        · exact (t4.put (tg.nT nD) (tg.nL nD)).more (by omega)
        · intro b o h n
          rw [upd_ne (ne_of_none h nD)]
          exact k4 _ _ (kD _ _ h n) n
      · exact ⟨os, eD4, by omega, t4.more (by omega), kD.trans k4⟩
    · rintro Hh ⟨os, eD, ho, th, kh⟩
      rw [List.length_map, hl] at ho th
      have tth := st_keep (tupK_keep tg kh) ttg
      have eNh := kh _ _ eNg (nT_of tg eNg)
      have e1h := kh _ _ e1g (nT_of tg e1g)
      have erh := kh _ _ erg (dict_nT tg erg Rw)
      -- the row without them
      refine ⟨_, rfl, N, rfl, ⟨_, SqL.of eNh⟩, fun D2 nD2 => lc_list (K := K) (a := N) (xs := ws.map V.str) (fun j H' => ∃ (ps : List Addr) (Lk : List (Key × V)), H' D2 = some (.lst (ps.map V.ref)) ∧ Paired (fun p kv => H' p = some (.tup [kV kv.1, kv.2])) ps Lk ∧ ps.length ≤ j ∧ (∀ p ∈ Lk, ∃ z, (z ∈ ws ∧ z ∉ os) ∧ p = ((Sum.inr z : Key), V.bl (rowOf kvs z))) ∧ Lk.map (·.1) = ((ws.take j).filter fun z => !decide (z ∈ os)).map Sum.inr ∧ Same Hh H') ?_ ?_ ?_ ?_⟩
      · exact ⟨[], [], upd_same, .nil, Nat.le_refl _, fun _ z => (List.not_mem_nil z).elim, rfl, same_new nD2 _⟩
      · rintro j H' _ ⟨_, _, _, _, _, _, _, s2⟩
        exact SqL.of (s2 _ _ eNh)
      · rintro j x H' hx ⟨ps, Lk, eD2, hP, hlen, hm, hk, s2⟩
        have hj : j < 8 := by
          have := (List.getElem?_eq_some_iff.mp hx).1
          rw [List.length_map, hl] at this
          exact this
        obtain ⟨z, hz, rfl⟩ : ∃ z, ws[j]? = some z ∧ x = V.str z := by
          rw [List.getElem?_map] at hx
          cases e : ws[j]? with
          | none =>
            rw [e] at hx
            cases hx
          | some z =>
            rw [e] at hx
            exact ⟨z, rfl, (Option.some.inj hx).symm⟩
        refine ⟨rfl, ?_⟩
        refine ⟨_, rfl, _, rfl, D, _, rfl, .inl (SqL.of (s2 _ _ eD)), rfl, flat_strs os, _, rfl, ?_⟩
        have ei := inV_strs z os
        cases e3 : inV (.str z) (os.map V.str) with
        | true =>
          rw [e3] at ei
          have zo : z ∈ os := of_decide_eq_true ei.symm
          refine iteF ?_
          refine ⟨ps, Lk, eD2, hP, by omega, hm, ?_, s2⟩
          rw [hk, List.take_add_one, hz]
          simp [zo]
        | false =>
          rw [e3] at ei
          have zo : z ∉ os := of_decide_eq_false ei.symm
          have zw := List.mem_of_getElem? hz
          have hg := DGet.k (k := (Sum.inr z : Key)) (s2 _ _ erh)
          rw [Rw.get zw] at hg
          refine iteT ?_
          refine ⟨_, rfl, _, rfl, _, rfl, pr, _, rfl, hg, hsm 2 (by decide), fun p np => ?_⟩
          have s3 := same_new np (.tup [.str z, .bl (rowOf kvs z)])
          have ep : (upd H' p (.tup [.str z, .bl (rowOf kvs z)])) p = some (.tup [.str z, .bl (rowOf kvs z)]) := upd_same
          generalize upd H' p (.tup [.str z, .bl (rowOf kvs z)]) = H5 at s3 ep ⊢
          have eD5 := s3 _ _ eD2
          refine ⟨_, eD5, by rw [List.length_map]; exact small1000 (by omega), ps ++ [p], Lk ++ [((Sum.inr z : Key), .bl (rowOf kvs z))], ?_, ?_, ?_, ?_, ?_, ?_⟩
          · rw [upd_same, List.map_append]
            rfl
          · have tk : TupK H5 (upd H5 D2 (.lst (ps.map V.ref ++ [.ref p]))) := TupK.put eD5
            exact paired_app (paired_imp (fun _ _ h => tk _ _ (s3 _ _ h)) hP) (.cons (tk _ _ ep) .nil)
          · rw [List.length_append]
            exact Nat.succ_le_succ hlen
          · intro y hy
            rcases List.mem_append.mp hy with hy | hy
            · exact hm y hy
            · exact ⟨z, ⟨zw, zo⟩, List.mem_singleton.mp hy⟩
          · rw [List.map_append, hk, List.take_add_one, hz]
            simp [zo]
          · intro b o h
            rw [upd_ne (ne_of_none h nD2)]
            exact s3 _ _ (s2 _ _ h)
      · rintro Hi ⟨ps, Lk, eD2, hP, hlen, hm, hk, s2⟩
        rw [List.length_map, List.take_length] at hk
        have Rf : Rows (ws.filter fun z => !decide (z ∈ os)) (mergeK [] Lk) := merged_rows (fun p hp => by
          obtain ⟨z, ⟨h1, h2⟩, e⟩ := hm p hp
          exact ⟨z, _, List.mem_filter.mpr ⟨h1, by rw [decide_eq_false h2]; rfl⟩, e⟩) hk
        have hfv : ∀ z u, valV (mergeK [] Lk) (Sum.inr z : Key) = some u → u = .bl (rowOf kvs z) := fun z u h => by
          rcases merge_mem (valV_mem h) with h | h
          · obtain ⟨y, _, e⟩ := hm _ h
            have e1 : z = y := Sum.inr.inj (congrArg Prod.fst e)
            have e2 : u = .bl (rowOf kvs y) := congrArg Prod.snd e
            rw [e2, e1]
          · cases h
        refine ⟨D2, ps, Lk, rfl, SqL.of eD2, paired_imp (fun _ _ h => .inl (.inl h)) hP, fun pf nf => ?_⟩
        have s3 := s2.trans (same_new nf (.dK (mergeK [] Lk)))
        have ef : (upd Hi pf (.dK (mergeK [] Lk))) pf = some (.dK (mergeK [] Lk)) := upd_same
        generalize upd Hi pf (.dK (mergeK [] Lk)) = Hj at s3 ef ⊢
        have ttj := st_keep (TupK.of s3) tth
        have eNj := s3 _ _ eNh
        have e1j := s3 _ _ e1h
        have tj := th.same s3
        have eDj := s3 _ _ eD
        clear s3 s2 hP eD2 hm hk
        generalize mergeK [] Lk = kvf at Rf hfv ef
        have lkf := lack_out Rf (os := os) (ws := ws) (fun z => by simp) hys_ws
        -- what is lacking
        refine ⟨_, rfl, p1, rfl, ⟨_, SqL.of e1j⟩, fun D3 nD3 => lc_list (K := K) (a := p1) (xs := ys3.map V.str) (fun j H' => H' D3 = some (.lst (((ys3.take j).filter fun z => decide (z ∈ os)).map V.str)) ∧ Same Hj H') ?_ ?_ ?_ ?_⟩
        · exact ⟨upd_same, same_new nD3 _⟩
        · rintro j H' _ ⟨_, s2⟩
          exact SqL.of (s2 _ _ e1j)
        · rintro j x H' hx ⟨e3, s2⟩
          have hj : j < ys3.length := by
            have := (List.getElem?_eq_some_iff.mp hx).1
            rw [List.length_map] at this
            exact this
          obtain ⟨z, hz, rfl⟩ : ∃ z, ys3[j]? = some z ∧ x = V.str z := by
            rw [List.getElem?_map] at hx
            cases e : ys3[j]? with
            | none =>
              rw [e] at hx
              cases hx
            | some z =>
              rw [e] at hx
              exact ⟨z, rfl, (Option.some.inj hx).symm⟩
          refine ⟨rfl, ?_⟩
          refine ⟨_, rfl, _, rfl, D, _, rfl, .inl (SqL.of (s2 _ _ eDj)), rfl, flat_strs os, _, rfl, ?_⟩
          have ei := inV_strs z os
          cases e4 : inV (.str z) (os.map V.str) with
          | true =>
            rw [e4] at ei
            have zo : z ∈ os := of_decide_eq_true ei.symm
            refine iteT ?_
            refine ⟨_, rfl, _, e3, ?_, ?_, ?_⟩
            · rw [List.length_map]
              refine small1000 (Nat.le_trans (List.length_filter_le _ _) ?_)
              rw [List.length_take]
              omega
            · rw [upd_same, List.take_add_one, hz, List.filter_append, List.map_append]
              simp [zo]
            · intro b o h
              rw [upd_ne (ne_of_none h nD3)]
              exact s2 _ _ h
          | false =>
            rw [e4] at ei
            have zo : z ∉ os := of_decide_eq_false ei.symm
            refine iteF ?_
            refine ⟨?_, s2⟩
            rw [e3, List.take_add_one, hz, List.filter_append]
            simp [zo]
        · rintro Hk ⟨e3, sk⟩
          rw [List.length_map, List.take_length] at e3
          have ttk := st_keep (TupK.of sk) ttj
          have eNk := sk _ _ eNj
          have efk := sk _ _ ef
          have tk := tj.same sk
          generalize (ys3.filter fun z => decide (z ∈ os)) = ls at lkf e3
          have hlast : ∀ H' : Hp, Same Hk H' → ∃ B, B ≤ 1000 + 15000 * ((i + 1 : Nat) : Int) ∧ Tape H' T L B ∧ H' N = some (.lst (ws.map V.str)) := fun H' s' => ⟨_, by omega, tk.same s', s' _ _ eNk⟩
          refine ⟨_, rfl, Nat.zero_le _, fun pz nz => ?_⟩
          have sz := same_new nz (.lst [])
          have ez : (upd Hk pz (.lst [])) pz = some (.lst []) := upd_same
          have e3z := sz _ _ e3
          generalize upd Hk pz (.lst []) = Hl at sz ez e3z ⊢
          refine ⟨.list (ls.map PyData.str), .list [], .lst (SqL.of e3z) (dp_strs ls), .lst (SqL.of ez) .nil, plain_strsL ls, by simp [PyData.plain, PyData.plainAll], Nat.le_trans (Nat.min_le_left _ _) (by rw [depth_strsL]; decide), _, rfl, ?_⟩
          rw [eqv_nil]
          cases ls with
          | nil =>
            refine iteT ?_
            refine ⟨_, rfl, ?_⟩
            refine ⟨_, rfl, pf, _, rfl, Rd.of (sz _ _ efk), fun pk nk => ?_⟩
            have s4 := same_new nk (.dK kvf)
            have ek : (upd Hl pk (.dK kvf)) pk = some (.dK kvf) := upd_same
            generalize upd Hl pk (.dK kvf) = Hm at s4 ek ⊢
            have efm := s4 _ _ (sz _ _ efk)
            refine ⟨_, rfl, _, rfl, .ref a, pf, d, kvf, rowOf kvs, ys3, rfl, st_keep (TupK.of (sz.trans s4)) ttk, hz64, by omega, efm, hfv, so9, nd9, m9, fun _ Hn s5 => ?_, fun z hz => ?_⟩
            case refine_2 =>
              rw [lkf] at hz
              cases hz
            refine ⟨_, rfl, .bool _, .bool _, .bl _, .bl _, rfl, rfl, by simp [PyData.depth], _, rfl, ifF (by simp [PyData.eqv]) ?_⟩
            refine ⟨_, rfl, _, rfl, pf, pk, kvf, kvf, rfl, rfl, s5 _ _ efm, s5 _ _ ek, rfl, fun p hp => ⟨mem_valV Rf.nd hp, ?_⟩, _, rfl, iteF ?_⟩
            · obtain ⟨z, b, _, e⟩ := Rf.mem p hp
              rw [e]
              rfl
            · obtain ⟨B, hB, tz, ez⟩ := hlast Hn ((sz.trans s4).trans s5)
              exact ⟨_, _, _, _, _, _, _, _, _, _, _, _, rfl, ez, tz.more hB⟩
          | cons x0 lr =>
            refine iteF ?_
            refine ⟨_, rfl, D3, _, _, _, rfl, rfl, SqL.of e3z, at0, hsm 1 (by decide), fun pd nd => ?_⟩
            have sd := same_new nd (.tup [.str x0])
            have ed : (upd Hl pd (.tup [.str x0])) pd = some (.tup [.str x0]) := upd_same
            generalize upd Hl pd (.tup [.str x0]) = Hl2 at sd ed ⊢
            refine ⟨_, rfl, pf, _, rfl, Rd.of (sd _ _ (sz _ _ efk)), fun pk nk => ?_⟩
            have s4 := same_new nk (.dK kvf)
            have ek : (upd Hl2 pk (.dK kvf)) pk = some (.dK kvf) := upd_same
            have ed4 := s4 _ _ ed
            generalize upd Hl2 pk (.dK kvf) = Hm at s4 ek ed4 ⊢
            have efm := s4 _ _ (sd _ _ (sz _ _ efk))
            refine ⟨_, rfl, _, rfl, .ref a, pf, d, kvf, rowOf kvs, ys3, rfl, st_keep (TupK.of ((sz.trans sd).trans s4)) ttk, hz64, by omega, efm, hfv, so9, nd9, m9, fun hz => ?_, fun z hz po Hn s5 no eo => ?_⟩
            case refine_1 =>
              rw [lkf] at hz
              cases hz
            obtain rfl : x0 = z := by
              rw [lkf] at hz
              exact Option.some.inj hz
            refine ⟨_, rfl, .tuple [.str x0], .tuple [.str x0], .tup (.inl (.inl eo)) (.cons (.str _) .nil), .tup (.inl (.inl (s5 _ _ ed4))) (.cons (.str _) .nil), by simp [PyData.plain, PyData.plainAll], by simp [PyData.plain, PyData.plainAll], by simp [PyData.depth, PyData.depthAll], _, rfl, ifF (by simp [PyData.eqv, PyData.eqvAll]) ?_⟩
            refine ⟨_, rfl, _, rfl, pf, pk, kvf, kvf, rfl, rfl, s5 _ _ efm, s5 _ _ ek, rfl, fun p hp => ⟨mem_valV Rf.nd hp, ?_⟩, _, rfl, iteF ?_⟩
            · obtain ⟨z, b, _, e⟩ := Rf.mem p hp
              rw [e]
              rfl
            · obtain ⟨B, hB, tz, ez⟩ := hlast Hn (((sz.trans sd).trans s4).trans s5)
              exact ⟨_, _, _, _, _, _, _, _, _, _, _, _, rfl, ez, tz.more hB⟩
  · rintro σ H3 ⟨v1, v2, v3, v4, v5, v6, v7, v8, v9, va, vb, vc, rfl, eN3, t3⟩
    exact q H3
end
end My

set_option maxRecDepth 100000
set_option maxHeartbeats 0
namespace My
open PySem PySem.Spec PyProof.Rows L2 XE
def dd (x : Str) (i : Nat) : He.DefD := ⟨(x, none), x, x, defArgs (top i), defBody (top i), defScope (top i), [], []⟩
def iSt (i : Nat) : Stmt := inClass (top i) 0
def di (x q : Str) (i : Nat) : He.DefD := ⟨(x, some "__init__"), "__init__", q, defArgs (iSt i), defBody (iSt i), defScope (iSt i), [], []⟩
def mI (K : PySem.W.Frag) (x : Str) : Addr := He.ma K (He.ga K x) "__init__"
def errB (K : PySem.W.Frag) (x : Str) (fl : Fl) (bm : List Value) (nw : String) : Bool :=
  PySem.W.excInitIn K (He.ga K x) bm nw && (PySem.W.excOver K (He.ga K x) bm && (decide (PySem.W.findIn K (.ref (He.ga K x)) "__init__" = some (some (.ref (mI K x)))) && (PySem.W.isFn K (.ref (mI K x)) &&
  (decide (PySem.W.findIn K (.ref (He.ga K x)) "__setattr__" = some (some (.builtin "object.__setattr__"))) && (decide (PySem.W.takerIn K (He.ga K x) fl.s = some none) && (PySem.W.hasDictIn K (He.ga K x) && (decide (PySem.W.findIn K (.ref (He.ga K x)) fl.s = some none) &&
  (decide (PySem.W.findIn K (.ref (He.ga K x)) "__getattribute__" = some (some (.builtin "BaseException.__getattribute__"))) && (decide (PySem.W.findIn K (.ref (He.ga K x)) "__getattr__" = some none) && (decide (PySem.W.subIn K (.ref (He.ga K x)) (.type "BaseException") = some true) && (PySem.W.keepIn K (.ref (He.ga K x)) &&
  (decide (PySem.W.findIn K (.ref (He.ga K x)) "__class__" = some (some (.builtin "object.__class__"))) && (decide (PySem.W.specialIn K (.builtin "object.__class__") "__get__" = some (some (.builtin "getset_descriptor.__get__"))) &&
  (decide (PySem.W.takesIn K (.builtin "object.__class__") = some true) && (decide (PySem.W.mroIn K (He.ga K x) (.type "object") = some true) && (decide (PySem.W.typeIn K (.ref (He.ga K x)) = some (.type "type")) && decide (PySem.W.exmOne K (.ref (He.ga K x)) (.ref (He.ga K x)) = some true)))))))))))))))))
theorem init_of {K : PySem.W.Frag} {f : Addr} {fd : FuncData} {qual : Str} {st : Stmt} {fl : Fl} {p1 p2 q1 q2 q3 q4 : Pos} (F : FunD K "__init__" qual (defArgs st) (defBody st) (defScope st) [] [] f fd) (e1 : defArgs st = iA fl p1 p2) (e2 : defBody st = iB fl q1 q2 q3 q4) (e3 : defScope st = iS fl) :
    ∃ (qual : Str) (oc : Value) (od : Option Addr) (kv doc pm : Value) (an : Option Addr) (cdv ct : Value) (osl : Array (Option Value)) (p1 p2 q1 q2 q3 q4 : Pos),
      K.lookup f = some ⟨oc, od, .func (PySem.W.fnOf "__init__" qual (iA fl p1 p2) (iB fl q1 q2 q3 q4) (iS fl) .none kv doc pm an cdv ct), osl⟩ ∧ PySem.W.codeIn K cdv qual = true := by
  obtain ⟨oc, od, dV, kV, doc, pm, an, cdv, ct, osl, rfl, lk, hcd, hD, hK⟩ := F.ex
  rcases hD with ⟨_, rfl⟩ | ⟨e, _⟩
  · rw [e1, e2, e3] at lk
    exact ⟨qual, oc, od, kV, doc, pm, an, cdv, ct, osl, p1, p2, q1, q2, q3, q4, lk, hcd⟩
  · exact absurd rfl e
theorem both {a b : Bool} (h : (a && b) = true) : a = true ∧ b = true := Bool.and_eq_true_iff.mp h
theorem err_of {K : PySem.W.Frag} {x : Str} {fl : Fl} {bm : List Value} {nw : String} (five : Five bm nw) (h0 : errB K x fl bm nw = true) (ini : ∃ (qual : Str) (oc : Value) (od : Option Addr) (kv doc pm : Value) (an : Option Addr) (cdv ct : Value) (osl : Array (Option Value)) (p1 p2 q1 q2 q3 q4 : Pos),
      K.lookup (mI K x) = some ⟨oc, od, .func (PySem.W.fnOf "__init__" qual (iA fl p1 p2) (iB fl q1 q2 q3 q4) (iS fl) .none kv doc pm an cdv ct), osl⟩ ∧ PySem.W.codeIn K cdv qual = true) :
    Err K (He.ga K x) (mI K x) fl bm nw ∧ PySem.W.typeIn K (.ref (He.ga K x)) = some (.type "type") ∧ PySem.W.exmOne K (.ref (He.ga K x)) (.ref (He.ga K x)) = some true := by
  unfold errB at h0
  obtain ⟨h1, h0⟩ := both h0
  obtain ⟨h2, h0⟩ := both h0
  obtain ⟨h3, h0⟩ := both h0
  obtain ⟨h4, h0⟩ := both h0
  obtain ⟨h5, h0⟩ := both h0
  obtain ⟨h6, h0⟩ := both h0
  obtain ⟨h7, h0⟩ := both h0
  obtain ⟨h8, h0⟩ := both h0
  obtain ⟨h9, h0⟩ := both h0
  obtain ⟨h10, h0⟩ := both h0
  obtain ⟨h11, h0⟩ := both h0
  obtain ⟨h12, h0⟩ := both h0
  obtain ⟨h13, h0⟩ := both h0
  obtain ⟨h14, h0⟩ := both h0
  obtain ⟨h15, h0⟩ := both h0
  obtain ⟨h16, h0⟩ := both h0
  obtain ⟨h17, h18⟩ := both h0
  exact ⟨⟨five, h1, h2, of_decide_eq_true h3, h4, of_decide_eq_true h5, of_decide_eq_true h6, h7, of_decide_eq_true h8, of_decide_eq_true h9, of_decide_eq_true h10, of_decide_eq_true h11, h12, of_decide_eq_true h13, of_decide_eq_true h14, of_decide_eq_true h15, of_decide_eq_true h16, ini⟩, of_decide_eq_true h17, of_decide_eq_true h18⟩
def bm_NoName : List Value := [.type "KeyError", .type "LookupError", .type "Exception", .type "BaseException", .type "object"]
def fn : List He.DefD := [di "NoName" "NoName.__init__" 1, dd "refuse_lacking" 3, dd "parts_of" 5, dd "names_of" 6, dd "value_of" 7, dd "value_of_parts" 8, dd "holds" 9, dd "_law_tape" 11, dd "_law_draw" 12, dd "_law_words" 13, dd "_law_saying" 14, dd "_law_value" 15, dd "_law_row" 16, dd "_law_names" 17, dd "_law_told" 18, dd "law" 19]
def fa : List He.Fa := [.glo "NoName", .glo "refuse_lacking", .glo "parts_of", .glo "names_of", .glo "value_of", .glo "value_of_parts", .glo "holds", .glo "_law_tape", .glo "_law_draw", .glo "_law_words", .glo "_law_saying", .glo "_law_value", .glo "_law_row", .glo "_law_names", .glo "_law_told", .glo "law", .free "len", .free "range", .free "sorted", .free "min", .free "int", .free "set", .free "dict", .free "isinstance", .free "bool", .free "KeyError"]

def exK (K : PySem.W.Frag) : Bool := errB K "NoName" .name bm_NoName "LookupError.__new__" && (decide (PySem.W.kitOne K (.ref (He.ga K "NoName")) (.type "KeyError") = some true))
def ts : List He.Tab := []
abbrev R : PySem.W.OpenRow := PySem.W.OpenLaw.row PySem.Challenge.rw_middlesay_k02_sayings_hold
def hookM : PySem.W.Hook := He.hookX 5 fa fn ts [] exK
def ob (s : PySem.W.SharedT) : hookM.α := He.obsX 5 fa fn ts [] exK (HandSHeadRun.getT s)
theorem ob_eq (s : PySem.W.SharedT) : ob s = hookM.obs s.abs := He.obsX_eq (fun a => HandSHeadRun.getT_eq s a)
abbrev loose : List Str := ["NoName", "refuse_lacking", "parts_of", "names_of", "value_of", "value_of_parts", "holds", "_law_tape", "_law_draw", "_law_words", "_law_saying", "_law_value", "_law_row", "_law_names", "_law_told"]
theorem run (w : World) : HandSHeadRun.RunEq R (PySem.W.view R.prog [19]) hookM ob 4000 loose w := by
  intro os
  kernel_rfl
end My

set_option maxRecDepth 100000
set_option maxHeartbeats 0
namespace My
open PySem PySem.Spec PyProof.Rows L2 XE

theorem facts {P : Program} {w : World} {K : PySem.W.Frag} {h : Heap} {mg : Str → Option Value} {f : Addr} (X : K.In h) (G : h.Ns mainGlobals mg) (hfa : mg ("law" : Str) = some (.ref f)) (c : He.SaysX fa fn ts [] exK w h K) :
    ∃ fd : FuncData, (∀ (s : Shared) (v : Value), BindsTo s fd ⟨[v], []⟩ [("_law_script", v)]) ∧ ∀ base : Heap, K.In base → base.Ns mainGlobals mg → FnOk P w K mg base CX0 38 f fd ["_law_script"] (spLaw K) := by
  have cd : He.SaysD fa fn K := c.t.d
  have cm : exK K = true := c.more
  have g : ∀ {x : Str} (i : Nat), fa[i]? = some (.glo x) → mg x = some (.ref (He.ga K x)) := fun i e => He.glo_ok X G (cd.fact i e)
  have fr : ∀ {x : Str} (i : Nat), fa[i]? = some (.free x) → mg x = none := fun i e => He.free_ok X G (cd.fact i e)
  obtain ⟨dI_NoName, FI_NoName⟩ := cd.def_ 0 (d := di "NoName" "NoName.__init__" 1) rfl
  have g_NoName := g (x := "NoName") 0 rfl
  obtain ⟨d_refuse_lacking, F_refuse_lacking⟩ := cd.def_ 1 (d := dd "refuse_lacking" 3) rfl
  have b_refuse_lacking : Binds K d_refuse_lacking ["names", "known"] [] := F_refuse_lacking.bindsN fun _ _ _ _ _ _ us hl => match us, hl with | [_, _], _ => rfl
  have g_refuse_lacking := g (x := "refuse_lacking") 1 rfl
  obtain ⟨d_parts_of, F_parts_of⟩ := cd.def_ 2 (d := dd "parts_of" 5) rfl
  have b_parts_of : Binds K d_parts_of ["saying"] [] := F_parts_of.bindsN fun _ _ _ _ _ _ us hl => match us, hl with | [_], _ => rfl
  have g_parts_of := g (x := "parts_of") 2 rfl
  obtain ⟨d_names_of, F_names_of⟩ := cd.def_ 3 (d := dd "names_of" 6) rfl
  have b_names_of : Binds K d_names_of ["saying"] [] := F_names_of.bindsN fun _ _ _ _ _ _ us hl => match us, hl with | [_], _ => rfl
  have g_names_of := g (x := "names_of") 3 rfl
  obtain ⟨d_value_of, F_value_of⟩ := cd.def_ 4 (d := dd "value_of" 7) rfl
  have b_value_of : Binds K d_value_of ["saying", "values", "full"] [] := F_value_of.bindsN fun _ _ _ _ _ _ us hl => match us, hl with | [_, _, _], _ => rfl
  have g_value_of := g (x := "value_of") 4 rfl
  obtain ⟨d_value_of_parts, F_value_of_parts⟩ := cd.def_ 5 (d := dd "value_of_parts" 8) rfl
  have b_value_of_parts : Binds K d_value_of_parts ["kind", "parts", "full"] [] := F_value_of_parts.bindsN fun _ _ _ _ _ _ us hl => match us, hl with | [_, _, _], _ => rfl
  have g_value_of_parts := g (x := "value_of_parts") 5 rfl
  obtain ⟨d_holds, F_holds⟩ := cd.def_ 6 (d := dd "holds" 9) rfl
  have b_holds : Binds K d_holds ["saying", "row"] [] := F_holds.bindsN fun _ _ _ _ _ _ us hl => match us, hl with | [_, _], _ => rfl
  have g_holds := g (x := "holds") 6 rfl
  obtain ⟨d__law_tape, F__law_tape⟩ := cd.def_ 7 (d := dd "_law_tape" 11) rfl
  have b__law_tape : Binds K d__law_tape ["_law_script"] [] := F__law_tape.bindsN fun _ _ _ _ _ _ us hl => match us, hl with | [_], _ => rfl
  have g__law_tape := g (x := "_law_tape") 7 rfl
  obtain ⟨d__law_draw, F__law_draw⟩ := cd.def_ 8 (d := dd "_law_draw" 12) rfl
  have b__law_draw : Binds K d__law_draw ["_law_tape_here", "_law_many"] [] := F__law_draw.bindsN fun _ _ _ _ _ _ us hl => match us, hl with | [_, _], _ => rfl
  have g__law_draw := g (x := "_law_draw") 8 rfl
  obtain ⟨d__law_words, F__law_words⟩ := cd.def_ 9 (d := dd "_law_words" 13) rfl
  have b__law_words : Binds K d__law_words ["_law_tape_here", "_law_many"] [] := F__law_words.bindsN fun _ _ _ _ _ _ us hl => match us, hl with | [_, _], _ => rfl
  have g__law_words := g (x := "_law_words") 9 rfl
  obtain ⟨d__law_saying, F__law_saying⟩ := cd.def_ 10 (d := dd "_law_saying" 14) rfl
  have b__law_saying : Binds K d__law_saying ["_law_tape_here", "_law_names_here", "_law_left", "_law_deep"] [] := F__law_saying.bindsN fun _ _ _ _ _ _ us hl => match us, hl with | [_, _, _, _], _ => rfl
  have g__law_saying := g (x := "_law_saying") 10 rfl
  obtain ⟨d__law_value, F__law_value⟩ := cd.def_ 11 (d := dd "_law_value" 15) rfl
  have b__law_value : Binds K d__law_value ["_law_saying_here", "_law_row_here"] [] := F__law_value.bindsN fun _ _ _ _ _ _ us hl => match us, hl with | [_, _], _ => rfl
  have g__law_value := g (x := "_law_value") 11 rfl
  obtain ⟨d__law_row, F__law_row⟩ := cd.def_ 12 (d := dd "_law_row" 16) rfl
  have b__law_row : Binds K d__law_row ["_law_names_here", "_law_number"] [] := F__law_row.bindsN fun _ _ _ _ _ _ us hl => match us, hl with | [_, _], _ => rfl
  have g__law_row := g (x := "_law_row") 12 rfl
  obtain ⟨d__law_names, F__law_names⟩ := cd.def_ 13 (d := dd "_law_names" 17) rfl
  have b__law_names : Binds K d__law_names ["_law_saying_here"] [] := F__law_names.bindsN fun _ _ _ _ _ _ us hl => match us, hl with | [_], _ => rfl
  have g__law_names := g (x := "_law_names") 13 rfl
  obtain ⟨d__law_told, F__law_told⟩ := cd.def_ 14 (d := dd "_law_told" 18) rfl
  have b__law_told : Binds K d__law_told ["_law_saying_here", "_law_row_here"] [] := F__law_told.bindsN fun _ _ _ _ _ _ us hl => match us, hl with | [_, _], _ => rfl
  have g__law_told := g (x := "_law_told") 14 rfl
  obtain ⟨fd, F_law⟩ := cd.def_ 15 (d := dd "law" 19) rfl
  have e := hfa.symm.trans (g (x := "law") 15 rfl)
  cases e
  have b_law := FunD.bindsA (ps := ["_law_script"]) F_law fun _ _ _ _ _ _ us hl => match us, hl with | [_], _ => rfl
  have m_len := fr (x := "len") 16 rfl
  have m_range := fr (x := "range") 17 rfl
  have m_sorted := fr (x := "sorted") 18 rfl
  have m_min := fr (x := "min") 19 rfl
  have m_int := fr (x := "int") 20 rfl
  have m_set := fr (x := "set") 21 rfl
  have m_dict := fr (x := "dict") 22 rfl
  have m_isinstance := fr (x := "isinstance") 23 rfl
  have m_bool := fr (x := "bool") 24 rfl
  have m_KeyError := fr (x := "KeyError") 25 rfl
  obtain ⟨e_NoName, ex0⟩ := both cm
  obtain ⟨err_NoName, ty_NoName, own_NoName⟩ := err_of (x := "NoName") (fl := .name) .key e_NoName (init_of (st := iSt 1) FI_NoName rfl rfl rfl)
  refine ⟨fd, fun s v => b_law s [v] rfl, fun base _ _ => ?_⟩
  have kin := of_decide_eq_true ex0
  have OX : FnOk P w K mg base (L2.CX P w) 2 (He.ga K "refuse_lacking") d_refuse_lacking ["names", "known"] (spRefuse K (He.ga K "NoName")) := ok_refuse F_refuse_lacking { err := err_NoName, tyC := ty_NoName, gC := g_NoName }
  have OP : FnOk P w K mg base CX0 1 (He.ga K "parts_of") d_parts_of ["saying"] (spParts K) := ok_parts (k := 0) F_parts_of
  have ON : FnOk P w K mg base CX0 2 (He.ga K "names_of") d_names_of ["saying"] spNames := ok_names F_names_of OP { gP := g_parts_of, kP := F_parts_of.kp, bP := b_parts_of, msorted := m_sorted }
  have OVP : FnOk P w K mg base CX0 1 (He.ga K "value_of_parts") d_value_of_parts ["kind", "parts", "full"] spVParts := ok_vparts (k := 0) F_value_of_parts
  have OV : FnOk P w K mg base CX0 14 (He.ga K "value_of") d_value_of ["saying", "values", "full"] (spValue 13) := all_value F_value_of OP OVP { gP := g_parts_of, kP := F_parts_of.kp, bP := b_parts_of, gV := g_value_of, kV := F_value_of.kp, bV := b_value_of, gW := g_value_of_parts, kW := F_value_of_parts.kp, bW := b_value_of_parts } 13
  have OH : FnOk P w K mg base (L2.CX P w) 15 (He.ga K "holds") d_holds ["saying", "row"] (spHolds (He.ga K "NoName")) := ok_holds F_holds ON OV OX { gN := g_names_of, kN := F_names_of.kp, bN := b_names_of, gV := g_value_of, kV := F_value_of.kp, bV := b_value_of, gX := g_refuse_lacking, kX := F_refuse_lacking.kp, bX := b_refuse_lacking }
  have OT : FnOk P w K mg base CX0 1 (He.ga K "_law_tape") d__law_tape ["_law_script"] (spTape K) := ok_tape (k := 0) F__law_tape
  have OD : FnOk P w K mg base CX0 11 (He.ga K "_law_draw") d__law_draw ["_law_tape_here", "_law_many"] (spDraw 11) := all_draw F__law_draw b__law_draw g__law_draw m_len 11 (by decide)
  have OW : FnOk P w K mg base CX0 12 (He.ga K "_law_words") d__law_words ["_law_tape_here", "_law_many"] (spWords K) := ok_words (k := 11) (by decide) F__law_words OD b__law_draw g__law_draw F__law_draw.kp m_range
  have OS : FnOk P w K mg base CX0 37 (He.ga K "_law_saying") d__law_saying ["_law_tape_here", "_law_names_here", "_law_left", "_law_deep"] (spSay 26) :=
    all_say F__law_saying OD { gD := g__law_draw, kD := F__law_draw.kp, bD := b__law_draw, gS := g__law_saying, kS := F__law_saying.kp, bS := b__law_saying, ml := m_len, mmin := m_min, mint := m_int } 26
  have OLV : FnOk P w K mg base CX0 14 (He.ga K "_law_value") d__law_value ["_law_saying_here", "_law_row_here"] (spLV 13) := all_lvalue F__law_value { gV := g__law_value, kV := F__law_value.kp, bV := b__law_value } 13
  have LR : Lr mg K (He.ga K "_law_names") d__law_names := { mdict := m_dict, mrange := m_range, mlen := m_len, mset := m_set, msorted := m_sorted, gN := g__law_names, kN := F__law_names.kp, bN := b__law_names }
  have OR : FnOk P w K mg base CX0 1 (He.ga K "_law_row") d__law_row ["_law_names_here", "_law_number"] (spLR K) := ok_lrow (k := 0) F__law_row LR
  have OLN : FnOk P w K mg base CX0 14 (He.ga K "_law_names") d__law_names ["_law_saying_here"] (spLN 13) := all_lnames F__law_names LR 13
  have OTo : FnOk P w K mg base CX0 16 (He.ga K "_law_told") d__law_told ["_law_saying_here", "_law_row_here"] spTold := ok_told F__law_told OH { gH := g_holds, kH := F_holds.kp, bH := b_holds, gE := g_NoName, err := err_NoName, own := own_NoName, kin := kin, misinstance := m_isinstance, mKeyError := m_KeyError }
  exact ok_law F_law { GT := OT, GD := OD, GW := OW, GS := OS, GN := OLN, GP := ON, GR := OR, GO := OTo, GV := OLV, gT := g__law_tape, gD := g__law_draw, gW := g__law_words, gS := g__law_saying, gN := g__law_names, gP := g_names_of, gR := g__law_row, gO := g__law_told, gV := g__law_value, kT := F__law_tape.kp, kD := F__law_draw.kp, kW := F__law_words.kp, kS := F__law_saying.kp, kN := F__law_names.kp, kP := F_names_of.kp, kR := F__law_row.kp, kO := F__law_told.kp, kV := F__law_value.kp, bT := b__law_tape, bD := b__law_draw, bW := b__law_words, bS := b__law_saying, bN := b__law_names, bP := b_names_of, bR := b__law_row, bO := b__law_told, bV := b__law_value, mrange := m_range, misinstance := m_isinstance, mbool := m_bool, mdict := m_dict }
end My
open PySem PySem.W PySem.Calls PyProof.Rows
theorem PySem.Challenge.cw_middlesay_k02_sayings_hold_holds : PySem.Challenge.rw_middlesay_k02_sayings_hold.Holds := by
  w_on; o_law
  refine HandSHeadRun.head_any (r := OpenLaw.row PySem.Challenge.rw_middlesay_k02_sayings_hold) (q := view (OpenLaw.row PySem.Challenge.rw_middlesay_k02_sayings_hold).prog [19]) (H := My.hookM) (ob := My.ob) (M := 4000) (loose := My.loose)
    (d := HandSHeadRun.topDef (OpenLaw.row PySem.Challenge.rw_middlesay_k02_sayings_hold).prog 19) (kwd := []) My.ob_eq
    (by kernel_rfl) (fun s => by kernel_rfl) My.run (by kernel_rfl) (by kernel_rfl) (by kernel_rfl) (by rfl) (by first | assumption | decide +kernel) (by decide +kernel) ⟨rfl, rfl, rfl, rfl, rfl, by decide +kernel⟩ ?hw ?hc
  case hw => w_witness2
  case hc =>
    refine L2.walk_ofE (l := PySem.Challenge.rw_middlesay_k02_sayings_hold) (n := 63) (k := 38) (x := "_law_script") (CX := L2.CX0) rfl (by decide) (by kernel_rfl) ⟨rfl, by decide, by decide⟩ ?F (fun _ _ _ _ z => z)
    intro w mg fa h Y G hmg0
    obtain ⟨K, KX, c⟩ := Y
    have hmg : mg ("law" : PySem.Str) = some (.ref fa) := by
      have e : (HandSHeadRun.topDef (OpenLaw.row PySem.Challenge.rw_middlesay_k02_sayings_hold).prog 19).name = ("law" : PySem.Str) := by kernel_rfl
      rw [← e]
      exact hmg0
    obtain ⟨fd, hb, hF⟩ := My.facts (P := (PySem.Challenge.rw_middlesay_k02_sayings_hold).prog) (w := w) KX G hmg c
    exact ⟨K, fd, My.spLaw K, KX, hb, fun H a ns hl _ hS => ⟨a, ns, rfl, hS, fun _ => rfl⟩, hF⟩
